/- region_calm_tail with the head and the tail told by lists of places: the head's operations needn't stand first in the text. No program is named. -/
import Derived.Test.YtdnhpldcnmbncaaDoorQv
namespace Go.Proofs.YtdnhpldcnmbncaaDoor
open Go

/-- The operations at these places. -/
def nth (ops : Array Oper) (is : List Nat) : List Oper := is.filterMap fun k => ops[k]?
theorem nth_cons {ops : Array Oper} {k : Nat} {o : Oper} (is : List Nat) (h : ops[k]? = some o) : nth ops (k :: is) = o :: nth ops is := by simp [nth, h]

def seqI (md : Region.Mode) (ops : Array Oper) : List Nat → Array Bool → Bool
  | [], listed => (Region.ready md ops listed).isEmpty
  | k :: ts, listed => decide (Region.ready md ops listed = [k]) && seqI md ops ts (listed.setIfInBounds k true)
def headI (md : Region.Mode) (ops : Array Oper) (ts : List Nat) : List Nat → Array Bool → Bool
  | [], listed => seqI md ops ts listed
  | k :: is, listed => (Region.ready md ops listed).contains k && Region.free md ops listed k && headI md ops ts is (listed.setIfInBounds k true)

section
variable {P : Program} {md : Region.Mode} {ops : Array Oper} {C : World → Prop}
theorem anyGo_seqI {Q : Act → World → Prop} : ∀ (ts : List Nat) (listed : Array Bool) (a : Act) (w : World),
    seqI md ops ts listed = true → wpChain P ops C Q (nth ops ts) a w → anyGo P md ops C Q ts.length listed a w
  | [], _, _, _, hB, h => ⟨by simpa [seqI] using hB, h⟩
  | k :: ts, listed, a, w, hB, h => by
    simp only [seqI, Bool.and_eq_true, decide_eq_true_eq] at hB
    have hk : k ∈ Region.ready md ops listed := by rw [hB.1]; exact List.mem_singleton.2 rfl
    obtain ⟨_, o, h0, _⟩ := mem_ready.1 hk
    rw [nth_cons ts h0] at h
    refine ⟨fun h1 => (by rw [hB.1] at h1; cases h1), fun i hi => ?_⟩
    rw [hB.1] at hi
    have hik : i = k := by simpa using hi
    subst hik
    have hw : goOp P ops i (fun a' w' => C w' ∧ wpChain P ops C Q (nth ops ts) a' w') a w := by unfold goOp; simp only [h0]; exact h
    exact goOp_mono (fun a' w' h' => ⟨h'.1, anyGo_seqI ts _ a' w' hB.2 h'.2⟩) hw

theorem anyGo_headI {Q : Act → World → Prop} (hsel : Region.noSelect ops = true) (ts : List Nat) (w : World) (hC : C w) :
    ∀ (is : List Nat) (listed : Array Bool) (a : Act), headI md ops ts is listed = true →
    wpPlain P ops C (fun a' => wpChain P ops C Q (nth ops ts) a' w) (nth ops is) a → anyGo P md ops C Q (is.length + ts.length) listed a w
  | [], listed, a, hB, h => by
    have := anyGo_seqI (Q := Q) ts listed a w (by simpa [headI] using hB) h
    simpa using this
  | k :: is, listed, a, hB, h => by
    simp only [headI, Bool.and_eq_true] at hB
    obtain ⟨⟨hr, hf⟩, hB'⟩ := hB
    have hr' : k ∈ Region.ready md ops listed := by simpa using hr
    obtain ⟨_, o, h0, _⟩ := mem_ready.1 hr'
    rw [nth_cons is h0] at h
    have hy : ∃ v, YieldsP P ops C o v a ∧ wpPlain P ops C (fun a' => wpChain P ops C Q (nth ops ts) a' w) (nth ops is) (a.put o.dst v) := by
      unfold wpPlain at h
      by_cases hw : Region.wanted o (yielded ops a.tmps) = true
      · simp only [hw, if_true] at h
        obtain ⟨v, h1, h2⟩ := h
        exact ⟨v, .inl ⟨hw, h1⟩, h2⟩
      · simp only [hw] at h
        exact ⟨undef, .inr ⟨by simpa using hw, rfl⟩, h⟩
    obtain ⟨v, hy1, hy2⟩ := hy
    have := anyGo_first h0 (Region.noSelect_spec hsel) (is.length + ts.length) listed a w hC (Region.free_spec h0 hf) hr' hy1
      (anyGo_headI hsel ts w hC is _ _ hB' hy2)
    rw [List.length_cons, show is.length + 1 + ts.length = is.length + ts.length + 1 by omega]
    exact this
end

theorem region_calm_at {P : Program} {C : World → Prop} {id : Nat} {Q : Exit → Act → World → Prop} {a : Act} {w : World} {l : List Oper} (is ts : List Nat) (hm : P.follows .mixedOrders = true)
    (hsel : Region.noSelect l.toArray = true) (hlen : is.length + ts.length = l.length) (hB : headI .any l.toArray ts is (Array.replicate l.length false) = true)
    (hcalm : ((nth l.toArray is).all fun o => calm o.op) = true) (hC : C w.drew)
    (h : wpQuiet P l.toArray C (fun a' => wpChain P l.toArray C (Q .normal) (nth l.toArray ts) a' w.drew) (nth l.toArray is) a) : (Code.region id l.toArray true).wp P Q a w := by
  refine wp_region_any hm ?_
  have := anyGo_headI (md := .any) (Q := Q .normal) hsel ts w.drew hC is (Array.replicate l.length false) a hB (plain_of_quiet _ _ hcalm h)
  rw [hlen] at this
  have h2 := any_of_go (fun _ _ h => h) _ _ _ _ this
  simpa using h2
end Go.Proofs.YtdnhpldcnmbncaaDoor
