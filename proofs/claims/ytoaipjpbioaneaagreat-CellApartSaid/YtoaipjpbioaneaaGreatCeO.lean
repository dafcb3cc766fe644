/- Things in memory, side by side: each with the blocks that are its own; what a call does to one leaves the others. No function is named. -/
import Derived.Test.YtoaipjpbioaneaaGreatCeV
namespace Go.Proofs.YtoaipjpbioaneaaGreat
open Go.RowKit Go.Maps

/-- A thing in memory: in a world, with the blocks that are its own. -/
abbrev Obj := World → (Nat → Prop) → Prop
def Ext (F : Nat → Prop) (w w' : World) : Nat → Prop := fun k => F k ∨ (w.heap.size ≤ k ∧ k < w'.heap.size)
structure Good (O : Obj) : Prop where
  lt : ∀ {w F}, O w F → ∀ k, F k → k < w.heap.size
  chg : ∀ {w w' F} {S : Nat → Prop}, O w F → Chg S w w' → (∀ k, F k → ¬ S k) → O w' F
  wide : ∀ {w F} {G : Nat → Prop}, O w F → (∀ k, F k → G k) → (∀ k, G k → k < w.heap.size) → O w G
theorem Good.below {O : Obj} (g : Good O) {w w' : World} {F : Nat → Prop} (h : O w F) (hb : Below w.heap.size w w') : O w' F := g.chg h (Chg.of_below hb) fun k hk => by have := g.lt h k hk; omega
/-- Two things that share nothing. -/
def Pair2 (O1 O2 : Obj) : Obj := fun w F => ∃ F1 F2, O1 w F1 ∧ O2 w F2 ∧ (∀ k, F1 k → ¬ F2 k) ∧ (∀ k, F1 k → F k) ∧ (∀ k, F2 k → F k) ∧ ∀ k, F k → k < w.heap.size
theorem Pair2.good {O1 O2 : Obj} (g1 : Good O1) (g2 : Good O2) : Good (Pair2 O1 O2) where
  lt := fun ⟨_, _, _, _, _, _, _, h⟩ => h
  chg := fun ⟨F1, F2, h1, h2, hd, e1, e2, hl⟩ hc hn => ⟨F1, F2, g1.chg h1 hc fun k hk => hn k (e1 k hk), g2.chg h2 hc fun k hk => hn k (e2 k hk), hd, e1, e2, fun k hk => Nat.lt_of_lt_of_le (hl k hk) hc.size⟩
  wide := fun ⟨F1, F2, h1, h2, hd, e1, e2, _⟩ hG hl => ⟨F1, F2, h1, h2, hd, fun k hk => hG k (e1 k hk), fun k hk => hG k (e2 k hk), hl⟩
theorem Pair2.swap {O1 O2 : Obj} {w : World} {F : Nat → Prop} (h : Pair2 O1 O2 w F) : Pair2 O2 O1 w F := by
  obtain ⟨F1, F2, h1, h2, hd, e1, e2, hl⟩ := h
  exact ⟨F2, F1, h2, h1, fun k hk hk2 => hd k hk2 hk, e2, e1, hl⟩
theorem Pair2.assoc {O1 O2 O3 : Obj} {w : World} {F : Nat → Prop} (h : Pair2 (Pair2 O1 O2) O3 w F) : Pair2 O1 (Pair2 O2 O3) w F := by
  obtain ⟨F12, F3, ⟨F1, F2, h1, h2, hd, e1, e2, hl⟩, h3, hd3, e12, e3, hl2⟩ := h
  refine ⟨F1, fun k => F2 k ∨ F3 k, h1, ⟨F2, F3, h2, h3, fun k hk => hd3 k (e2 k hk), fun _ => .inl, fun _ => .inr, fun k hk => hl2 k (hk.elim (fun hk => e12 k (e2 k hk)) (e3 k))⟩, fun k hk hk2 => hk2.elim (hd k hk) (hd3 k (e1 k hk)), fun k hk => e12 k (e1 k hk), fun k hk => hk.elim (fun hk => e12 k (e2 k hk)) (e3 k), hl2⟩
theorem Pair2.assoc' {O1 O2 O3 : Obj} {w : World} {F : Nat → Prop} (h : Pair2 O1 (Pair2 O2 O3) w F) : Pair2 (Pair2 O1 O2) O3 w F :=
  Pair2.swap (Pair2.assoc (Pair2.swap (Pair2.assoc (Pair2.swap h))))
/-- A call takes a thing to another: what it answers may tell which. -/
def Does (f : FuncId) (args : Array Value) (O : Obj) (Q : Ending → Obj) : Prop :=
  ∀ w F, O w F → Calls Tryz.prog f args w fun e w' => Box (Q e w' (Ext F w w') ∧ Chg F w w')
theorem Does.beside {f : FuncId} {args : Array Value} {O : Obj} {Q : Ending → Obj} (h : Does f args O Q) {O2 : Obj} (g2 : Good O2) : Does f args (Pair2 O O2) fun e => Pair2 (Q e) O2 := by
  rintro w F ⟨F1, F2, h1, h2, hd, e1, e2, hl⟩
  refine (h w F1 h1).mono fun e w' hb => ⟨⟨Ext F1 w w', F2, hb.out.1, g2.chg h2 hb.out.2 fun k hk hk2 => hd k hk2 hk, fun k hk hk2 => ?_, fun k hk => ?_, fun k hk => .inl (e2 k hk), fun k hk => ?_⟩, hb.out.2.mono fun k _ hk => e1 k hk⟩
  · rcases hk with hk | hk
    · exact hd k hk hk2
    · have := g2.lt h2 k hk2; omega
  · rcases hk with hk | hk
    · exact .inl (e1 k hk)
    · exact .inr hk
  · rcases hk with hk | hk
    · exact Nat.lt_of_lt_of_le (hl k hk) hb.out.2.size
    · exact hk.2
theorem Does.conv {f : FuncId} {args : Array Value} {O O' : Obj} {Q Q' : Ending → Obj} (h : Does f args O Q) (hO : ∀ w F, O' w F → O w F) (hQ : ∀ e w F, Q e w F → Q' e w F) : Does f args O' Q' :=
  fun w F hw => (h w F (hO w F hw)).mono fun _ _ hb => ⟨hQ _ _ _ hb.out.1, hb.out.2⟩
/-- What a walk keeps: a thing whose blocks are all new, nothing that was there has changed. -/
def Kept (w0 : World) (O : Obj) (w : World) : Prop := ∃ F, O w F ∧ (∀ k, F k → w0.heap.size ≤ k) ∧ Below w0.heap.size w0 w
theorem Kept.call {w0 w : World} {O : Obj} {f : FuncId} {args : Array Value} {Q : Ending → Obj} (h : Kept w0 O w) (hd : Does f args O Q) : Calls Tryz.prog f args w fun e w' => Box (Kept w0 (Q e) w') := by
  obtain ⟨F, h1, h2, h3⟩ := h
  refine (hd w F h1).mono fun e w' hb => ⟨_, hb.out.1, fun k hk => ?_, h3.trans (hb.out.2.below h3.size h2)⟩
  rcases hk with hk | hk
  · exact h2 k hk
  · exact Nat.le_trans h3.size hk.1
theorem Kept.below {w0 w w' : World} {O : Obj} (h : Kept w0 O w) (g : Good O) (hb : Below w.heap.size w w') : Kept w0 O w' := by
  obtain ⟨F, h1, h2, h3⟩ := h
  exact ⟨F, g.below h1 hb, h2, h3.trans (hb.mono h3.size)⟩
theorem Kept.conv {w0 w : World} {O O' : Obj} (h : Kept w0 O w) (hO : ∀ F, O w F → O' w F) : Kept w0 O' w := by
  obtain ⟨F, h1, h2⟩ := h
  exact ⟨F, hO F h1, h2⟩
theorem Kept.k {w0 w : World} {O : Obj} (h : Kept w0 O w) : Below w0.heap.size w0 w := by
  obtain ⟨F, _, _, h3⟩ := h
  exact h3
/-- A call that makes a new thing beside what is there. -/
theorem Kept.add {w0 w w' : World} {O O2 : Obj} {G : Nat → Prop} (h : Kept w0 O w) (g : Good O) (hb : Below w.heap.size w w') (h2 : O2 w' G) (g2 : Good O2) (hG : ∀ k, G k → w.heap.size ≤ k) : Kept w0 (Pair2 O O2) w' := by
  obtain ⟨F, h1, h3, h4⟩ := h
  have hl := g.lt h1
  refine ⟨fun k => F k ∨ G k, ⟨F, G, g.below h1 hb, h2, fun k hk hk2 => ?_, fun _ => .inl, fun _ => .inr, fun k hk => ?_⟩, fun k hk => ?_, h4.trans (hb.mono h4.size)⟩
  · have := hl k hk; have := hG k hk2; omega
  · rcases hk with hk | hk
    · exact Nat.lt_of_lt_of_le (hl k hk) hb.size
    · exact g2.lt h2 k hk
  · rcases hk with hk | hk
    · exact h3 k hk
    · exact Nat.le_trans h4.size (hG k hk)
theorem Ext.of_below {w w' : World} {F : Nat → Prop} {O : Obj} (g : Good O) (h : O w F) (hb : Below w.heap.size w w') : O w' (Ext F w w') ∧ Chg F w w' :=
  ⟨g.wide (g.below h hb) (fun _ => .inl) (fun k hk => by
    rcases hk with hk | hk
    · exact Nat.lt_of_lt_of_le (g.lt h k hk) hb.size
    · exact hk.2), (Chg.of_below hb).mono fun i hi hk => by omega⟩
theorem Ext.same {w : World} {F : Nat → Prop} {O : Obj} (g : Good O) (h : O w F) : O w (Ext F w w) ∧ Chg F w w := Ext.of_below g h (Below.refl _ _)
end Go.Proofs.YtoaipjpbioaneaaGreat
