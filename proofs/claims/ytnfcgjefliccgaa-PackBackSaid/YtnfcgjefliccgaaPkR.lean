/- Two readers that hold the same. -/
import Derived.Test.YtnfcgjefliccgaaPkJ
namespace Go.Proofs.Ytnfcgjefliccgaa
open Go.RowKit

theorem quiet_any {P : Program} {ops : Array Oper} {C : World → Prop} {Q : Act → Prop} {a : Act} {o : Oper} {rest : List Oper} (hw : Region.wanted o (yielded ops a.tmps) = true) (v : Value)
    (hv : ∀ w, C w → (execOp a.eval o).run P w = .ok (.value v) w) (h : wpQuiet P ops C Q rest (a.put o.dst v)) : wpQuiet P ops C Q (o :: rest) a := by
  unfold wpQuiet
  simp only [hw, if_true]
  refine ⟨v, fun w hC => ?_, h⟩
  unfold Oper.quietAt
  simp [hv w hC, Oper.quietUpon]

/-- Both readers hold the same. -/
structure Two (w : World) (br bx : Nat) (l : List UInt8) (e : Int) : Prop where
  r : RAt w br 43 l e
  x : RAt w bx 47 l e
theorem Two.ne {w : World} {br bx : Nat} {l : List UInt8} {e : Int} (h : Two w br bx l e) : br ≠ bx := by
  rintro rfl
  have h1 := h.r
  have h2 := h.x
  unfold RAt Blk at h1 h2
  rw [h1] at h2
  simp at h2
/-- What a call of both leaves. -/
structure TwoNext (w : World) (br bx : Nat) (l : List UInt8) (e : Int) (w' : World) : Prop where
  two : Two w' br bx l e
  chg : Chg (fun k => k = br ∨ k = bx) w w'
theorem RAt.chg {S : Nat → Prop} {w w' : World} {b : Nat} {t : TypeId} {l : List UInt8} {e : Int} (h : RAt w b t l e) (hc : Chg S w w') (hn : ¬ S b) : RAt w' b t l e := hc.blk h hn
theorem TwoNext.of {w w1 w2 : World} {br bx : Nat} {l l2 : List UInt8} {e e2 : Int} (h : Two w br bx l e) (h1 : RNext w br 43 l2 e2 w1) (h2 : RNext w1 bx 47 l2 e2 w2) : TwoNext w br bx l2 e2 w2 :=
  ⟨⟨h1.at_.chg h2.chg h.ne, h2.at_⟩, (h1.chg.mono fun _ _ h => .inl h).trans h2.chg fun _ _ h => .inr h⟩

end Go.Proofs.Ytnfcgjefliccgaa
