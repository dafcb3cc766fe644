/- More plain facts on the hash: what a row of rounds has come to. No program is named. -/
import Derived.Test.YtdnhpldcnmbncaaDoorShaM
namespace Go.Proofs.YtdnhpldcnmbncaaDoor
open Go.RowKit

/-- A fact in a box that nothing looks into. -/
structure Box (p : Prop) : Prop where
  out : p
/-- The second world is the first after some draws. -/
structure Drawn (w w' : World) : Prop where
  out : ∃ n, w' = w.drewN n
theorem Drawn.drewN {w w' : World} (h : Drawn w w') (n : Nat) : Drawn w (w'.drewN n) := by
  obtain ⟨m, rfl⟩ := h.out
  exact ⟨_, World.drewN_drewN _ _ _⟩
theorem Drawn.of2 (w : World) (n m : Nat) : Drawn w ((w.drewN n).drewN m) := ⟨_, World.drewN_drewN _ _ _⟩
theorem Drawn.blk {w w' : World} (h : Drawn w w') {b : Nat} {cs : List Value} {t : TypeId} (hb : Blk w b cs t) : Blk w' b cs t := by
  obtain ⟨m, rfl⟩ := h.out; exact hb
theorem Drawn.cell {w w' : World} (h : Drawn w w') (p : Addr) : w'.cell? p = w.cell? p := by
  obtain ⟨m, rfl⟩ := h.out; rfl
theorem Drawn.below {B : Nat} {w w' : World} (h : Drawn w w') : Below B w w' := by
  obtain ⟨m, rfl⟩ := h.out; exact ⟨rfl, rfl, rfl, Nat.le_refl _, fun _ _ => rfl⟩
theorem set8 {w : World} {b : Nat} {t0 : TypeId} {rest : List Value} (st : S8) (x0 x1 x2 x3 x4 x5 x6 x7 : BitVec 32) (h : Blk w b (st.cells ++ rest) t0) :
    Blk ((((((((w.setCell ⟨b, 0, none⟩ (.int .u32 (U x0))).setCell ⟨b, 1, none⟩ (.int .u32 (U x1))).setCell ⟨b, 2, none⟩ (.int .u32 (U x2))).setCell ⟨b, 3, none⟩ (.int .u32 (U x3))).setCell ⟨b, 4, none⟩ (.int .u32 (U x4))).setCell ⟨b, 5, none⟩ (.int .u32 (U x5))).setCell ⟨b, 6, none⟩ (.int .u32 (U x6))).setCell ⟨b, 7, none⟩ (.int .u32 (U x7)))
      b ((S8.mk x0 x1 x2 x3 x4 x5 x6 x7).cells ++ rest) t0 := by
  have := (((((((h.setCell 0 (.int .u32 (U x0))).setCell 1 (.int .u32 (U x1))).setCell 2 (.int .u32 (U x2))).setCell 3 (.int .u32 (U x3))).setCell 4 (.int .u32 (U x4))).setCell 5 (.int .u32 (U x5))).setCell 6 (.int .u32 (U x6))).setCell 7 (.int .u32 (U x7))
  simpa [S8.cells, S8.list] using this
theorem set8_save {w w0 : World} {b B : Nat} (h : Save B b w0 w) (x0 x1 x2 x3 x4 x5 x6 x7 : Value) :
    Save B b w0 ((((((((w.setCell ⟨b, 0, none⟩ x0).setCell ⟨b, 1, none⟩ x1).setCell ⟨b, 2, none⟩ x2).setCell ⟨b, 3, none⟩ x3).setCell ⟨b, 4, none⟩ x4).setCell ⟨b, 5, none⟩ x5).setCell ⟨b, 6, none⟩ x6).setCell ⟨b, 7, none⟩ x7) :=
  (((((((h.setCell (.inl rfl) _).setCell (.inl rfl) _).setCell (.inl rfl) _).setCell (.inl rfl) _).setCell (.inl rfl) _).setCell (.inl rfl) _).setCell (.inl rfl) _).setCell (.inl rfl) _
/-- These are a block's words. -/
structure SchedIs (l : List UInt8) (W : List (BitVec 32)) : Prop where
  eq : W = schedTo l 64
theorem SchedIs.len {l : List UInt8} {W : List (BitVec 32)} (h : SchedIs l W) : W.length = 64 := by rw [h.eq]; exact schedTo_length l 64

/-- After k rounds the eight words are these. -/
structure RoundsAre (W : List (BitVec 32)) (st : S8) (k : Nat) (a b c d e f g h : BitVec 32) : Prop where
  eq : rounds W st k = ⟨a, b, c, d, e, f, g, h⟩
theorem RoundsAre.zero (W : List (BitVec 32)) (st : S8) : RoundsAre W st 0 st.a st.b st.c st.d st.e st.f st.g st.h := ⟨rfl⟩
theorem RoundsAre.step {W : List (BitVec 32)} {st : S8} {k : Nat} {a b c d e f g h kt wt : BitVec 32} (H : RoundsAre W st k a b c d e f g h) (hk : Box (k64.getD k 0 = kt)) (hw : Box (W.getD k 0 = wt)) :
    RoundsAre W st (k + 1) (h + S1 e + ((e &&& f) ^^^ (~~~ e &&& g)) + kt + wt + (S0 a + ((a &&& b) ^^^ (a &&& c) ^^^ (b &&& c)))) a b c (d + (h + S1 e + ((e &&& f) ^^^ (~~~ e &&& g)) + kt + wt)) e f g := by
  obtain ⟨rfl⟩ := hk
  obtain ⟨rfl⟩ := hw
  constructor
  rw [rounds, H.eq]; rfl
theorem RoundsAre.comp {l : List UInt8} {W : List (BitVec 32)} {st : S8} {a b c d e f g h : BitVec 32} (hW : SchedIs l W) (H : RoundsAre W st 64 a b c d e f g h) :
    comp l st = ⟨st.a + a, st.b + b, st.c + c, st.d + d, st.e + e, st.f + f, st.g + g, st.h + h⟩ := by
  have e := H.eq
  rw [hW.eq] at e
  rw [Proofs.YtdnhpldcnmbncaaDoor.comp, e]
end Go.Proofs.YtdnhpldcnmbncaaDoor
