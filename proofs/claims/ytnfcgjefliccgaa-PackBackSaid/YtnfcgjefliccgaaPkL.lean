/- Walk of the first line of each law of this layer: the document's first example. -/
import Derived.Test.YtnfcgjefliccgaaPkC
namespace Go.Proofs.Ytnfcgjefliccgaa
open Go.RowKit

theorem new_writer (w : World) (t : TypeId) : WAt (w.alloc (.cells #[.slice none 0 0, .bool false] t)) w.heap.size t (.slice none 0 0) [] false :=
  ⟨Blk.new w [.slice none 0 0, .bool false] t, Own.nil _⟩
/-- What a writer's call leaves, seen from below block B. -/
theorem WNext.below {w0 w1 w2 : World} {B b : Nat} {t : TypeId} {v : Value} {l : List UInt8} {bad : Bool} (h : WNext w1 b t v l bad w2) (hB : Below B w0 w1) (hb : B ≤ b) (hs : B ≤ w0.heap.size) (hv : ∀ k, v.ownBlock = some k → B ≤ k) :
    ∃ v', WAt w2 b t v' l bad ∧ Below B w0 w2 ∧ ∀ k, v'.ownBlock = some k → B ≤ k := by
  obtain ⟨v', hA, hC, hP⟩ := h.out
  have hsz := hB.size
  refine ⟨v', hA, hB.trans (hC.below (by omega) ?_), fun k hk => ?_⟩
  · rintro i (rfl | h)
    · exact hb
    · exact hv i h
  · rcases hP k hk with h | h
    · exact hv k h
    · omega
def ab : ByteArray := { data := #[97, 98] }

set_option maxHeartbeats 800000 in
set_option maxRecDepth 100000 in
theorem lays_any (w : World) :
    Calls Try.prog 7 #[] w fun e w' => e = .returned (.bool true) ∧ Below w.heap.size w w' := by
  have hB0 : Below w.heap.size w (w.alloc (.cells #[.slice none 0 0, .bool false] 26)) := (Below.refl _ _).alloc (Nat.le_refl _) _
  have h0 := new_writer w 26
  have hC1 := two_any w.heap.size (.slice none 0 0) [] false 258 _ h0 (by simp)
  rw [show lays (fits 258 2) (beN (Int.toNat 258) 2) [] false = [1, 2] by decide, show (false || !fits 258 2) = false by decide] at hC1
  replace hC1 := Box.mk hC1
  replace hB0 := Box.mk hB0
  clear h0
  go_enter Try.func7, Try.ntmps7
  go_wp2_with fail
  refine hC1.out.mono ?_
  rintro e w1 ⟨rfl, hn⟩
  obtain ⟨v1, hA1, hB1, hv1⟩ := hn.below hB0.out (Nat.le_refl _) (Nat.le_refl _) (fun k hk => by cases hk)
  have hC2 := text_any w.heap.size v1 _ false ab w1 hA1 (by simp)
  rw [show lays (decide (ab.size ≤ 65535)) (textL ab) [1, 2] false = [1, 2, 0, 2, 97, 98] by decide, show (false || !decide (ab.size ≤ 65535)) = false by decide] at hC2
  replace hC2 := Box.mk hC2
  replace hB1 := Box.mk hB1
  replace hv1 := Box.mk hv1
  clear hn hA1 hC1
  go_wp2_with fail
  refine hC2.out.mono ?_
  rintro e w2 ⟨rfl, hn⟩
  obtain ⟨v2, hA2, hB2, hv2⟩ := hn.below hB1.out (Nat.le_refl _) (Nat.le_refl _) hv1.out
  have hC3 := byte_any w.heap.size v2 _ false 7 w2 hA2 (by simp)
  rw [show lays (fits 7 1) (beN (Int.toNat 7) 1) [1, 2, 0, 2, 97, 98] false = [1, 2, 0, 2, 97, 98, 7] by decide, show (false || !fits 7 1) = false by decide] at hC3
  replace hC3 := Box.mk hC3
  replace hB2 := Box.mk hB2
  replace hv2 := Box.mk hv2
  clear hn hA2 hC2
  go_wp2_with fail
  refine hC3.out.mono ?_
  rintro e w3 ⟨rfl, hn⟩
  obtain ⟨v3, hA3, hB3, hv3⟩ := hn.below hB2.out (Nat.le_refl _) (Nat.le_refl _) hv2.out
  have hC4 := bytes_any w.heap.size v3 _ false w3 hA3
  rw [show bytesR [1, 2, 0, 2, 97, 98, 7] false = .tuple #[.string { data := #[1, 2, 0, 2, 97, 98, 7] }, .int .i64 0] from rfl] at hC4
  replace hC4 := Box.mk hC4
  replace hB3 := Box.mk hB3
  clear hn hA3 hC3 hv3
  go_wp2_with fail
  refine hC4.out.mono ?_
  rintro e w4 ⟨rfl, rfl⟩
  go_wp2_with fail
  go_returns
  exact ⟨rfl, hB3.out⟩
end Go.Proofs.Ytnfcgjefliccgaa
