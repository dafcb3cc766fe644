/- Walks of a digest's methods. -/
import Derived.Test.YtdnhpldcnmbncaaDoorShaP
import Derived.Test.YtdnhpldcnmbncaaDoorShaC
namespace Go.Proofs.YtdnhpldcnmbncaaDoor
open Go.RowKit

set_option maxHeartbeats 400000 in
set_option maxRecDepth 100000 in
theorem begin_zero (b : Nat) (st : S8) (bl : List UInt8) (w : World) (hbl : bl.length = 64) (hB : Blk w b (dcells st bl 0) 77) :
    Calls Tryd.prog 76 #[.pointer (some ⟨b, 0, none⟩)] w fun e w' => e = .returned (.tuple #[]) ∧ DigAt w' b [] 0 ∧ Save w.heap.size b w w' := by
  have c72 := hB.cell 72
  rw [dcells_size _ _ _ hbl] at c72
  have hlt := hB.lt
  have hB2 := hB.alloc (.cells (first8.map fun x => Value.int .u32 (U x)).toArray 74)
  have hst := run_store_row (P := Tryd.prog) (o := 0) hB2 (first8.map fun x => Value.int .u32 (U x)) (by rw [dcells_length _ _ _ hbl]; decide) (words_one _)
  rw [dcells_first] at hst
  have HB := Box.mk hB2
  clear hB hB2
  go_enter Tryd.func76, Tryd.ntmps76
  go_wp2_with (go_at_call 86; refine (first_any _).mono ?_; rintro e w' ⟨rfl, rfl⟩)
  go_end0
  refine ⟨rfl, DigAt.start hbl (setRow_blk HB.out _), ?_⟩
  exact ((Save.refl _ _ _).alloc (Nat.le_refl _) _).trans (setRow_save _ _ _ _)
set_option maxHeartbeats 400000 in
set_option maxRecDepth 100000 in
theorem begin_some (b : Nat) (st : S8) (bl : List UInt8) (n : Nat) (w : World) (hbl : bl.length = 64) (hn : 0 < n) (hB : Blk w b (dcells st bl n) 77) :
    Calls Tryd.prog 76 #[.pointer (some ⟨b, 0, none⟩)] w fun e w' => e = .returned (.tuple #[]) ∧ w = w' := by
  have c72 := hB.cell 72
  rw [dcells_size _ _ _ hbl] at c72
  have h0 : ((n : Int) == 0) = false := by simp; omega
  clear hB
  go_enter Tryd.func76, Tryd.ntmps76
  go_wp2
  go_end0
  exact ⟨rfl, rfl⟩
theorem begin_any (b : Nat) (m : List UInt8) (w : World) (h : DigIs w b m) :
    Calls Tryd.prog 76 #[.pointer (some ⟨b, 0, none⟩)] w fun e w' => e = .returned (.tuple #[]) ∧ DigAt w' b m m.length ∧ Save w.heap.size b w w' := by
  by_cases hm : m = []
  · subst hm
    obtain ⟨st, bl, hbl, hB⟩ := h.empty
    exact begin_zero b st bl w hbl hB
  · have hA := h.at hm
    obtain ⟨k, u, bl, hc, hu, hbl, ht, hB⟩ := hA.ex
    refine (begin_some b _ bl _ w hbl (List.length_pos_iff.2 hm) hB).mono fun e w' ⟨he, hw⟩ => ?_
    subst hw
    exact ⟨he, hA, Save.refl _ _ _⟩
end Go.Proofs.YtdnhpldcnmbncaaDoor
