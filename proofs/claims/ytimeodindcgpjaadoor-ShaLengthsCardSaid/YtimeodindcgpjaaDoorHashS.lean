/- The document's Hash of a text. -/
import Derived.Test.YtimeodindcgpjaaDoorRefM
namespace Go.Proofs.YtimeodindcgpjaaDoor
open Go.RowKit

theorem bytesWorld_belowL (w : World) (e : TypeId) (s : ByteArray) : Below w.heap.size w (Lib.bytesWorld w e s) :=
  ⟨rfl, rfl, rfl, by rw [Lib.bytesWorld_size]; omega, fun k hk => Lib.bytesWorld_at_old w e s k hk⟩

set_option maxHeartbeats 800000 in
set_option maxRecDepth 100000 in
theorem hash_text (s : ByteArray) (w : World) (hs : s.size ≤ 17592186044416) :
    Calls Tryd.prog 22 #[.string s] w fun e w' => e = .returned (.string (hashOf s.data.toList)) ∧ Below w.heap.size w w' := by
  have hcv := Lib.run_convert_string_bytes (P := Tryd.prog) w 9 44 5 s (u := .string) Tryd.underlying9 Tryd.underlying44 Tryd.underlying5
  have hO := Box.mk (OwnB.made w w.heap.size (Nat.le_refl _) s)
  have hB := Box.mk (bytesWorld_belowL w 5 s)
  have hl : s.data.toList.length ≤ 17592186044416 := by rw [data_len]; exact hs
  generalize grownCap w s.size 0 5 = c at hcv hO
  generalize Lib.bytesWorld w 5 s = w1 at hcv hO hB
  go_enter Tryd.func22, Tryd.ntmps22
  go_wp2_with fail
  refine (rhash_anyB w.heap.size w w1 _ s.data.toList hO hB (Nat.le_refl _) hl).mono ?_
  rintro e w2 ⟨rfl, hB2⟩
  go_wp2_with fail
  go_returns
  exact ⟨rfl, hB2.out⟩
end Go.Proofs.YtimeodindcgpjaaDoor
