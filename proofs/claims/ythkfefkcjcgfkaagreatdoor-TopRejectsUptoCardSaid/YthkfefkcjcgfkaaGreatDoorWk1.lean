/- Verify: over, idOf, climb, parse, Number, Verify; small facts on worlds. -/
import Derived.Laws.MakeOwn
import Derived.Test.YthkfefkcjcgfkaaGreatDoorWrf
import Derived.Test.YthkfefkcjcgfkaaGreatDoorWpk
import Derived.Test.YthkfefkcjcgfkaaGreatDoorWop
import Derived.Test.YthkfefkcjcgfkaaGreatDoorWa9
set_option linter.all false
namespace Go.Proofs.YthkfefkcjcgfkaaGreatDoor
open Go Go.RowKit

theorem chg0 {S : Nat → Prop} {w w' : World} (h : Below w.heap.size w w') : Pk.Chg S w w' := (Pk.Chg.of_below h).mono fun i hi e => absurd hi (by omega)
theorem dB (w : World) : Below w.heap.size w w.drew := Drawn.below ⟨1, rfl⟩
theorem mono_bel {B : Nat} {w w1 w2 : World} (h : Below B w w1) (k : Below w1.heap.size w1 w2) (hB : B ≤ w.heap.size) : Below B w w2 := h.trans (k.mono (Nat.le_trans hB h.size))

theorem info_s : (Tryz.prog.info? 9).map (fun i => (i.zero, i.size, i.bytes)) = some (some (.string ⟨#[]⟩), 1, 16) := by kernel_rfl
end Go.Proofs.YthkfefkcjcgfkaaGreatDoor
