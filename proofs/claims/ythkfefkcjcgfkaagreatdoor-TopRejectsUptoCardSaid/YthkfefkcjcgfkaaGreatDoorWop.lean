/- Walks of the program's one, two, secret, links, publicOf. -/
import Derived.Shelf.Abstract
import Derived.Test.YthkfefkcjcgfkaaGreatDoorWrf
import Derived.Test.YthkfefkcjcgfkaaGreatDoorWre
import Derived.Test.YthkfefkcjcgfkaaGreatDoorWa9
import Derived.Test.YthkfefkcjcgfkaaGreatDoorWl1
set_option linter.all false
namespace Go.Proofs.YthkfefkcjcgfkaaGreatDoor
open Go.RowKit

/-- A new row of texts is a slice of them. -/
theorem parts_new (w : World) (ps : List ByteArray) (t : TypeId) : PartsAt (w.alloc (.cells (ps.map Value.string).toArray t)) (.slice (some ⟨w.heap.size, 0, none⟩) ps.length ps.length) ps := by
  refine ⟨some ⟨w.heap.size, 0, none⟩, ps.length, rfl, fun h0 => ⟨w.heap.size, 0, rfl, by simp, fun i hi => ?_⟩⟩
  rw [cell_of_row _ _ _ _ _ _ (heap_alloc_new w _)]
  simp [List.getD, hi]

end Go.Proofs.YthkfefkcjcgfkaaGreatDoor
