/- Walk of sha.Unhex. -/
import Derived.Test.YtdnhpldcnmbncaaDoorHexB
namespace Go.Proofs.YtdnhpldcnmbncaaDoor
open Go.RowKit

theorem byte_new (w : World) (x : UInt8) : ∀ j, j < [x].length → (w.alloc (.cells #[Value.int .u8 (x.toNat : Int)] 5)).cell? ⟨w.heap.size, j, none⟩ = ([x].map yc)[j]? := by
  intro j hj
  obtain rfl : j = 0 := by simpa using hj
  rw [World.cell?_alloc_at _ _ _ _ rfl]; rfl

end Go.Proofs.YtdnhpldcnmbncaaDoor
