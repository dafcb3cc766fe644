/- Walk of the first line of each law of this layer: the document's first example. -/
import Derived.Test.YtdjppgmaokcgiaaDoorAbc
namespace Go.Proofs.YtdjppgmaokcgiaaDoor
open Go.RowKit

def abc : ByteArray := { data := #[97, 98, 99] }
theorem flat_one (s : ByteArray) : flat [s] = s.data.toList := by simp [flat]
theorem abc_text : (⟨(hexL (hashOf [97, 98, 99]).data.toList).toArray⟩ : ByteArray) = ⟨abcHex.toArray⟩ := by
  have : (hashOf [97, 98, 99]).data.toList = hashL [97, 98, 99] := rfl
  rw [this, abc_hex]
theorem hash_size (m : List UInt8) : (hashOf m).size = 32 := rfl

end Go.Proofs.YtdjppgmaokcgiaaDoor
