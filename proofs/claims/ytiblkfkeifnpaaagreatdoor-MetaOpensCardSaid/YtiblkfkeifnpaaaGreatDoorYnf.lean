/- meta: MetaDocs walked. -/
import Derived.Test.YtiblkfkeifnpaaaGreatDoorYnc
import Derived.Test.YtiblkfkeifnpaaaGreatDoorYa6
set_option linter.all false
namespace Go.Proofs.YtiblkfkeifnpaaaGreatDoor.Me
open Go Go.RowKit Go.Proofs.YtiblkfkeifnpaaaGreatDoor Go.Proofs.YtiblkfkeifnpaaaGreatDoor.Nt
theorem dec_ok {l : List UInt8} : DcOk (decM l).1 := by
  unfold decM
  split
  · exact rd_len l 0
  · exact ⟨Nat.zero_le _, Nat.zero_le _, Nat.zero_le _, Nat.zero_le _, Nat.zero_le _, Nat.zero_le _, Nat.zero_le _, Nat.zero_le _, Nat.zero_le _⟩
end Go.Proofs.YtiblkfkeifnpaaaGreatDoor.Me
