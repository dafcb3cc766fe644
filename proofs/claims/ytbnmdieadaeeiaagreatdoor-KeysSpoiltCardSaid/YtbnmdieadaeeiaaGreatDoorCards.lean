/-
  DERIVED. GIVEN WITH THE SEED: THE CARDS: each row of YtbnmdieadaeeiaaGreatDoorRows.lean that lists a variable, with what it lists TIED to the program's text (the seventh form; the later family's looks); each row that meets fmt, with fmt's text TOLD by the authors' own Lean function (tested against real Go, not proved from fmt's source: count such statements apart). THE CARD IS WHAT COUNTS. Prove the row's statement (the work); the ties are given (YtbnmdieadaeeiaaGreatDoorTie.lean); close each card by the builder's one call (the guide's Derived/Test/ToyasCard.lean, 'card_holds'). Laid BY PROGRAM, IN A SANDBOX (cutbox-door.mjs). By AI agents, Wed Nov 11 2026. No macro, syntax, notation, axiom, sorry.
-/
import Derived.Test.YtbnmdieadaeeiaaGreatDoorRows
import GoSem.ClaimSeven
namespace Go.Proofs.YtbnmdieadaeeiaaGreatDoor
namespace Rows

/-- THE TIED CARD OF 'ostlerlaw06.KeysPlays'. -/
def keysPlaysCard : Claim7 := { stood := { row := keysPlaysRow, standIns := [], harness := (true, "5057d4c635ad2f39a2578b13ab16e0b7268fd02e695de36b2257053a587fcb40"), looks := false }, kinds := [], alts := [], goes := true, laidByText := true, laidKinds := [.data], laidTests := true, laidLooks := .later }
def KeysPlaysCardSaid : Prop := Claim7.holds Tryz.pinned (.plain (OpenSpec.ofChange keysPlaysSpec)) keysPlaysCard

/-- THE TIED CARD OF 'ostlerlaw06.KeysVerify'. -/
def keysVerifyCard : Claim7 := { stood := { row := keysVerifyRow, standIns := [], harness := (true, "5057d4c635ad2f39a2578b13ab16e0b7268fd02e695de36b2257053a587fcb40"), looks := false }, kinds := [], alts := [], goes := true, laidByText := true, laidKinds := [.data], laidTests := true, laidLooks := .later }
def KeysVerifyCardSaid : Prop := Claim7.holds Tryz.pinned (.plain (OpenSpec.ofChange keysVerifySpec)) keysVerifyCard

/-- THE TIED CARD OF 'ostlerlaw06.KeysSpoilt'. -/
def keysSpoiltCard : Claim7 := { stood := { row := keysSpoiltRow, standIns := [], harness := (true, "5057d4c635ad2f39a2578b13ab16e0b7268fd02e695de36b2257053a587fcb40"), looks := false }, kinds := [], alts := [], goes := true, laidByText := true, laidKinds := [.data], laidTests := true, laidLooks := .later }
def KeysSpoiltCardSaid : Prop := Claim7.holds Tryz.pinned (.plain (OpenSpec.ofChange keysSpoiltSpec)) keysSpoiltCard

/-- THE TIED CARD OF 'ostlerlaw06.KeysBack'. -/
def keysBackCard : Claim7 := { stood := { row := keysBackRow, standIns := [], harness := (true, "5057d4c635ad2f39a2578b13ab16e0b7268fd02e695de36b2257053a587fcb40"), looks := false }, kinds := [], alts := [], goes := true, laidByText := true, laidKinds := [.data], laidTests := true, laidLooks := .later }
def KeysBackCardSaid : Prop := Claim7.holds Tryz.pinned (.plain (OpenSpec.ofChange keysBackSpec)) keysBackCard

/-- THE TIED CARD OF 'ostlerlaw06.KeysMany'. -/
def keysManyCard : Claim7 := { stood := { row := keysManyRow, standIns := [], harness := (true, "5057d4c635ad2f39a2578b13ab16e0b7268fd02e695de36b2257053a587fcb40"), looks := false }, kinds := [], alts := [], goes := true, laidByText := true, laidKinds := [.data], laidTests := true, laidLooks := .later }
def KeysManyCardSaid : Prop := Claim7.holds Tryz.pinned (.plain (OpenSpec.ofChange keysManySpec)) keysManyCard

/-- THE TIED CARD OF 'ostlerlaw06.KeysNone'. -/
def keysNoneCard : Claim7 := { stood := { row := keysNoneRow, standIns := [], harness := (true, "5057d4c635ad2f39a2578b13ab16e0b7268fd02e695de36b2257053a587fcb40"), looks := false }, kinds := [], alts := [], goes := true, laidByText := true, laidKinds := [.data], laidTests := true, laidLooks := .later }
def KeysNoneCardSaid : Prop := Claim7.holds Tryz.pinned (.plain (OpenSpec.ofChange keysNoneSpec)) keysNoneCard
end Rows
end Go.Proofs.YtbnmdieadaeeiaaGreatDoor
