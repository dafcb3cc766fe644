/-
  DERIVED. GIVEN WITH THE SEED: THE CARDS: each row of YtdjppgmaokcgiaaGreatDoorRows.lean that lists a variable, with what it lists TIED to the program's text (the seventh form; the later family's looks); each row that meets fmt, with fmt's text TOLD by the authors' own Lean function (tested against real Go, not proved from fmt's source: count such statements apart). THE CARD IS WHAT COUNTS. Prove the row's statement (the work); the ties are given (YtdjppgmaokcgiaaGreatDoorTie.lean); close each card by the builder's one call (the guide's Derived/Test/ToyasCard.lean, 'card_holds'). Laid BY PROGRAM, IN A SANDBOX (cutbox-door.mjs). By AI agents, Wed Nov 11 2026. No macro, syntax, notation, axiom, sorry.
-/
import Derived.Test.YtdjppgmaokcgiaaGreatDoorRows
import GoSem.ClaimSeven
namespace Go.Proofs.YtdjppgmaokcgiaaGreatDoor
namespace Rows

/-- THE TIED CARD OF 'ostlerlaw11.NoteSigned'. -/
def noteSignedCard : Claim7 := { stood := { row := noteSignedRow, standIns := [], harness := (true, "58567761cb7b50bb802e71cbb96509ff4dae31efa9fc15b5aa4caac250a6bd5c"), looks := true }, kinds := [], alts := [], laidByText := true, laidKinds := [.data, .data, .data, .data, .data, .sentinel, .sentinel, .pinned], laidTests := true, laidLooks := .later }
def NoteSignedCardSaid : Prop := Claim7.holds Tryz.pinned (.plain (OpenSpec.ofChange noteSignedSpec)) noteSignedCard

/-- THE SECOND FORM's CARD OF 'ostlerlaw11.NoteSigned'. -/
def noteSignedUptoCard : Claim7 := { stood := { row := noteSignedUptoRow, standIns := [], harness := (true, "58567761cb7b50bb802e71cbb96509ff4dae31efa9fc15b5aa4caac250a6bd5c"), looks := true }, kinds := [], alts := [], laidByText := true, laidKinds := [.data, .data, .data, .data, .data, .sentinel, .sentinel, .pinned], laidTests := true, laidLooks := .later }
def NoteSignedUptoCardSaid : Prop := Claim7.holds Tryz.pinned (.plain (OpenSpec.upto noteSignedSpec)) noteSignedUptoCard
end Rows
end Go.Proofs.YtdjppgmaokcgiaaGreatDoor
