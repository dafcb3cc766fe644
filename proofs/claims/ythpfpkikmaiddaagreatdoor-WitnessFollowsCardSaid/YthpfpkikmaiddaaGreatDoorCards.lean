/-
  DERIVED. GIVEN WITH THE SEED: THE CARDS: each row of YthpfpkikmaiddaaGreatDoorRows.lean that lists a variable, with what it lists TIED to the program's text (the seventh form; the later family's looks); each row that meets fmt, with fmt's text TOLD by the authors' own Lean function (tested against real Go, not proved from fmt's source: count such statements apart). THE CARD IS WHAT COUNTS. Prove the row's statement (the work); the ties are given (YthpfpkikmaiddaaGreatDoorTie.lean); close each card by the builder's one call (the guide's Derived/Test/ToyasCard.lean, 'card_holds'). Laid BY PROGRAM, IN A SANDBOX (cutbox-door.mjs). By AI agents, Wed Nov 11 2026. No macro, syntax, notation, axiom, sorry.
-/
import Derived.Test.YthpfpkikmaiddaaGreatDoorRows
import GoSem.ClaimSeven
namespace Go.Proofs.YthpfpkikmaiddaaGreatDoor
namespace Rows

/-- THE TIED CARD OF 'ostlerlaw12.TlogGrows'. -/
def tlogGrowsCard : Claim7 := { stood := { row := tlogGrowsRow, standIns := [], harness := (true, "b7b9d50f9add5c7642a854cec6f1df0928a604fb79289e2d9b9b9e04318ab3df"), looks := true }, kinds := [], alts := [], laidByText := true, laidKinds := [.data, .data, .data, .data, .data, .sentinel, .sentinel, .pinned], laidTests := true, laidLooks := .later }
def TlogGrowsCardSaid : Prop := Claim7.holds Tryz.pinned (.plain (OpenSpec.ofChange tlogGrowsSpec)) tlogGrowsCard

/-- THE TIED CARD OF 'ostlerlaw13.WitnessFollows'. -/
def witnessFollowsCard : Claim7 := { stood := { row := witnessFollowsRow, standIns := [], harness := (true, "b7b9d50f9add5c7642a854cec6f1df0928a604fb79289e2d9b9b9e04318ab3df"), looks := true }, kinds := [], alts := [], laidByText := true, laidKinds := [.data, .data, .data, .data, .data, .sentinel, .sentinel, .pinned], laidTests := true, laidLooks := .later }
def WitnessFollowsCardSaid : Prop := Claim7.holds Tryz.pinned (.plain (OpenSpec.ofChange witnessFollowsSpec)) witnessFollowsCard

/-- THE TIED CARD OF 'ostlerlaw13.WitnessNone'. -/
def witnessNoneCard : Claim7 := { stood := { row := witnessNoneRow, standIns := [], harness := (true, "b7b9d50f9add5c7642a854cec6f1df0928a604fb79289e2d9b9b9e04318ab3df"), looks := true }, kinds := [], alts := [], laidByText := true, laidKinds := [.data, .data, .data, .data, .data, .sentinel, .sentinel, .pinned], laidTests := true, laidLooks := .later }
def WitnessNoneCardSaid : Prop := Claim7.holds Tryz.pinned (.plain (OpenSpec.ofChange witnessNoneSpec)) witnessNoneCard

/-- THE SECOND FORM's CARD OF 'ostlerlaw12.TlogGrows'. -/
def tlogGrowsUptoCard : Claim7 := { stood := { row := tlogGrowsUptoRow, standIns := [], harness := (true, "b7b9d50f9add5c7642a854cec6f1df0928a604fb79289e2d9b9b9e04318ab3df"), looks := true }, kinds := [], alts := [], laidByText := true, laidKinds := [.data, .data, .data, .data, .data, .sentinel, .sentinel, .pinned], laidTests := true, laidLooks := .later }
def TlogGrowsUptoCardSaid : Prop := Claim7.holds Tryz.pinned (.plain (OpenSpec.upto tlogGrowsSpec)) tlogGrowsUptoCard

/-- THE SECOND FORM's CARD OF 'ostlerlaw13.WitnessFollows'. -/
def witnessFollowsUptoCard : Claim7 := { stood := { row := witnessFollowsUptoRow, standIns := [], harness := (true, "b7b9d50f9add5c7642a854cec6f1df0928a604fb79289e2d9b9b9e04318ab3df"), looks := true }, kinds := [], alts := [], laidByText := true, laidKinds := [.data, .data, .data, .data, .data, .sentinel, .sentinel, .pinned], laidTests := true, laidLooks := .later }
def WitnessFollowsUptoCardSaid : Prop := Claim7.holds Tryz.pinned (.plain (OpenSpec.upto witnessFollowsSpec)) witnessFollowsUptoCard

/-- THE SECOND FORM's CARD OF 'ostlerlaw13.WitnessNone'. -/
def witnessNoneUptoCard : Claim7 := { stood := { row := witnessNoneUptoRow, standIns := [], harness := (true, "b7b9d50f9add5c7642a854cec6f1df0928a604fb79289e2d9b9b9e04318ab3df"), looks := true }, kinds := [], alts := [], laidByText := true, laidKinds := [.data, .data, .data, .data, .data, .sentinel, .sentinel, .pinned], laidTests := true, laidLooks := .later }
def WitnessNoneUptoCardSaid : Prop := Claim7.holds Tryz.pinned (.plain (OpenSpec.upto witnessNoneSpec)) witnessNoneUptoCard
end Rows
end Go.Proofs.YthpfpkikmaiddaaGreatDoor
