/-
  DERIVED. GIVEN WITH THE SEED: THE CARDS: each row of YthnbhaffphopoaaGreatDoorRows.lean that lists a variable, with what it lists TIED to the program's text (the seventh form; the later family's looks); each row that meets fmt, with fmt's text TOLD by the authors' own Lean function (tested against real Go, not proved from fmt's source: count such statements apart). THE CARD IS WHAT COUNTS. Prove the row's statement (the work); the ties are given (YthnbhaffphopoaaGreatDoorTie.lean); close each card by the builder's one call (the guide's Derived/Test/ToyasCard.lean, 'card_holds'). Laid BY PROGRAM, IN A SANDBOX (cutbox-door.mjs). By AI agents, Wed Nov 11 2026. No macro, syntax, notation, axiom, sorry.
-/
import Derived.Test.YthnbhaffphopoaaGreatDoorRows
import GoSem.ClaimSeven
namespace Go.Proofs.YthnbhaffphopoaaGreatDoor
namespace Rows

/-- THE TIED CARD OF 'ostlerlaw12.TlogPlays'. -/
def tlogPlaysCard : Claim7 := { stood := { row := tlogPlaysRow, standIns := [], harness := (true, "eadd7d2995bef947fa9a1b952bc69a10cfadb349eb3418b9178e04d8cefe6030"), looks := true }, kinds := [], alts := [], laidByText := true, laidKinds := [.data, .data, .data, .data, .data, .sentinel, .sentinel, .pinned], laidTests := true, laidLooks := .later }
def TlogPlaysCardSaid : Prop := Claim7.holds Tryz.pinned (.plain (OpenSpec.ofChange tlogPlaysSpec)) tlogPlaysCard

/-- THE TIED CARD OF 'ostlerlaw12.TlogFiles'. -/
def tlogFilesCard : Claim7 := { stood := { row := tlogFilesRow, standIns := [], harness := (true, "eadd7d2995bef947fa9a1b952bc69a10cfadb349eb3418b9178e04d8cefe6030"), looks := true }, kinds := [], alts := [], laidByText := true, laidKinds := [.data, .data, .data, .data, .data, .sentinel, .sentinel, .pinned], laidTests := true, laidLooks := .later }
def TlogFilesCardSaid : Prop := Claim7.holds Tryz.pinned (.plain (OpenSpec.ofChange tlogFilesSpec)) tlogFilesCard

/-- THE TIED CARD OF 'ostlerlaw12.TlogGrows'. -/
def tlogGrowsCard : Claim7 := { stood := { row := tlogGrowsRow, standIns := [], harness := (true, "eadd7d2995bef947fa9a1b952bc69a10cfadb349eb3418b9178e04d8cefe6030"), looks := true }, kinds := [], alts := [], laidByText := true, laidKinds := [.data, .data, .data, .data, .data, .sentinel, .sentinel, .pinned], laidTests := true, laidLooks := .later }
def TlogGrowsCardSaid : Prop := Claim7.holds Tryz.pinned (.plain (OpenSpec.ofChange tlogGrowsSpec)) tlogGrowsCard

/-- THE TIED CARD OF 'ostlerlaw12.TlogNotes'. -/
def tlogNotesCard : Claim7 := { stood := { row := tlogNotesRow, standIns := [], harness := (true, "eadd7d2995bef947fa9a1b952bc69a10cfadb349eb3418b9178e04d8cefe6030"), looks := true }, kinds := [], alts := [], laidByText := true, laidKinds := [.data, .data, .data, .data, .data, .sentinel, .sentinel, .pinned], laidTests := true, laidLooks := .later }
def TlogNotesCardSaid : Prop := Claim7.holds Tryz.pinned (.plain (OpenSpec.ofChange tlogNotesSpec)) tlogNotesCard

/-- THE TIED CARD OF 'ostlerlaw12.TlogForeign'. -/
def tlogForeignCard : Claim7 := { stood := { row := tlogForeignRow, standIns := [], harness := (true, "eadd7d2995bef947fa9a1b952bc69a10cfadb349eb3418b9178e04d8cefe6030"), looks := true }, kinds := [], alts := [], laidByText := true, laidKinds := [.data, .data, .data, .data, .data, .sentinel, .sentinel, .pinned], laidTests := true, laidLooks := .later }
def TlogForeignCardSaid : Prop := Claim7.holds Tryz.pinned (.plain (OpenSpec.ofChange tlogForeignSpec)) tlogForeignCard

/-- THE TIED CARD OF 'ostlerlaw12.TlogNone'. -/
def tlogNoneCard : Claim7 := { stood := { row := tlogNoneRow, standIns := [], harness := (true, "eadd7d2995bef947fa9a1b952bc69a10cfadb349eb3418b9178e04d8cefe6030"), looks := true }, kinds := [], alts := [], laidByText := true, laidKinds := [.data, .data, .data, .data, .data, .sentinel, .sentinel, .pinned], laidTests := true, laidLooks := .later }
def TlogNoneCardSaid : Prop := Claim7.holds Tryz.pinned (.plain (OpenSpec.ofChange tlogNoneSpec)) tlogNoneCard

/-- THE SECOND FORM's CARD OF 'ostlerlaw12.TlogPlays'. -/
def tlogPlaysUptoCard : Claim7 := { stood := { row := tlogPlaysUptoRow, standIns := [], harness := (true, "eadd7d2995bef947fa9a1b952bc69a10cfadb349eb3418b9178e04d8cefe6030"), looks := true }, kinds := [], alts := [], laidByText := true, laidKinds := [.data, .data, .data, .data, .data, .sentinel, .sentinel, .pinned], laidTests := true, laidLooks := .later }
def TlogPlaysUptoCardSaid : Prop := Claim7.holds Tryz.pinned (.plain (OpenSpec.upto tlogPlaysSpec)) tlogPlaysUptoCard

/-- THE SECOND FORM's CARD OF 'ostlerlaw12.TlogFiles'. -/
def tlogFilesUptoCard : Claim7 := { stood := { row := tlogFilesUptoRow, standIns := [], harness := (true, "eadd7d2995bef947fa9a1b952bc69a10cfadb349eb3418b9178e04d8cefe6030"), looks := true }, kinds := [], alts := [], laidByText := true, laidKinds := [.data, .data, .data, .data, .data, .sentinel, .sentinel, .pinned], laidTests := true, laidLooks := .later }
def TlogFilesUptoCardSaid : Prop := Claim7.holds Tryz.pinned (.plain (OpenSpec.upto tlogFilesSpec)) tlogFilesUptoCard

/-- THE SECOND FORM's CARD OF 'ostlerlaw12.TlogGrows'. -/
def tlogGrowsUptoCard : Claim7 := { stood := { row := tlogGrowsUptoRow, standIns := [], harness := (true, "eadd7d2995bef947fa9a1b952bc69a10cfadb349eb3418b9178e04d8cefe6030"), looks := true }, kinds := [], alts := [], laidByText := true, laidKinds := [.data, .data, .data, .data, .data, .sentinel, .sentinel, .pinned], laidTests := true, laidLooks := .later }
def TlogGrowsUptoCardSaid : Prop := Claim7.holds Tryz.pinned (.plain (OpenSpec.upto tlogGrowsSpec)) tlogGrowsUptoCard

/-- THE SECOND FORM's CARD OF 'ostlerlaw12.TlogNotes'. -/
def tlogNotesUptoCard : Claim7 := { stood := { row := tlogNotesUptoRow, standIns := [], harness := (true, "eadd7d2995bef947fa9a1b952bc69a10cfadb349eb3418b9178e04d8cefe6030"), looks := true }, kinds := [], alts := [], laidByText := true, laidKinds := [.data, .data, .data, .data, .data, .sentinel, .sentinel, .pinned], laidTests := true, laidLooks := .later }
def TlogNotesUptoCardSaid : Prop := Claim7.holds Tryz.pinned (.plain (OpenSpec.upto tlogNotesSpec)) tlogNotesUptoCard

/-- THE SECOND FORM's CARD OF 'ostlerlaw12.TlogForeign'. -/
def tlogForeignUptoCard : Claim7 := { stood := { row := tlogForeignUptoRow, standIns := [], harness := (true, "eadd7d2995bef947fa9a1b952bc69a10cfadb349eb3418b9178e04d8cefe6030"), looks := true }, kinds := [], alts := [], laidByText := true, laidKinds := [.data, .data, .data, .data, .data, .sentinel, .sentinel, .pinned], laidTests := true, laidLooks := .later }
def TlogForeignUptoCardSaid : Prop := Claim7.holds Tryz.pinned (.plain (OpenSpec.upto tlogForeignSpec)) tlogForeignUptoCard

/-- THE SECOND FORM's CARD OF 'ostlerlaw12.TlogNone'. -/
def tlogNoneUptoCard : Claim7 := { stood := { row := tlogNoneUptoRow, standIns := [], harness := (true, "eadd7d2995bef947fa9a1b952bc69a10cfadb349eb3418b9178e04d8cefe6030"), looks := true }, kinds := [], alts := [], laidByText := true, laidKinds := [.data, .data, .data, .data, .data, .sentinel, .sentinel, .pinned], laidTests := true, laidLooks := .later }
def TlogNoneUptoCardSaid : Prop := Claim7.holds Tryz.pinned (.plain (OpenSpec.upto tlogNoneSpec)) tlogNoneUptoCard
end Rows
end Go.Proofs.YthnbhaffphopoaaGreatDoor
