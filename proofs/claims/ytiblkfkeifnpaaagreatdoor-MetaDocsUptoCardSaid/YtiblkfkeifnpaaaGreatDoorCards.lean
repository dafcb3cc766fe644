/-
  DERIVED. GIVEN WITH THE SEED: THE CARDS: each row of YtiblkfkeifnpaaaGreatDoorRows.lean that lists a variable, with what it lists TIED to the program's text (the seventh form; the later family's looks); each row that meets fmt, with fmt's text TOLD by the authors' own Lean function (tested against real Go, not proved from fmt's source: count such statements apart). THE CARD IS WHAT COUNTS. Prove the row's statement (the work); the ties are given (YtiblkfkeifnpaaaGreatDoorTie.lean); close each card by the builder's one call (the guide's Derived/Test/ToyasCard.lean, 'card_holds'). Laid BY PROGRAM, IN A SANDBOX (cutbox-door.mjs). By AI agents, Wed Nov 11 2026. No macro, syntax, notation, axiom, sorry.
-/
import Derived.Test.YtiblkfkeifnpaaaGreatDoorRows
import GoSem.ClaimSeven
namespace Go.Proofs.YtiblkfkeifnpaaaGreatDoor
namespace Rows

/-- THE TIED CARD OF 'ostlerlaw14.MetaDocs'. -/
def metaDocsCard : Claim7 := { stood := { row := metaDocsRow, standIns := [], harness := (true, "adce73a899919217957b5220287d775038c28783f2af036c575aba4f1ac71c5b"), looks := false }, kinds := [], alts := [], laidByText := true, laidKinds := [.data, .data, .data, .data], laidTests := true, laidLooks := .later }
def MetaDocsCardSaid : Prop := Claim7.holds Tryz.pinned (.plain (OpenSpec.ofChange metaDocsSpec)) metaDocsCard

/-- THE TIED CARD OF 'ostlerlaw14.MetaBack'. -/
def metaBackCard : Claim7 := { stood := { row := metaBackRow, standIns := [], harness := (true, "adce73a899919217957b5220287d775038c28783f2af036c575aba4f1ac71c5b"), looks := false }, kinds := [], alts := [], laidByText := true, laidKinds := [.data, .data, .data, .data], laidTests := true, laidLooks := .later }
def MetaBackCardSaid : Prop := Claim7.holds Tryz.pinned (.plain (OpenSpec.ofChange metaBackSpec)) metaBackCard

/-- THE TIED CARD OF 'ostlerlaw14.MetaSeals'. -/
def metaSealsCard : Claim7 := { stood := { row := metaSealsRow, standIns := [], harness := (true, "adce73a899919217957b5220287d775038c28783f2af036c575aba4f1ac71c5b"), looks := false }, kinds := [], alts := [], laidByText := true, laidKinds := [.data, .data, .data, .data], laidTests := true, laidLooks := .later }
def MetaSealsCardSaid : Prop := Claim7.holds Tryz.pinned (.plain (OpenSpec.ofChange metaSealsSpec)) metaSealsCard

/-- THE TIED CARD OF 'ostlerlaw14.MetaOpens'. -/
def metaOpensCard : Claim7 := { stood := { row := metaOpensRow, standIns := [], harness := (true, "adce73a899919217957b5220287d775038c28783f2af036c575aba4f1ac71c5b"), looks := false }, kinds := [], alts := [], laidByText := true, laidKinds := [.data, .data, .data, .data], laidTests := true, laidLooks := .later }
def MetaOpensCardSaid : Prop := Claim7.holds Tryz.pinned (.plain (OpenSpec.ofChange metaOpensSpec)) metaOpensCard

/-- THE SECOND FORM's CARD OF 'ostlerlaw14.MetaDocs'. -/
def metaDocsUptoCard : Claim7 := { stood := { row := metaDocsUptoRow, standIns := [], harness := (true, "adce73a899919217957b5220287d775038c28783f2af036c575aba4f1ac71c5b"), looks := false }, kinds := [], alts := [], laidByText := true, laidKinds := [.data, .data, .data, .data], laidTests := true, laidLooks := .later }
def MetaDocsUptoCardSaid : Prop := Claim7.holds Tryz.pinned (.plain (OpenSpec.upto metaDocsSpec)) metaDocsUptoCard

/-- THE SECOND FORM's CARD OF 'ostlerlaw14.MetaBack'. -/
def metaBackUptoCard : Claim7 := { stood := { row := metaBackUptoRow, standIns := [], harness := (true, "adce73a899919217957b5220287d775038c28783f2af036c575aba4f1ac71c5b"), looks := false }, kinds := [], alts := [], laidByText := true, laidKinds := [.data, .data, .data, .data], laidTests := true, laidLooks := .later }
def MetaBackUptoCardSaid : Prop := Claim7.holds Tryz.pinned (.plain (OpenSpec.upto metaBackSpec)) metaBackUptoCard

/-- THE SECOND FORM's CARD OF 'ostlerlaw14.MetaSeals'. -/
def metaSealsUptoCard : Claim7 := { stood := { row := metaSealsUptoRow, standIns := [], harness := (true, "adce73a899919217957b5220287d775038c28783f2af036c575aba4f1ac71c5b"), looks := false }, kinds := [], alts := [], laidByText := true, laidKinds := [.data, .data, .data, .data], laidTests := true, laidLooks := .later }
def MetaSealsUptoCardSaid : Prop := Claim7.holds Tryz.pinned (.plain (OpenSpec.upto metaSealsSpec)) metaSealsUptoCard

/-- THE SECOND FORM's CARD OF 'ostlerlaw14.MetaOpens'. -/
def metaOpensUptoCard : Claim7 := { stood := { row := metaOpensUptoRow, standIns := [], harness := (true, "adce73a899919217957b5220287d775038c28783f2af036c575aba4f1ac71c5b"), looks := false }, kinds := [], alts := [], laidByText := true, laidKinds := [.data, .data, .data, .data], laidTests := true, laidLooks := .later }
def MetaOpensUptoCardSaid : Prop := Claim7.holds Tryz.pinned (.plain (OpenSpec.upto metaOpensSpec)) metaOpensUptoCard
end Rows
end Go.Proofs.YtiblkfkeifnpaaaGreatDoor
