/-
  DERIVED. GIVEN WITH THE SEED: THE CARDS: each row of YthchfagfhialiaaDoorRows.lean that lists a variable, with what it lists TIED to the program's text (the seventh form; the later family's looks); each row that meets fmt, with fmt's text TOLD by the authors' own Lean function (tested against real Go, not proved from fmt's source: count such statements apart). THE CARD IS WHAT COUNTS. Prove the row's statement (the work); the ties are given (YthchfagfhialiaaDoorTie.lean); close each card by the builder's one call (the guide's Derived/Test/ToyasCard.lean, 'card_holds'). Laid BY PROGRAM, IN A SANDBOX (cutbox-door.mjs). By AI agents, Wed Nov 11 2026. No macro, syntax, notation, axiom, sorry.
-/
import Derived.Test.YthchfagfhialiaaDoorRows
import GoSem.ClaimSeven
namespace Go.Proofs.YthchfagfhialiaaDoor
namespace Rows

/-- THE TIED CARD OF 'ostlerlaw05.OtsSigns'. -/
def otsSignsCard : Claim7 := { stood := { row := otsSignsRow, standIns := [], harness := (true, "cf887709d2d2202b9aaa3290e0feb74e05e499d71cfeed7674487bef5a60125f"), looks := false }, kinds := [], alts := [], laidByText := true, laidKinds := [.data], laidTests := true, laidLooks := .later }
def OtsSignsCardSaid : Prop := Claim7.holds Tryd.pinned (.plain (OpenSpec.ofChange otsSignsSpec)) otsSignsCard

/-- THE TIED CARD OF 'ostlerlaw05.OtsRecovers'. -/
def otsRecoversCard : Claim7 := { stood := { row := otsRecoversRow, standIns := [], harness := (true, "cf887709d2d2202b9aaa3290e0feb74e05e499d71cfeed7674487bef5a60125f"), looks := false }, kinds := [], alts := [], laidByText := true, laidKinds := [.data], laidTests := true, laidLooks := .later }
def OtsRecoversCardSaid : Prop := Claim7.holds Tryd.pinned (.plain (OpenSpec.ofChange otsRecoversSpec)) otsRecoversCard

/-- THE TIED CARD OF 'ostlerlaw05.OtsBack'. -/
def otsBackCard : Claim7 := { stood := { row := otsBackRow, standIns := [], harness := (true, "cf887709d2d2202b9aaa3290e0feb74e05e499d71cfeed7674487bef5a60125f"), looks := false }, kinds := [], alts := [], laidByText := true, laidKinds := [.data], laidTests := true, laidLooks := .later }
def OtsBackCardSaid : Prop := Claim7.holds Tryd.pinned (.plain (OpenSpec.ofChange otsBackSpec)) otsBackCard

/-- THE TIED CARD OF 'ostlerlaw05.OtsDigits'. -/
def otsDigitsCard : Claim7 := { stood := { row := otsDigitsRow, standIns := [], harness := (true, "cf887709d2d2202b9aaa3290e0feb74e05e499d71cfeed7674487bef5a60125f"), looks := false }, kinds := [], alts := [], laidByText := true, laidKinds := [.data], laidTests := true, laidLooks := .later }
def OtsDigitsCardSaid : Prop := Claim7.holds Tryd.pinned (.plain (OpenSpec.ofChange otsDigitsSpec)) otsDigitsCard

/-- THE SECOND FORM's CARD OF 'ostlerlaw05.OtsSigns'. -/
def otsSignsUptoCard : Claim7 := { stood := { row := otsSignsUptoRow, standIns := [], harness := (true, "cf887709d2d2202b9aaa3290e0feb74e05e499d71cfeed7674487bef5a60125f"), looks := false }, kinds := [], alts := [], laidByText := true, laidKinds := [.data], laidTests := true, laidLooks := .later }
def OtsSignsUptoCardSaid : Prop := Claim7.holds Tryd.pinned (.plain (OpenSpec.upto otsSignsSpec)) otsSignsUptoCard

/-- THE SECOND FORM's CARD OF 'ostlerlaw05.OtsRecovers'. -/
def otsRecoversUptoCard : Claim7 := { stood := { row := otsRecoversUptoRow, standIns := [], harness := (true, "cf887709d2d2202b9aaa3290e0feb74e05e499d71cfeed7674487bef5a60125f"), looks := false }, kinds := [], alts := [], laidByText := true, laidKinds := [.data], laidTests := true, laidLooks := .later }
def OtsRecoversUptoCardSaid : Prop := Claim7.holds Tryd.pinned (.plain (OpenSpec.upto otsRecoversSpec)) otsRecoversUptoCard

/-- THE SECOND FORM's CARD OF 'ostlerlaw05.OtsBack'. -/
def otsBackUptoCard : Claim7 := { stood := { row := otsBackUptoRow, standIns := [], harness := (true, "cf887709d2d2202b9aaa3290e0feb74e05e499d71cfeed7674487bef5a60125f"), looks := false }, kinds := [], alts := [], laidByText := true, laidKinds := [.data], laidTests := true, laidLooks := .later }
def OtsBackUptoCardSaid : Prop := Claim7.holds Tryd.pinned (.plain (OpenSpec.upto otsBackSpec)) otsBackUptoCard

/-- THE SECOND FORM's CARD OF 'ostlerlaw05.OtsDigits'. -/
def otsDigitsUptoCard : Claim7 := { stood := { row := otsDigitsUptoRow, standIns := [], harness := (true, "cf887709d2d2202b9aaa3290e0feb74e05e499d71cfeed7674487bef5a60125f"), looks := false }, kinds := [], alts := [], laidByText := true, laidKinds := [.data], laidTests := true, laidLooks := .later }
def OtsDigitsUptoCardSaid : Prop := Claim7.holds Tryd.pinned (.plain (OpenSpec.upto otsDigitsSpec)) otsDigitsUptoCard
end Rows
end Go.Proofs.YthchfagfhialiaaDoor
