/-
  DERIVED. GIVEN WITH THE SEED: THE CARDS: each row of YtkemgccfdnbmpaaDoorRows.lean that lists a variable, with what it lists TIED to the program's text (the seventh form; the later family's looks); each row that meets fmt, with fmt's text TOLD by the authors' own Lean function (tested against real Go, not proved from fmt's source: count such statements apart). THE CARD IS WHAT COUNTS. Prove the row's statement (the work); the ties are given (YtkemgccfdnbmpaaDoorTie.lean); close each card by the builder's one call (the guide's Derived/Test/ToyasCard.lean, 'card_holds'). Laid BY PROGRAM, IN A SANDBOX (cutbox-door.mjs). By AI agents, Wed Nov 11 2026. No macro, syntax, notation, axiom, sorry.
-/
import Derived.Test.YtkemgccfdnbmpaaDoorRows
import GoSem.ClaimSeven
namespace Go.Proofs.YtkemgccfdnbmpaaDoor
namespace Rows

/-- THE TIED CARD OF 'ostlerlaw05.OtsSigns'. -/
def otsSignsCard : Claim7 := { stood := { row := otsSignsRow, standIns := [], harness := (true, "417b8a882404c3335dfdcd02bda6408a23fb5aeacffdbe41ee78fd9713dbd9ff"), looks := false }, kinds := [], alts := [], laidByText := true, laidKinds := [.data], laidTests := true, laidLooks := .later }
def OtsSignsCardSaid : Prop := Claim7.holds Tryd.pinned (.plain (OpenSpec.ofChange otsSignsSpec)) otsSignsCard

/-- THE TIED CARD OF 'ostlerlaw05.OtsRecovers'. -/
def otsRecoversCard : Claim7 := { stood := { row := otsRecoversRow, standIns := [], harness := (true, "417b8a882404c3335dfdcd02bda6408a23fb5aeacffdbe41ee78fd9713dbd9ff"), looks := false }, kinds := [], alts := [], laidByText := true, laidKinds := [.data], laidTests := true, laidLooks := .later }
def OtsRecoversCardSaid : Prop := Claim7.holds Tryd.pinned (.plain (OpenSpec.ofChange otsRecoversSpec)) otsRecoversCard

/-- THE TIED CARD OF 'ostlerlaw05.OtsDigits'. -/
def otsDigitsCard : Claim7 := { stood := { row := otsDigitsRow, standIns := [], harness := (true, "417b8a882404c3335dfdcd02bda6408a23fb5aeacffdbe41ee78fd9713dbd9ff"), looks := false }, kinds := [], alts := [], laidByText := true, laidKinds := [.data], laidTests := true, laidLooks := .later }
def OtsDigitsCardSaid : Prop := Claim7.holds Tryd.pinned (.plain (OpenSpec.ofChange otsDigitsSpec)) otsDigitsCard

/-- THE SECOND FORM's CARD OF 'ostlerlaw05.OtsSigns'. -/
def otsSignsUptoCard : Claim7 := { stood := { row := otsSignsUptoRow, standIns := [], harness := (true, "417b8a882404c3335dfdcd02bda6408a23fb5aeacffdbe41ee78fd9713dbd9ff"), looks := false }, kinds := [], alts := [], laidByText := true, laidKinds := [.data], laidTests := true, laidLooks := .later }
def OtsSignsUptoCardSaid : Prop := Claim7.holds Tryd.pinned (.plain (OpenSpec.upto otsSignsSpec)) otsSignsUptoCard

/-- THE SECOND FORM's CARD OF 'ostlerlaw05.OtsRecovers'. -/
def otsRecoversUptoCard : Claim7 := { stood := { row := otsRecoversUptoRow, standIns := [], harness := (true, "417b8a882404c3335dfdcd02bda6408a23fb5aeacffdbe41ee78fd9713dbd9ff"), looks := false }, kinds := [], alts := [], laidByText := true, laidKinds := [.data], laidTests := true, laidLooks := .later }
def OtsRecoversUptoCardSaid : Prop := Claim7.holds Tryd.pinned (.plain (OpenSpec.upto otsRecoversSpec)) otsRecoversUptoCard

/-- THE SECOND FORM's CARD OF 'ostlerlaw05.OtsDigits'. -/
def otsDigitsUptoCard : Claim7 := { stood := { row := otsDigitsUptoRow, standIns := [], harness := (true, "417b8a882404c3335dfdcd02bda6408a23fb5aeacffdbe41ee78fd9713dbd9ff"), looks := false }, kinds := [], alts := [], laidByText := true, laidKinds := [.data], laidTests := true, laidLooks := .later }
def OtsDigitsUptoCardSaid : Prop := Claim7.holds Tryd.pinned (.plain (OpenSpec.upto otsDigitsSpec)) otsDigitsUptoCard
end Rows
end Go.Proofs.YtkemgccfdnbmpaaDoor
