/-
  DERIVED. GIVEN WITH THE SEED: THE CARDS: each row of YtlkopllpadhnlaaDoorRows.lean that lists a variable, with what it lists TIED to the program's text (the seventh form; the later family's looks); each row that meets fmt, with fmt's text TOLD by the authors' own Lean function (tested against real Go, not proved from fmt's source: count such statements apart). THE CARD IS WHAT COUNTS. Prove the row's statement (the work); the ties are given (YtlkopllpadhnlaaDoorTie.lean); close each card by the builder's one call (the guide's Derived/Test/ToyasCard.lean, 'card_holds'). Laid BY PROGRAM, IN A SANDBOX (cutbox-door.mjs). By AI agents, Wed Nov 11 2026. No macro, syntax, notation, axiom, sorry.
-/
import Derived.Test.YtlkopllpadhnlaaDoorRows
import GoSem.ClaimSeven
namespace Go.Proofs.YtlkopllpadhnlaaDoor
namespace Rows

/-- THE TIED CARD OF 'ostlerlaw10.TilesPaths'. -/
def tilesPathsCard : Claim7 := { stood := { row := tilesPathsRow, standIns := [], harness := (true, "ed2f12ff1e7291b508873af411f88d2df323dd41b142230d43dba44fb18a98df"), looks := true }, kinds := [], alts := [], laidByText := true, laidKinds := [.data, .data, .data, .data, .sentinel, .sentinel], laidTests := true, laidLooks := .later }
def TilesPathsCardSaid : Prop := Claim7.holds Tryd.pinned (.plain (OpenSpec.ofChange tilesPathsSpec)) tilesPathsCard

/-- THE TIED CARD OF 'ostlerlaw10.TilesMakes'. -/
def tilesMakesCard : Claim7 := { stood := { row := tilesMakesRow, standIns := [], harness := (true, "ed2f12ff1e7291b508873af411f88d2df323dd41b142230d43dba44fb18a98df"), looks := true }, kinds := [], alts := [], laidByText := true, laidKinds := [.data, .data, .data, .data], laidTests := true, laidLooks := .later }
def TilesMakesCardSaid : Prop := Claim7.holds Tryd.pinned (.plain (OpenSpec.ofChange tilesMakesSpec)) tilesMakesCard

/-- THE TIED CARD OF 'ostlerlaw10.TilesRoots'. -/
def tilesRootsCard : Claim7 := { stood := { row := tilesRootsRow, standIns := [], harness := (true, "ed2f12ff1e7291b508873af411f88d2df323dd41b142230d43dba44fb18a98df"), looks := true }, kinds := [], alts := [], laidByText := true, laidKinds := [.data, .data, .data, .data], laidTests := true, laidLooks := .later }
def TilesRootsCardSaid : Prop := Claim7.holds Tryd.pinned (.plain (OpenSpec.ofChange tilesRootsSpec)) tilesRootsCard

/-- THE TIED CARD OF 'ostlerlaw10.TilesOlder'. -/
def tilesOlderCard : Claim7 := { stood := { row := tilesOlderRow, standIns := [], harness := (true, "ed2f12ff1e7291b508873af411f88d2df323dd41b142230d43dba44fb18a98df"), looks := true }, kinds := [], alts := [], laidByText := true, laidKinds := [.data, .data, .data, .data], laidTests := true, laidLooks := .later }
def TilesOlderCardSaid : Prop := Claim7.holds Tryd.pinned (.plain (OpenSpec.ofChange tilesOlderSpec)) tilesOlderCard

/-- THE TIED CARD OF 'ostlerlaw10.TilesFails'. -/
def tilesFailsCard : Claim7 := { stood := { row := tilesFailsRow, standIns := [], harness := (true, "ed2f12ff1e7291b508873af411f88d2df323dd41b142230d43dba44fb18a98df"), looks := true }, kinds := [], alts := [], laidByText := true, laidKinds := [.data, .data, .data, .data], laidTests := true, laidLooks := .later }
def TilesFailsCardSaid : Prop := Claim7.holds Tryd.pinned (.plain (OpenSpec.ofChange tilesFailsSpec)) tilesFailsCard

/-- THE TIED CARD OF 'ostlerlaw10.TilesWild'. -/
def tilesWildCard : Claim7 := { stood := { row := tilesWildRow, standIns := [], harness := (true, "ed2f12ff1e7291b508873af411f88d2df323dd41b142230d43dba44fb18a98df"), looks := true }, kinds := [], alts := [], laidByText := true, laidKinds := [.data, .data, .data, .data], laidTests := true, laidLooks := .later }
def TilesWildCardSaid : Prop := Claim7.holds Tryd.pinned (.plain (OpenSpec.ofChange tilesWildSpec)) tilesWildCard

/-- THE SECOND FORM's CARD OF 'ostlerlaw10.TilesPaths'. -/
def tilesPathsUptoCard : Claim7 := { stood := { row := tilesPathsUptoRow, standIns := [], harness := (true, "ed2f12ff1e7291b508873af411f88d2df323dd41b142230d43dba44fb18a98df"), looks := true }, kinds := [], alts := [], laidByText := true, laidKinds := [.data, .data, .data, .data, .sentinel, .sentinel], laidTests := true, laidLooks := .later }
def TilesPathsUptoCardSaid : Prop := Claim7.holds Tryd.pinned (.plain (OpenSpec.upto tilesPathsSpec)) tilesPathsUptoCard

/-- THE SECOND FORM's CARD OF 'ostlerlaw10.TilesMakes'. -/
def tilesMakesUptoCard : Claim7 := { stood := { row := tilesMakesUptoRow, standIns := [], harness := (true, "ed2f12ff1e7291b508873af411f88d2df323dd41b142230d43dba44fb18a98df"), looks := true }, kinds := [], alts := [], laidByText := true, laidKinds := [.data, .data, .data, .data], laidTests := true, laidLooks := .later }
def TilesMakesUptoCardSaid : Prop := Claim7.holds Tryd.pinned (.plain (OpenSpec.upto tilesMakesSpec)) tilesMakesUptoCard

/-- THE SECOND FORM's CARD OF 'ostlerlaw10.TilesRoots'. -/
def tilesRootsUptoCard : Claim7 := { stood := { row := tilesRootsUptoRow, standIns := [], harness := (true, "ed2f12ff1e7291b508873af411f88d2df323dd41b142230d43dba44fb18a98df"), looks := true }, kinds := [], alts := [], laidByText := true, laidKinds := [.data, .data, .data, .data], laidTests := true, laidLooks := .later }
def TilesRootsUptoCardSaid : Prop := Claim7.holds Tryd.pinned (.plain (OpenSpec.upto tilesRootsSpec)) tilesRootsUptoCard

/-- THE SECOND FORM's CARD OF 'ostlerlaw10.TilesOlder'. -/
def tilesOlderUptoCard : Claim7 := { stood := { row := tilesOlderUptoRow, standIns := [], harness := (true, "ed2f12ff1e7291b508873af411f88d2df323dd41b142230d43dba44fb18a98df"), looks := true }, kinds := [], alts := [], laidByText := true, laidKinds := [.data, .data, .data, .data], laidTests := true, laidLooks := .later }
def TilesOlderUptoCardSaid : Prop := Claim7.holds Tryd.pinned (.plain (OpenSpec.upto tilesOlderSpec)) tilesOlderUptoCard

/-- THE SECOND FORM's CARD OF 'ostlerlaw10.TilesFails'. -/
def tilesFailsUptoCard : Claim7 := { stood := { row := tilesFailsUptoRow, standIns := [], harness := (true, "ed2f12ff1e7291b508873af411f88d2df323dd41b142230d43dba44fb18a98df"), looks := true }, kinds := [], alts := [], laidByText := true, laidKinds := [.data, .data, .data, .data], laidTests := true, laidLooks := .later }
def TilesFailsUptoCardSaid : Prop := Claim7.holds Tryd.pinned (.plain (OpenSpec.upto tilesFailsSpec)) tilesFailsUptoCard

/-- THE SECOND FORM's CARD OF 'ostlerlaw10.TilesWild'. -/
def tilesWildUptoCard : Claim7 := { stood := { row := tilesWildUptoRow, standIns := [], harness := (true, "ed2f12ff1e7291b508873af411f88d2df323dd41b142230d43dba44fb18a98df"), looks := true }, kinds := [], alts := [], laidByText := true, laidKinds := [.data, .data, .data, .data], laidTests := true, laidLooks := .later }
def TilesWildUptoCardSaid : Prop := Claim7.holds Tryd.pinned (.plain (OpenSpec.upto tilesWildSpec)) tilesWildUptoCard
end Rows
end Go.Proofs.YtlkopllpadhnlaaDoor
