/-
  DERIVED. GIVEN WITH THE SEED: THE CARDS: each row of YtdomennhoopggaaDoorRows.lean that lists a variable, with what it lists TIED to the program's text (the seventh form; the later family's looks); each row that meets fmt, with fmt's text TOLD by the authors' own Lean function (tested against real Go, not proved from fmt's source: count such statements apart). THE CARD IS WHAT COUNTS. Prove the row's statement (the work); the ties are given (YtdomennhoopggaaDoorTie.lean); close each card by the builder's one call (the guide's Derived/Test/ToyasCard.lean, 'card_holds'). Laid BY PROGRAM, IN A SANDBOX (cutbox-door.mjs). By AI agents, Wed Nov 11 2026. No macro, syntax, notation, axiom, sorry.
-/
import Derived.Test.YtdomennhoopggaaDoorRows
import GoSem.ClaimSeven
namespace Go.Proofs.YtdomennhoopggaaDoor
namespace Rows

/-- THE TIED CARD OF 'ostlerlaw08.TreeHashes'. -/
def treeHashesCard : Claim7 := { stood := { row := treeHashesRow, standIns := [], harness := (true, "5d3333877c448684f58371927f91e91015857985f68701ef69468c84d1711965"), looks := false }, kinds := [], alts := [], laidByText := true, laidKinds := [.data], laidTests := true, laidLooks := .later }
def TreeHashesCardSaid : Prop := Claim7.holds Tryd.pinned (.plain (OpenSpec.ofChange treeHashesSpec)) treeHashesCard

/-- THE TIED CARD OF 'ostlerlaw08.TreeProofs'. -/
def treeProofsCard : Claim7 := { stood := { row := treeProofsRow, standIns := [], harness := (true, "5d3333877c448684f58371927f91e91015857985f68701ef69468c84d1711965"), looks := false }, kinds := [], alts := [], laidByText := true, laidKinds := [.data], laidTests := true, laidLooks := .later }
def TreeProofsCardSaid : Prop := Claim7.holds Tryd.pinned (.plain (OpenSpec.ofChange treeProofsSpec)) treeProofsCard

/-- THE TIED CARD OF 'ostlerlaw08.TreeAsked'. -/
def treeAskedCard : Claim7 := { stood := { row := treeAskedRow, standIns := [], harness := (true, "5d3333877c448684f58371927f91e91015857985f68701ef69468c84d1711965"), looks := false }, kinds := [], alts := [], laidByText := true, laidKinds := [.data], laidTests := true, laidLooks := .later }
def TreeAskedCardSaid : Prop := Claim7.holds Tryd.pinned (.plain (OpenSpec.ofChange treeAskedSpec)) treeAskedCard

/-- THE TIED CARD OF 'ostlerlaw08.TreeIncluded'. -/
def treeIncludedCard : Claim7 := { stood := { row := treeIncludedRow, standIns := [], harness := (true, "5d3333877c448684f58371927f91e91015857985f68701ef69468c84d1711965"), looks := false }, kinds := [], alts := [], laidByText := true, laidKinds := [.data], laidTests := true, laidLooks := .later }
def TreeIncludedCardSaid : Prop := Claim7.holds Tryd.pinned (.plain (OpenSpec.ofChange treeIncludedSpec)) treeIncludedCard

/-- THE TIED CARD OF 'ostlerlaw08.TreeConsistent'. -/
def treeConsistentCard : Claim7 := { stood := { row := treeConsistentRow, standIns := [], harness := (true, "5d3333877c448684f58371927f91e91015857985f68701ef69468c84d1711965"), looks := false }, kinds := [], alts := [], laidByText := true, laidKinds := [.data], laidTests := true, laidLooks := .later }
def TreeConsistentCardSaid : Prop := Claim7.holds Tryd.pinned (.plain (OpenSpec.ofChange treeConsistentSpec)) treeConsistentCard

/-- THE SECOND FORM's CARD OF 'ostlerlaw08.TreeHashes'. -/
def treeHashesUptoCard : Claim7 := { stood := { row := treeHashesUptoRow, standIns := [], harness := (true, "5d3333877c448684f58371927f91e91015857985f68701ef69468c84d1711965"), looks := false }, kinds := [], alts := [], laidByText := true, laidKinds := [.data], laidTests := true, laidLooks := .later }
def TreeHashesUptoCardSaid : Prop := Claim7.holds Tryd.pinned (.plain (OpenSpec.upto treeHashesSpec)) treeHashesUptoCard

/-- THE SECOND FORM's CARD OF 'ostlerlaw08.TreeProofs'. -/
def treeProofsUptoCard : Claim7 := { stood := { row := treeProofsUptoRow, standIns := [], harness := (true, "5d3333877c448684f58371927f91e91015857985f68701ef69468c84d1711965"), looks := false }, kinds := [], alts := [], laidByText := true, laidKinds := [.data], laidTests := true, laidLooks := .later }
def TreeProofsUptoCardSaid : Prop := Claim7.holds Tryd.pinned (.plain (OpenSpec.upto treeProofsSpec)) treeProofsUptoCard

/-- THE SECOND FORM's CARD OF 'ostlerlaw08.TreeAsked'. -/
def treeAskedUptoCard : Claim7 := { stood := { row := treeAskedUptoRow, standIns := [], harness := (true, "5d3333877c448684f58371927f91e91015857985f68701ef69468c84d1711965"), looks := false }, kinds := [], alts := [], laidByText := true, laidKinds := [.data], laidTests := true, laidLooks := .later }
def TreeAskedUptoCardSaid : Prop := Claim7.holds Tryd.pinned (.plain (OpenSpec.upto treeAskedSpec)) treeAskedUptoCard

/-- THE SECOND FORM's CARD OF 'ostlerlaw08.TreeIncluded'. -/
def treeIncludedUptoCard : Claim7 := { stood := { row := treeIncludedUptoRow, standIns := [], harness := (true, "5d3333877c448684f58371927f91e91015857985f68701ef69468c84d1711965"), looks := false }, kinds := [], alts := [], laidByText := true, laidKinds := [.data], laidTests := true, laidLooks := .later }
def TreeIncludedUptoCardSaid : Prop := Claim7.holds Tryd.pinned (.plain (OpenSpec.upto treeIncludedSpec)) treeIncludedUptoCard

/-- THE SECOND FORM's CARD OF 'ostlerlaw08.TreeConsistent'. -/
def treeConsistentUptoCard : Claim7 := { stood := { row := treeConsistentUptoRow, standIns := [], harness := (true, "5d3333877c448684f58371927f91e91015857985f68701ef69468c84d1711965"), looks := false }, kinds := [], alts := [], laidByText := true, laidKinds := [.data], laidTests := true, laidLooks := .later }
def TreeConsistentUptoCardSaid : Prop := Claim7.holds Tryd.pinned (.plain (OpenSpec.upto treeConsistentSpec)) treeConsistentUptoCard
end Rows
end Go.Proofs.YtdomennhoopggaaDoor
