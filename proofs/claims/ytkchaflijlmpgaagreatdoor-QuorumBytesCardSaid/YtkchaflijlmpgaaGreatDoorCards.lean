/-
  DERIVED. GIVEN WITH THE SEED: THE CARDS: each row of YtkchaflijlmpgaaGreatDoorRows.lean that lists a variable, with what it lists TIED to the program's text (the seventh form; the later family's looks); each row that meets fmt, with fmt's text TOLD by the authors' own Lean function (tested against real Go, not proved from fmt's source: count such statements apart). THE CARD IS WHAT COUNTS. Prove the row's statement (the work); the ties are given (YtkchaflijlmpgaaGreatDoorTie.lean); close each card by the builder's one call (the guide's Derived/Test/ToyasCard.lean, 'card_holds'). Laid BY PROGRAM, IN A SANDBOX (cutbox-door.mjs). By AI agents, Wed Nov 11 2026. No macro, syntax, notation, axiom, sorry.
-/
import Derived.Test.YtkchaflijlmpgaaGreatDoorRows
import GoSem.ClaimSeven
namespace Go.Proofs.YtkchaflijlmpgaaGreatDoor
namespace Rows

/-- THE TIED CARD OF 'ostlerlaw07.QuorumMakes'. -/
def quorumMakesCard : Claim7 := { stood := { row := quorumMakesRow, standIns := [], harness := (true, "d63fe82f66b39221c1d422b99ad050a86ca5ec2738fb0d123f27a298783ab6e6"), looks := false }, kinds := [], alts := [], laidByText := true, laidKinds := [.data], laidTests := true, laidLooks := .later }
def QuorumMakesCardSaid : Prop := Claim7.holds Tryz.pinned (.plain (OpenSpec.ofChange quorumMakesSpec)) quorumMakesCard

/-- THE TIED CARD OF 'ostlerlaw07.QuorumCounts'. -/
def quorumCountsCard : Claim7 := { stood := { row := quorumCountsRow, standIns := [], harness := (true, "d63fe82f66b39221c1d422b99ad050a86ca5ec2738fb0d123f27a298783ab6e6"), looks := false }, kinds := [], alts := [], laidByText := true, laidKinds := [.data], laidTests := true, laidLooks := .later }
def QuorumCountsCardSaid : Prop := Claim7.holds Tryz.pinned (.plain (OpenSpec.ofChange quorumCountsSpec)) quorumCountsCard

/-- THE TIED CARD OF 'ostlerlaw07.QuorumGrows'. -/
def quorumGrowsCard : Claim7 := { stood := { row := quorumGrowsRow, standIns := [], harness := (true, "d63fe82f66b39221c1d422b99ad050a86ca5ec2738fb0d123f27a298783ab6e6"), looks := false }, kinds := [], alts := [], laidByText := true, laidKinds := [.data], laidTests := true, laidLooks := .later }
def QuorumGrowsCardSaid : Prop := Claim7.holds Tryz.pinned (.plain (OpenSpec.ofChange quorumGrowsSpec)) quorumGrowsCard

/-- THE TIED CARD OF 'ostlerlaw07.QuorumBytes'. -/
def quorumBytesCard : Claim7 := { stood := { row := quorumBytesRow, standIns := [], harness := (true, "d63fe82f66b39221c1d422b99ad050a86ca5ec2738fb0d123f27a298783ab6e6"), looks := false }, kinds := [], alts := [], laidByText := true, laidKinds := [.data], laidTests := true, laidLooks := .later }
def QuorumBytesCardSaid : Prop := Claim7.holds Tryz.pinned (.plain (OpenSpec.ofChange quorumBytesSpec)) quorumBytesCard

/-- THE SECOND FORM's CARD OF 'ostlerlaw07.QuorumMakes'. -/
def quorumMakesUptoCard : Claim7 := { stood := { row := quorumMakesUptoRow, standIns := [], harness := (true, "d63fe82f66b39221c1d422b99ad050a86ca5ec2738fb0d123f27a298783ab6e6"), looks := false }, kinds := [], alts := [], laidByText := true, laidKinds := [.data], laidTests := true, laidLooks := .later }
def QuorumMakesUptoCardSaid : Prop := Claim7.holds Tryz.pinned (.plain (OpenSpec.upto quorumMakesSpec)) quorumMakesUptoCard

/-- THE SECOND FORM's CARD OF 'ostlerlaw07.QuorumCounts'. -/
def quorumCountsUptoCard : Claim7 := { stood := { row := quorumCountsUptoRow, standIns := [], harness := (true, "d63fe82f66b39221c1d422b99ad050a86ca5ec2738fb0d123f27a298783ab6e6"), looks := false }, kinds := [], alts := [], laidByText := true, laidKinds := [.data], laidTests := true, laidLooks := .later }
def QuorumCountsUptoCardSaid : Prop := Claim7.holds Tryz.pinned (.plain (OpenSpec.upto quorumCountsSpec)) quorumCountsUptoCard

/-- THE SECOND FORM's CARD OF 'ostlerlaw07.QuorumGrows'. -/
def quorumGrowsUptoCard : Claim7 := { stood := { row := quorumGrowsUptoRow, standIns := [], harness := (true, "d63fe82f66b39221c1d422b99ad050a86ca5ec2738fb0d123f27a298783ab6e6"), looks := false }, kinds := [], alts := [], laidByText := true, laidKinds := [.data], laidTests := true, laidLooks := .later }
def QuorumGrowsUptoCardSaid : Prop := Claim7.holds Tryz.pinned (.plain (OpenSpec.upto quorumGrowsSpec)) quorumGrowsUptoCard

/-- THE SECOND FORM's CARD OF 'ostlerlaw07.QuorumBytes'. -/
def quorumBytesUptoCard : Claim7 := { stood := { row := quorumBytesUptoRow, standIns := [], harness := (true, "d63fe82f66b39221c1d422b99ad050a86ca5ec2738fb0d123f27a298783ab6e6"), looks := false }, kinds := [], alts := [], laidByText := true, laidKinds := [.data], laidTests := true, laidLooks := .later }
def QuorumBytesUptoCardSaid : Prop := Claim7.holds Tryz.pinned (.plain (OpenSpec.upto quorumBytesSpec)) quorumBytesUptoCard
end Rows
end Go.Proofs.YtkchaflijlmpgaaGreatDoor
