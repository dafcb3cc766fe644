/-
  DERIVED. GIVEN WITH THE SEED: THE CARDS: each row of YtakmlbnjgkfaiaaDoorRows.lean that lists a variable, with what it lists TIED to the program's text (the seventh form; the later family's looks); each row that meets fmt, with fmt's text TOLD by the authors' own Lean function (tested against real Go, not proved from fmt's source: count such statements apart). THE CARD IS WHAT COUNTS. Prove the row's statement (the work); the ties are given (YtakmlbnjgkfaiaaDoorTie.lean); close each card by the builder's one call (the guide's Derived/Test/ToyasCard.lean, 'card_holds'). Laid BY PROGRAM, IN A SANDBOX (cutbox-door.mjs). By AI agents, Wed Nov 11 2026. No macro, syntax, notation, axiom, sorry.
-/
import Derived.Test.YtakmlbnjgkfaiaaDoorRows
import GoSem.ClaimSeven
namespace Go.Proofs.YtakmlbnjgkfaiaaDoor
namespace Rows

/-- THE TIED CARD OF 'ostlerlaw09.SpanGrows'. -/
def spanGrowsCard : Claim7 := { stood := { row := spanGrowsRow, standIns := [], harness := (true, "d499865a0b8d62f063132848ee8b03e87f827cb74dba4d4905111c7191866a3f"), looks := false }, kinds := [], alts := [], laidByText := true, laidKinds := [.data, .data, .data], laidTests := true, laidLooks := .later }
def SpanGrowsCardSaid : Prop := Claim7.holds Tryd.pinned (.plain (OpenSpec.ofChange spanGrowsSpec)) spanGrowsCard

/-- THE TIED CARD OF 'ostlerlaw09.SpanLoads'. -/
def spanLoadsCard : Claim7 := { stood := { row := spanLoadsRow, standIns := [], harness := (true, "d499865a0b8d62f063132848ee8b03e87f827cb74dba4d4905111c7191866a3f"), looks := false }, kinds := [], alts := [], laidByText := true, laidKinds := [.data, .data, .data], laidTests := true, laidLooks := .later }
def SpanLoadsCardSaid : Prop := Claim7.holds Tryd.pinned (.plain (OpenSpec.ofChange spanLoadsSpec)) spanLoadsCard

/-- THE TIED CARD OF 'ostlerlaw09.SpanBytes'. -/
def spanBytesCard : Claim7 := { stood := { row := spanBytesRow, standIns := [], harness := (true, "d499865a0b8d62f063132848ee8b03e87f827cb74dba4d4905111c7191866a3f"), looks := false }, kinds := [], alts := [], laidByText := true, laidKinds := [.data, .data, .data], laidTests := true, laidLooks := .later }
def SpanBytesCardSaid : Prop := Claim7.holds Tryd.pinned (.plain (OpenSpec.ofChange spanBytesSpec)) spanBytesCard

/-- THE TIED CARD OF 'ostlerlaw09.SpanProves'. -/
def spanProvesCard : Claim7 := { stood := { row := spanProvesRow, standIns := [], harness := (true, "d499865a0b8d62f063132848ee8b03e87f827cb74dba4d4905111c7191866a3f"), looks := false }, kinds := [], alts := [], laidByText := true, laidKinds := [.data, .data, .data], laidTests := true, laidLooks := .later }
def SpanProvesCardSaid : Prop := Claim7.holds Tryd.pinned (.plain (OpenSpec.ofChange spanProvesSpec)) spanProvesCard

/-- THE TIED CARD OF 'ostlerlaw09.SpanNone'. -/
def spanNoneCard : Claim7 := { stood := { row := spanNoneRow, standIns := [], harness := (true, "d499865a0b8d62f063132848ee8b03e87f827cb74dba4d4905111c7191866a3f"), looks := false }, kinds := [], alts := [], laidByText := true, laidKinds := [.data, .data, .data], laidTests := true, laidLooks := .later }
def SpanNoneCardSaid : Prop := Claim7.holds Tryd.pinned (.plain (OpenSpec.ofChange spanNoneSpec)) spanNoneCard

/-- THE SECOND FORM's CARD OF 'ostlerlaw09.SpanGrows'. -/
def spanGrowsUptoCard : Claim7 := { stood := { row := spanGrowsUptoRow, standIns := [], harness := (true, "d499865a0b8d62f063132848ee8b03e87f827cb74dba4d4905111c7191866a3f"), looks := false }, kinds := [], alts := [], laidByText := true, laidKinds := [.data, .data, .data], laidTests := true, laidLooks := .later }
def SpanGrowsUptoCardSaid : Prop := Claim7.holds Tryd.pinned (.plain (OpenSpec.upto spanGrowsSpec)) spanGrowsUptoCard

/-- THE SECOND FORM's CARD OF 'ostlerlaw09.SpanLoads'. -/
def spanLoadsUptoCard : Claim7 := { stood := { row := spanLoadsUptoRow, standIns := [], harness := (true, "d499865a0b8d62f063132848ee8b03e87f827cb74dba4d4905111c7191866a3f"), looks := false }, kinds := [], alts := [], laidByText := true, laidKinds := [.data, .data, .data], laidTests := true, laidLooks := .later }
def SpanLoadsUptoCardSaid : Prop := Claim7.holds Tryd.pinned (.plain (OpenSpec.upto spanLoadsSpec)) spanLoadsUptoCard

/-- THE SECOND FORM's CARD OF 'ostlerlaw09.SpanBytes'. -/
def spanBytesUptoCard : Claim7 := { stood := { row := spanBytesUptoRow, standIns := [], harness := (true, "d499865a0b8d62f063132848ee8b03e87f827cb74dba4d4905111c7191866a3f"), looks := false }, kinds := [], alts := [], laidByText := true, laidKinds := [.data, .data, .data], laidTests := true, laidLooks := .later }
def SpanBytesUptoCardSaid : Prop := Claim7.holds Tryd.pinned (.plain (OpenSpec.upto spanBytesSpec)) spanBytesUptoCard

/-- THE SECOND FORM's CARD OF 'ostlerlaw09.SpanProves'. -/
def spanProvesUptoCard : Claim7 := { stood := { row := spanProvesUptoRow, standIns := [], harness := (true, "d499865a0b8d62f063132848ee8b03e87f827cb74dba4d4905111c7191866a3f"), looks := false }, kinds := [], alts := [], laidByText := true, laidKinds := [.data, .data, .data], laidTests := true, laidLooks := .later }
def SpanProvesUptoCardSaid : Prop := Claim7.holds Tryd.pinned (.plain (OpenSpec.upto spanProvesSpec)) spanProvesUptoCard

/-- THE SECOND FORM's CARD OF 'ostlerlaw09.SpanNone'. -/
def spanNoneUptoCard : Claim7 := { stood := { row := spanNoneUptoRow, standIns := [], harness := (true, "d499865a0b8d62f063132848ee8b03e87f827cb74dba4d4905111c7191866a3f"), looks := false }, kinds := [], alts := [], laidByText := true, laidKinds := [.data, .data, .data], laidTests := true, laidLooks := .later }
def SpanNoneUptoCardSaid : Prop := Claim7.holds Tryd.pinned (.plain (OpenSpec.upto spanNoneSpec)) spanNoneUptoCard
end Rows
end Go.Proofs.YtakmlbnjgkfaiaaDoor
