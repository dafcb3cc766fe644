/-
  DERIVED. GIVEN WITH THE SEED: THE CARDS: each row of YtdnhpldcnmbncaaDoorRows.lean that lists a variable, with what it lists TIED to the program's text (the seventh form; the later family's looks); each row that meets fmt, with fmt's text TOLD by the authors' own Lean function (tested against real Go, not proved from fmt's source: count such statements apart). THE CARD IS WHAT COUNTS. Prove the row's statement (the work); the ties are given (YtdnhpldcnmbncaaDoorTie.lean); close each card by the builder's one call (the guide's Derived/Test/ToyasCard.lean, 'card_holds'). Laid BY PROGRAM, IN A SANDBOX (cutbox-door.mjs). By AI agents, Wed Nov 11 2026. No macro, syntax, notation, axiom, sorry.
-/
import Derived.Test.YtdnhpldcnmbncaaDoorRows
import GoSem.ClaimSeven
namespace Go.Proofs.YtdnhpldcnmbncaaDoor
namespace Rows

/-- THE TIED CARD OF 'ostlerlaw15.BillMakes'. -/
def billMakesCard : Claim7 := { stood := { row := billMakesRow, standIns := [], harness := (true, "125be751b6f098c605088118323edaa5945e07082a76c267f5ee8dc10bba1e17"), looks := false }, kinds := [], alts := [], laidByText := true, laidKinds := [.data], laidTests := true, laidLooks := .later }
def BillMakesCardSaid : Prop := Claim7.holds Tryd.pinned (.plain (OpenSpec.ofChange billMakesSpec)) billMakesCard

/-- THE TIED CARD OF 'ostlerlaw15.BillReads'. -/
def billReadsCard : Claim7 := { stood := { row := billReadsRow, standIns := [], harness := (true, "125be751b6f098c605088118323edaa5945e07082a76c267f5ee8dc10bba1e17"), looks := false }, kinds := [], alts := [], laidByText := true, laidKinds := [.data], laidTests := true, laidLooks := .later }
def BillReadsCardSaid : Prop := Claim7.holds Tryd.pinned (.plain (OpenSpec.ofChange billReadsSpec)) billReadsCard

/-- THE TIED CARD OF 'ostlerlaw15.BillFits'. -/
def billFitsCard : Claim7 := { stood := { row := billFitsRow, standIns := [], harness := (true, "125be751b6f098c605088118323edaa5945e07082a76c267f5ee8dc10bba1e17"), looks := false }, kinds := [], alts := [], laidByText := true, laidKinds := [.data], laidTests := true, laidLooks := .later }
def BillFitsCardSaid : Prop := Claim7.holds Tryd.pinned (.plain (OpenSpec.ofChange billFitsSpec)) billFitsCard

/-- THE TIED CARD OF 'ostlerlaw15.BillBack'. -/
def billBackCard : Claim7 := { stood := { row := billBackRow, standIns := [], harness := (true, "125be751b6f098c605088118323edaa5945e07082a76c267f5ee8dc10bba1e17"), looks := false }, kinds := [], alts := [], laidByText := true, laidKinds := [.data], laidTests := true, laidLooks := .later }
def BillBackCardSaid : Prop := Claim7.holds Tryd.pinned (.plain (OpenSpec.ofChange billBackSpec)) billBackCard

/-- THE SECOND FORM's CARD OF 'ostlerlaw15.BillMakes'. -/
def billMakesUptoCard : Claim7 := { stood := { row := billMakesUptoRow, standIns := [], harness := (true, "125be751b6f098c605088118323edaa5945e07082a76c267f5ee8dc10bba1e17"), looks := false }, kinds := [], alts := [], laidByText := true, laidKinds := [.data], laidTests := true, laidLooks := .later }
def BillMakesUptoCardSaid : Prop := Claim7.holds Tryd.pinned (.plain (OpenSpec.upto billMakesSpec)) billMakesUptoCard

/-- THE SECOND FORM's CARD OF 'ostlerlaw15.BillReads'. -/
def billReadsUptoCard : Claim7 := { stood := { row := billReadsUptoRow, standIns := [], harness := (true, "125be751b6f098c605088118323edaa5945e07082a76c267f5ee8dc10bba1e17"), looks := false }, kinds := [], alts := [], laidByText := true, laidKinds := [.data], laidTests := true, laidLooks := .later }
def BillReadsUptoCardSaid : Prop := Claim7.holds Tryd.pinned (.plain (OpenSpec.upto billReadsSpec)) billReadsUptoCard

/-- THE SECOND FORM's CARD OF 'ostlerlaw15.BillFits'. -/
def billFitsUptoCard : Claim7 := { stood := { row := billFitsUptoRow, standIns := [], harness := (true, "125be751b6f098c605088118323edaa5945e07082a76c267f5ee8dc10bba1e17"), looks := false }, kinds := [], alts := [], laidByText := true, laidKinds := [.data], laidTests := true, laidLooks := .later }
def BillFitsUptoCardSaid : Prop := Claim7.holds Tryd.pinned (.plain (OpenSpec.upto billFitsSpec)) billFitsUptoCard

/-- THE SECOND FORM's CARD OF 'ostlerlaw15.BillBack'. -/
def billBackUptoCard : Claim7 := { stood := { row := billBackUptoRow, standIns := [], harness := (true, "125be751b6f098c605088118323edaa5945e07082a76c267f5ee8dc10bba1e17"), looks := false }, kinds := [], alts := [], laidByText := true, laidKinds := [.data], laidTests := true, laidLooks := .later }
def BillBackUptoCardSaid : Prop := Claim7.holds Tryd.pinned (.plain (OpenSpec.upto billBackSpec)) billBackUptoCard
end Rows
end Go.Proofs.YtdnhpldcnmbncaaDoor
