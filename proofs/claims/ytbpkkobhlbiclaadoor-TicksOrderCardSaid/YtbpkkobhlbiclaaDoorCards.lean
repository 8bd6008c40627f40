/-
  DERIVED. GIVEN WITH THE SEED: THE CARDS: each row of YtbpkkobhlbiclaaDoorRows.lean that lists a variable, with what it lists TIED to the program's text (the seventh form; the later family's looks); each row that meets fmt, with fmt's text TOLD by the authors' own Lean function (tested against real Go, not proved from fmt's source: count such statements apart). THE CARD IS WHAT COUNTS. Prove the row's statement (the work); the ties are given (YtbpkkobhlbiclaaDoorTie.lean); close each card by the builder's one call (the guide's Derived/Test/ToyasCard.lean, 'card_holds'). Laid BY PROGRAM, IN A SANDBOX (cutbox-door.mjs). By AI agents, Wed Nov 11 2026. No macro, syntax, notation, axiom, sorry.
-/
import Derived.Test.YtbpkkobhlbiclaaDoorRows
import GoSem.ClaimSeven
namespace Go.Proofs.YtbpkkobhlbiclaaDoor
namespace Rows

/-- THE TIED CARD OF 'sectimelaw10.TicksAct'. -/
def ticksActCard : Claim7 := { stood := { row := ticksActRow, standIns := [], harness := (true, "9a0ec45ca8a5f7b113ecbdf85d2c5be04547a801fb10fecdb0664b1d0e7eb40c"), looks := false }, kinds := [], alts := [], laidByText := true, laidKinds := [.data, .data, .data], laidTests := true, laidLooks := .later }
def TicksActCardSaid : Prop := Claim7.holds Tryd.pinned (.plain (OpenSpec.ofChange ticksActSpec)) ticksActCard

/-- THE TIED CARD OF 'sectimelaw10.TicksDivide'. -/
def ticksDivideCard : Claim7 := { stood := { row := ticksDivideRow, standIns := [], harness := (true, "9a0ec45ca8a5f7b113ecbdf85d2c5be04547a801fb10fecdb0664b1d0e7eb40c"), looks := false }, kinds := [], alts := [], laidByText := true, laidKinds := [.data, .data, .data], laidTests := true, laidLooks := .later }
def TicksDivideCardSaid : Prop := Claim7.holds Tryd.pinned (.plain (OpenSpec.ofChange ticksDivideSpec)) ticksDivideCard

/-- THE TIED CARD OF 'sectimelaw10.TicksWire'. -/
def ticksWireCard : Claim7 := { stood := { row := ticksWireRow, standIns := [], harness := (true, "9a0ec45ca8a5f7b113ecbdf85d2c5be04547a801fb10fecdb0664b1d0e7eb40c"), looks := false }, kinds := [], alts := [], laidByText := true, laidKinds := [.data, .data, .data], laidTests := true, laidLooks := .later }
def TicksWireCardSaid : Prop := Claim7.holds Tryd.pinned (.plain (OpenSpec.ofChange ticksWireSpec)) ticksWireCard

/-- THE TIED CARD OF 'sectimelaw10.TicksScale'. -/
def ticksScaleCard : Claim7 := { stood := { row := ticksScaleRow, standIns := [], harness := (true, "9a0ec45ca8a5f7b113ecbdf85d2c5be04547a801fb10fecdb0664b1d0e7eb40c"), looks := false }, kinds := [], alts := [], laidByText := true, laidKinds := [.data, .data, .data], laidTests := true, laidLooks := .later }
def TicksScaleCardSaid : Prop := Claim7.holds Tryd.pinned (.plain (OpenSpec.ofChange ticksScaleSpec)) ticksScaleCard

/-- THE TIED CARD OF 'sectimelaw10.TicksText'. -/
def ticksTextCard : Claim7 := { stood := { row := ticksTextRow, standIns := [], harness := (true, "9a0ec45ca8a5f7b113ecbdf85d2c5be04547a801fb10fecdb0664b1d0e7eb40c"), looks := false }, kinds := [], alts := [], laidByText := true, laidKinds := [.data, .data, .data], laidTests := true, laidLooks := .later }
def TicksTextCardSaid : Prop := Claim7.holds Tryd.pinned (.plain (OpenSpec.ofChange ticksTextSpec)) ticksTextCard

/-- THE TIED CARD OF 'sectimelaw10.TicksUnits'. -/
def ticksUnitsCard : Claim7 := { stood := { row := ticksUnitsRow, standIns := [], harness := (true, "9a0ec45ca8a5f7b113ecbdf85d2c5be04547a801fb10fecdb0664b1d0e7eb40c"), looks := false }, kinds := [], alts := [], laidByText := true, laidKinds := [.data, .data, .data], laidTests := true, laidLooks := .later }
def TicksUnitsCardSaid : Prop := Claim7.holds Tryd.pinned (.plain (OpenSpec.ofChange ticksUnitsSpec)) ticksUnitsCard

/-- THE TIED CARD OF 'sectimelaw10.TicksOrder'. -/
def ticksOrderCard : Claim7 := { stood := { row := ticksOrderRow, standIns := [], harness := (true, "9a0ec45ca8a5f7b113ecbdf85d2c5be04547a801fb10fecdb0664b1d0e7eb40c"), looks := false }, kinds := [], alts := [], laidByText := true, laidKinds := [.data, .data, .data], laidTests := true, laidLooks := .later }
def TicksOrderCardSaid : Prop := Claim7.holds Tryd.pinned (.plain (OpenSpec.ofChange ticksOrderSpec)) ticksOrderCard

/-- THE SECOND FORM's CARD OF 'sectimelaw10.TicksAct'. -/
def ticksActUptoCard : Claim7 := { stood := { row := ticksActUptoRow, standIns := [], harness := (true, "9a0ec45ca8a5f7b113ecbdf85d2c5be04547a801fb10fecdb0664b1d0e7eb40c"), looks := false }, kinds := [], alts := [], laidByText := true, laidKinds := [.data, .data, .data], laidTests := true, laidLooks := .later }
def TicksActUptoCardSaid : Prop := Claim7.holds Tryd.pinned (.plain (OpenSpec.upto ticksActSpec)) ticksActUptoCard

/-- THE SECOND FORM's CARD OF 'sectimelaw10.TicksDivide'. -/
def ticksDivideUptoCard : Claim7 := { stood := { row := ticksDivideUptoRow, standIns := [], harness := (true, "9a0ec45ca8a5f7b113ecbdf85d2c5be04547a801fb10fecdb0664b1d0e7eb40c"), looks := false }, kinds := [], alts := [], laidByText := true, laidKinds := [.data, .data, .data], laidTests := true, laidLooks := .later }
def TicksDivideUptoCardSaid : Prop := Claim7.holds Tryd.pinned (.plain (OpenSpec.upto ticksDivideSpec)) ticksDivideUptoCard

/-- THE SECOND FORM's CARD OF 'sectimelaw10.TicksWire'. -/
def ticksWireUptoCard : Claim7 := { stood := { row := ticksWireUptoRow, standIns := [], harness := (true, "9a0ec45ca8a5f7b113ecbdf85d2c5be04547a801fb10fecdb0664b1d0e7eb40c"), looks := false }, kinds := [], alts := [], laidByText := true, laidKinds := [.data, .data, .data], laidTests := true, laidLooks := .later }
def TicksWireUptoCardSaid : Prop := Claim7.holds Tryd.pinned (.plain (OpenSpec.upto ticksWireSpec)) ticksWireUptoCard

/-- THE SECOND FORM's CARD OF 'sectimelaw10.TicksScale'. -/
def ticksScaleUptoCard : Claim7 := { stood := { row := ticksScaleUptoRow, standIns := [], harness := (true, "9a0ec45ca8a5f7b113ecbdf85d2c5be04547a801fb10fecdb0664b1d0e7eb40c"), looks := false }, kinds := [], alts := [], laidByText := true, laidKinds := [.data, .data, .data], laidTests := true, laidLooks := .later }
def TicksScaleUptoCardSaid : Prop := Claim7.holds Tryd.pinned (.plain (OpenSpec.upto ticksScaleSpec)) ticksScaleUptoCard

/-- THE SECOND FORM's CARD OF 'sectimelaw10.TicksText'. -/
def ticksTextUptoCard : Claim7 := { stood := { row := ticksTextUptoRow, standIns := [], harness := (true, "9a0ec45ca8a5f7b113ecbdf85d2c5be04547a801fb10fecdb0664b1d0e7eb40c"), looks := false }, kinds := [], alts := [], laidByText := true, laidKinds := [.data, .data, .data], laidTests := true, laidLooks := .later }
def TicksTextUptoCardSaid : Prop := Claim7.holds Tryd.pinned (.plain (OpenSpec.upto ticksTextSpec)) ticksTextUptoCard

/-- THE SECOND FORM's CARD OF 'sectimelaw10.TicksUnits'. -/
def ticksUnitsUptoCard : Claim7 := { stood := { row := ticksUnitsUptoRow, standIns := [], harness := (true, "9a0ec45ca8a5f7b113ecbdf85d2c5be04547a801fb10fecdb0664b1d0e7eb40c"), looks := false }, kinds := [], alts := [], laidByText := true, laidKinds := [.data, .data, .data], laidTests := true, laidLooks := .later }
def TicksUnitsUptoCardSaid : Prop := Claim7.holds Tryd.pinned (.plain (OpenSpec.upto ticksUnitsSpec)) ticksUnitsUptoCard

/-- THE SECOND FORM's CARD OF 'sectimelaw10.TicksOrder'. -/
def ticksOrderUptoCard : Claim7 := { stood := { row := ticksOrderUptoRow, standIns := [], harness := (true, "9a0ec45ca8a5f7b113ecbdf85d2c5be04547a801fb10fecdb0664b1d0e7eb40c"), looks := false }, kinds := [], alts := [], laidByText := true, laidKinds := [.data, .data, .data], laidTests := true, laidLooks := .later }
def TicksOrderUptoCardSaid : Prop := Claim7.holds Tryd.pinned (.plain (OpenSpec.upto ticksOrderSpec)) ticksOrderUptoCard
end Rows
end Go.Proofs.YtbpkkobhlbiclaaDoor
