/-
  DERIVED. GIVEN WITH THE SEED: THE CARDS: each row of YtbkhllchjbjhgaaGreatDoorRows.lean that lists a variable, with what it lists TIED to the program's text (the seventh form; the later family's looks); each row that meets fmt, with fmt's text TOLD by the authors' own Lean function (tested against real Go, not proved from fmt's source: count such statements apart). THE CARD IS WHAT COUNTS. Prove the row's statement (the work); the ties are given (YtbkhllchjbjhgaaGreatDoorTie.lean); close each card by the builder's one call (the guide's Derived/Test/ToyasCard.lean, 'card_holds'). Laid BY PROGRAM, IN A SANDBOX (cutbox-door.mjs). By AI agents, Wed Nov 11 2026. No macro, syntax, notation, axiom, sorry.
-/
import Derived.Test.YtbkhllchjbjhgaaGreatDoorRows
import GoSem.ClaimSeven
namespace Go.Proofs.YtbkhllchjbjhgaaGreatDoor
namespace Rows

/-- THE TIED CARD OF 'sectimelaw20.ChannelActs'. -/
def channelActsCard : Claim7 := { stood := { row := channelActsRow, standIns := [], harness := (true, "6074137218f80f0bd2890ddf0b40f0a98de6f70576434758f8529fcd6bc40f51"), looks := false }, kinds := [], alts := [], laidByText := true, laidKinds := [.data, .data], laidTests := true, laidLooks := .later }
def ChannelActsCardSaid : Prop := Claim7.holds Tryz.pinned (.plain (OpenSpec.ofChange channelActsSpec)) channelActsCard

/-- THE TIED CARD OF 'sectimelaw20.ChannelOrder'. -/
def channelOrderCard : Claim7 := { stood := { row := channelOrderRow, standIns := [], harness := (true, "6074137218f80f0bd2890ddf0b40f0a98de6f70576434758f8529fcd6bc40f51"), looks := false }, kinds := [], alts := [], laidByText := true, laidKinds := [.data, .data], laidTests := true, laidLooks := .later }
def ChannelOrderCardSaid : Prop := Claim7.holds Tryz.pinned (.plain (OpenSpec.ofChange channelOrderSpec)) channelOrderCard

/-- THE SECOND FORM's CARD OF 'sectimelaw20.ChannelActs'. -/
def channelActsUptoCard : Claim7 := { stood := { row := channelActsUptoRow, standIns := [], harness := (true, "6074137218f80f0bd2890ddf0b40f0a98de6f70576434758f8529fcd6bc40f51"), looks := false }, kinds := [], alts := [], laidByText := true, laidKinds := [.data, .data], laidTests := true, laidLooks := .later }
def ChannelActsUptoCardSaid : Prop := Claim7.holds Tryz.pinned (.plain (OpenSpec.upto channelActsSpec)) channelActsUptoCard

/-- THE SECOND FORM's CARD OF 'sectimelaw20.ChannelOrder'. -/
def channelOrderUptoCard : Claim7 := { stood := { row := channelOrderUptoRow, standIns := [], harness := (true, "6074137218f80f0bd2890ddf0b40f0a98de6f70576434758f8529fcd6bc40f51"), looks := false }, kinds := [], alts := [], laidByText := true, laidKinds := [.data, .data], laidTests := true, laidLooks := .later }
def ChannelOrderUptoCardSaid : Prop := Claim7.holds Tryz.pinned (.plain (OpenSpec.upto channelOrderSpec)) channelOrderUptoCard
end Rows
end Go.Proofs.YtbkhllchjbjhgaaGreatDoor
