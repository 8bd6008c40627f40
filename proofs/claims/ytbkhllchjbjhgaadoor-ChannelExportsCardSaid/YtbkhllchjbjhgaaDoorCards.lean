/-
  DERIVED. GIVEN WITH THE SEED: THE CARDS: each row of YtbkhllchjbjhgaaDoorRows.lean that lists a variable, with what it lists TIED to the program's text (the seventh form; the later family's looks); each row that meets fmt, with fmt's text TOLD by the authors' own Lean function (tested against real Go, not proved from fmt's source: count such statements apart). THE CARD IS WHAT COUNTS. Prove the row's statement (the work); the ties are given (YtbkhllchjbjhgaaDoorTie.lean); close each card by the builder's one call (the guide's Derived/Test/ToyasCard.lean, 'card_holds'). Laid BY PROGRAM, IN A SANDBOX (cutbox-door.mjs). By AI agents, Wed Nov 11 2026. No macro, syntax, notation, axiom, sorry.
-/
import Derived.Test.YtbkhllchjbjhgaaDoorRows
import GoSem.ClaimSeven
namespace Go.Proofs.YtbkhllchjbjhgaaDoor
namespace Rows

/-- THE TIED CARD OF 'sectimelaw20.ChannelTalks'. -/
def channelTalksCard : Claim7 := { stood := { row := channelTalksRow, standIns := [], harness := (true, "0a38cf13a29b026dc0f85d99362a8929205310e10a04505f4bc60bdb2bb0e8ab"), looks := false }, kinds := [], alts := [], laidByText := true, laidKinds := [.data, .data], laidTests := true, laidLooks := .later }
def ChannelTalksCardSaid : Prop := Claim7.holds Tryd.pinned (.plain (OpenSpec.ofChange channelTalksSpec)) channelTalksCard

/-- THE TIED CARD OF 'sectimelaw20.ChannelExports'. -/
def channelExportsCard : Claim7 := { stood := { row := channelExportsRow, standIns := [], harness := (true, "0a38cf13a29b026dc0f85d99362a8929205310e10a04505f4bc60bdb2bb0e8ab"), looks := false }, kinds := [], alts := [], laidByText := true, laidKinds := [.data, .data], laidTests := true, laidLooks := .later }
def ChannelExportsCardSaid : Prop := Claim7.holds Tryd.pinned (.plain (OpenSpec.ofChange channelExportsSpec)) channelExportsCard

/-- THE SECOND FORM's CARD OF 'sectimelaw20.ChannelTalks'. -/
def channelTalksUptoCard : Claim7 := { stood := { row := channelTalksUptoRow, standIns := [], harness := (true, "0a38cf13a29b026dc0f85d99362a8929205310e10a04505f4bc60bdb2bb0e8ab"), looks := false }, kinds := [], alts := [], laidByText := true, laidKinds := [.data, .data], laidTests := true, laidLooks := .later }
def ChannelTalksUptoCardSaid : Prop := Claim7.holds Tryd.pinned (.plain (OpenSpec.upto channelTalksSpec)) channelTalksUptoCard

/-- THE SECOND FORM's CARD OF 'sectimelaw20.ChannelExports'. -/
def channelExportsUptoCard : Claim7 := { stood := { row := channelExportsUptoRow, standIns := [], harness := (true, "0a38cf13a29b026dc0f85d99362a8929205310e10a04505f4bc60bdb2bb0e8ab"), looks := false }, kinds := [], alts := [], laidByText := true, laidKinds := [.data, .data], laidTests := true, laidLooks := .later }
def ChannelExportsUptoCardSaid : Prop := Claim7.holds Tryd.pinned (.plain (OpenSpec.upto channelExportsSpec)) channelExportsUptoCard
end Rows
end Go.Proofs.YtbkhllchjbjhgaaDoor
