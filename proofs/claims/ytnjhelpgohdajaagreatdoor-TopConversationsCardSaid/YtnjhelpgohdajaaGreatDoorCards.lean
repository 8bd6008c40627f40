/-
  DERIVED. GIVEN WITH THE SEED: THE CARDS: each row of YtnjhelpgohdajaaGreatDoorRows.lean that lists a variable, with what it lists TIED to the program's text (the seventh form; the later family's looks); each row that meets fmt, with fmt's text TOLD by the authors' own Lean function (tested against real Go, not proved from fmt's source: count such statements apart). THE CARD IS WHAT COUNTS. Prove the row's statement (the work); the ties are given (YtnjhelpgohdajaaGreatDoorTie.lean); close each card by the builder's one call (the guide's Derived/Test/ToyasCard.lean, 'card_holds'). Laid BY PROGRAM, IN A SANDBOX (cutbox-door.mjs). By AI agents, Wed Nov 11 2026. No macro, syntax, notation, axiom, sorry.
-/
import Derived.Test.YtnjhelpgohdajaaGreatDoorRows
import GoSem.ClaimSeven
namespace Go.Proofs.YtnjhelpgohdajaaGreatDoor
namespace Rows

/-- THE TIED CARD OF 'sectimetop.TopConversations'. -/
def topConversationsCard : Claim7 := { stood := { row := topConversationsRow, standIns := [], harness := (true, "d9d8cdba0303ec891bc8e0c1eddf2c5a56521370a6022a431830efd6534338f4"), looks := false }, kinds := [], alts := [], laidByText := true, laidKinds := [.data, .data], laidTests := true, laidLooks := .later }
def TopConversationsCardSaid : Prop := Claim7.holds Tryz.pinned (.plain (OpenSpec.ofChange topConversationsSpec)) topConversationsCard

/-- THE TIED CARD OF 'sectimetop.TopNetworks'. -/
def topNetworksCard : Claim7 := { stood := { row := topNetworksRow, standIns := [], harness := (true, "d9d8cdba0303ec891bc8e0c1eddf2c5a56521370a6022a431830efd6534338f4"), looks := false }, kinds := [], alts := [], laidByText := true, laidKinds := [.data, .data], laidTests := true, laidLooks := .later }
def TopNetworksCardSaid : Prop := Claim7.holds Tryz.pinned (.plain (OpenSpec.ofChange topNetworksSpec)) topNetworksCard

/-- THE SECOND FORM's CARD OF 'sectimetop.TopConversations'. -/
def topConversationsUptoCard : Claim7 := { stood := { row := topConversationsUptoRow, standIns := [], harness := (true, "d9d8cdba0303ec891bc8e0c1eddf2c5a56521370a6022a431830efd6534338f4"), looks := false }, kinds := [], alts := [], laidByText := true, laidKinds := [.data, .data], laidTests := true, laidLooks := .later }
def TopConversationsUptoCardSaid : Prop := Claim7.holds Tryz.pinned (.plain (OpenSpec.upto topConversationsSpec)) topConversationsUptoCard

/-- THE SECOND FORM's CARD OF 'sectimetop.TopNetworks'. -/
def topNetworksUptoCard : Claim7 := { stood := { row := topNetworksUptoRow, standIns := [], harness := (true, "d9d8cdba0303ec891bc8e0c1eddf2c5a56521370a6022a431830efd6534338f4"), looks := false }, kinds := [], alts := [], laidByText := true, laidKinds := [.data, .data], laidTests := true, laidLooks := .later }
def TopNetworksUptoCardSaid : Prop := Claim7.holds Tryz.pinned (.plain (OpenSpec.upto topNetworksSpec)) topNetworksUptoCard
end Rows
end Go.Proofs.YtnjhelpgohdajaaGreatDoor
