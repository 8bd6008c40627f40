/-
  DERIVED. GIVEN WITH THE SEED: THE CARDS: each row of YtofonnokanoflaaGreatDoorRows.lean that lists a variable, with what it lists TIED to the program's text (the seventh form; the later family's looks); each row that meets fmt, with fmt's text TOLD by the authors' own Lean function (tested against real Go, not proved from fmt's source: count such statements apart). THE CARD IS WHAT COUNTS. Prove the row's statement (the work); the ties are given (YtofonnokanoflaaGreatDoorTie.lean); close each card by the builder's one call (the guide's Derived/Test/ToyasCard.lean, 'card_holds'). Laid BY PROGRAM, IN A SANDBOX (cutbox-door.mjs). By AI agents, Wed Nov 11 2026. No macro, syntax, notation, axiom, sorry.
-/
import Derived.Test.YtofonnokanoflaaGreatDoorRows
import GoSem.ClaimSeven
namespace Go.Proofs.YtofonnokanoflaaGreatDoor
namespace Rows

/-- THE TIED CARD OF 'sectimetop.TopConversations'. -/
def topConversationsCard : Claim7 := { stood := { row := topConversationsRow, standIns := [], harness := (true, "dec38547649b9ff26eb512348b9e9c2474e5b1d5f12100006d4e77028b5f1d75"), looks := false }, kinds := [], alts := [], laidByText := true, laidKinds := [.data, .data], laidTests := true, laidLooks := .later }
def TopConversationsCardSaid : Prop := Claim7.holds Tryz.pinned (.plain (OpenSpec.ofChange topConversationsSpec)) topConversationsCard

/-- THE TIED CARD OF 'sectimetop.TopAnyServer'. -/
def topAnyServerCard : Claim7 := { stood := { row := topAnyServerRow, standIns := [], harness := (true, "dec38547649b9ff26eb512348b9e9c2474e5b1d5f12100006d4e77028b5f1d75"), looks := false }, kinds := [], alts := [], laidByText := true, laidKinds := [.data, .data], laidTests := true, laidLooks := .later }
def TopAnyServerCardSaid : Prop := Claim7.holds Tryz.pinned (.plain (OpenSpec.ofChange topAnyServerSpec)) topAnyServerCard

/-- THE TIED CARD OF 'sectimetop.TopNetworks'. -/
def topNetworksCard : Claim7 := { stood := { row := topNetworksRow, standIns := [], harness := (true, "dec38547649b9ff26eb512348b9e9c2474e5b1d5f12100006d4e77028b5f1d75"), looks := false }, kinds := [], alts := [], laidByText := true, laidKinds := [.data, .data], laidTests := true, laidLooks := .later }
def TopNetworksCardSaid : Prop := Claim7.holds Tryz.pinned (.plain (OpenSpec.ofChange topNetworksSpec)) topNetworksCard

/-- THE TIED CARD OF 'sectimetop.TopRenewedKeys'. -/
def topRenewedKeysCard : Claim7 := { stood := { row := topRenewedKeysRow, standIns := [], harness := (true, "dec38547649b9ff26eb512348b9e9c2474e5b1d5f12100006d4e77028b5f1d75"), looks := false }, kinds := [], alts := [], laidByText := true, laidKinds := [.data, .data], laidTests := true, laidLooks := .later }
def TopRenewedKeysCardSaid : Prop := Claim7.holds Tryz.pinned (.plain (OpenSpec.ofChange topRenewedKeysSpec)) topRenewedKeysCard

/-- THE SECOND FORM's CARD OF 'sectimetop.TopConversations'. -/
def topConversationsUptoCard : Claim7 := { stood := { row := topConversationsUptoRow, standIns := [], harness := (true, "dec38547649b9ff26eb512348b9e9c2474e5b1d5f12100006d4e77028b5f1d75"), looks := false }, kinds := [], alts := [], laidByText := true, laidKinds := [.data, .data], laidTests := true, laidLooks := .later }
def TopConversationsUptoCardSaid : Prop := Claim7.holds Tryz.pinned (.plain (OpenSpec.upto topConversationsSpec)) topConversationsUptoCard

/-- THE SECOND FORM's CARD OF 'sectimetop.TopAnyServer'. -/
def topAnyServerUptoCard : Claim7 := { stood := { row := topAnyServerUptoRow, standIns := [], harness := (true, "dec38547649b9ff26eb512348b9e9c2474e5b1d5f12100006d4e77028b5f1d75"), looks := false }, kinds := [], alts := [], laidByText := true, laidKinds := [.data, .data], laidTests := true, laidLooks := .later }
def TopAnyServerUptoCardSaid : Prop := Claim7.holds Tryz.pinned (.plain (OpenSpec.upto topAnyServerSpec)) topAnyServerUptoCard

/-- THE SECOND FORM's CARD OF 'sectimetop.TopNetworks'. -/
def topNetworksUptoCard : Claim7 := { stood := { row := topNetworksUptoRow, standIns := [], harness := (true, "dec38547649b9ff26eb512348b9e9c2474e5b1d5f12100006d4e77028b5f1d75"), looks := false }, kinds := [], alts := [], laidByText := true, laidKinds := [.data, .data], laidTests := true, laidLooks := .later }
def TopNetworksUptoCardSaid : Prop := Claim7.holds Tryz.pinned (.plain (OpenSpec.upto topNetworksSpec)) topNetworksUptoCard

/-- THE SECOND FORM's CARD OF 'sectimetop.TopRenewedKeys'. -/
def topRenewedKeysUptoCard : Claim7 := { stood := { row := topRenewedKeysUptoRow, standIns := [], harness := (true, "dec38547649b9ff26eb512348b9e9c2474e5b1d5f12100006d4e77028b5f1d75"), looks := false }, kinds := [], alts := [], laidByText := true, laidKinds := [.data, .data], laidTests := true, laidLooks := .later }
def TopRenewedKeysUptoCardSaid : Prop := Claim7.holds Tryz.pinned (.plain (OpenSpec.upto topRenewedKeysSpec)) topRenewedKeysUptoCard
end Rows
end Go.Proofs.YtofonnokanoflaaGreatDoor
