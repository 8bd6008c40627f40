/-
  DERIVED. GIVEN WITH THE SEED: THE CARDS: each row of YtpbmdbahkpfkdaaGreatDoorRows.lean that lists a variable, with what it lists TIED to the program's text (the seventh form; the later family's looks); each row that meets fmt, with fmt's text TOLD by the authors' own Lean function (tested against real Go, not proved from fmt's source: count such statements apart). THE CARD IS WHAT COUNTS. Prove the row's statement (the work); the ties are given (YtpbmdbahkpfkdaaGreatDoorTie.lean); close each card by the builder's one call (the guide's Derived/Test/ToyasCard.lean, 'card_holds'). Laid BY PROGRAM, IN A SANDBOX (cutbox-door.mjs). By AI agents, Wed Nov 11 2026. No macro, syntax, notation, axiom, sorry.
-/
import Derived.Test.YtpbmdbahkpfkdaaGreatDoorRows
import GoSem.ClaimSeven
namespace Go.Proofs.YtpbmdbahkpfkdaaGreatDoor
namespace Rows

/-- THE TIED CARD OF 'sectimelaw19.CookieActs'. -/
def cookieActsCard : Claim7 := { stood := { row := cookieActsRow, standIns := [], harness := (true, "42256da55ddc48f7fc0e6f45a8792967f2f7d82c39c1278f6f327233066c8b5f"), looks := false }, kinds := [], alts := [], laidByText := true, laidKinds := [.data, .data], laidTests := true, laidLooks := .later }
def CookieActsCardSaid : Prop := Claim7.holds Tryz.pinned (.plain (OpenSpec.ofChange cookieActsSpec)) cookieActsCard

/-- THE TIED CARD OF 'sectimelaw19.CookieRefuses'. -/
def cookieRefusesCard : Claim7 := { stood := { row := cookieRefusesRow, standIns := [], harness := (true, "42256da55ddc48f7fc0e6f45a8792967f2f7d82c39c1278f6f327233066c8b5f"), looks := false }, kinds := [], alts := [], laidByText := true, laidKinds := [.data, .data], laidTests := true, laidLooks := .later }
def CookieRefusesCardSaid : Prop := Claim7.holds Tryz.pinned (.plain (OpenSpec.ofChange cookieRefusesSpec)) cookieRefusesCard

/-- THE SECOND FORM's CARD OF 'sectimelaw19.CookieActs'. -/
def cookieActsUptoCard : Claim7 := { stood := { row := cookieActsUptoRow, standIns := [], harness := (true, "42256da55ddc48f7fc0e6f45a8792967f2f7d82c39c1278f6f327233066c8b5f"), looks := false }, kinds := [], alts := [], laidByText := true, laidKinds := [.data, .data], laidTests := true, laidLooks := .later }
def CookieActsUptoCardSaid : Prop := Claim7.holds Tryz.pinned (.plain (OpenSpec.upto cookieActsSpec)) cookieActsUptoCard

/-- THE SECOND FORM's CARD OF 'sectimelaw19.CookieRefuses'. -/
def cookieRefusesUptoCard : Claim7 := { stood := { row := cookieRefusesUptoRow, standIns := [], harness := (true, "42256da55ddc48f7fc0e6f45a8792967f2f7d82c39c1278f6f327233066c8b5f"), looks := false }, kinds := [], alts := [], laidByText := true, laidKinds := [.data, .data], laidTests := true, laidLooks := .later }
def CookieRefusesUptoCardSaid : Prop := Claim7.holds Tryz.pinned (.plain (OpenSpec.upto cookieRefusesSpec)) cookieRefusesUptoCard
end Rows
end Go.Proofs.YtpbmdbahkpfkdaaGreatDoor
