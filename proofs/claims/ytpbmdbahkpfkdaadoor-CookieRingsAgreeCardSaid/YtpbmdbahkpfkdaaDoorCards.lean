/-
  DERIVED. GIVEN WITH THE SEED: THE CARDS: each row of YtpbmdbahkpfkdaaDoorRows.lean that lists a variable, with what it lists TIED to the program's text (the seventh form; the later family's looks); each row that meets fmt, with fmt's text TOLD by the authors' own Lean function (tested against real Go, not proved from fmt's source: count such statements apart). THE CARD IS WHAT COUNTS. Prove the row's statement (the work); the ties are given (YtpbmdbahkpfkdaaDoorTie.lean); close each card by the builder's one call (the guide's Derived/Test/ToyasCard.lean, 'card_holds'). Laid BY PROGRAM, IN A SANDBOX (cutbox-door.mjs). By AI agents, Wed Nov 11 2026. No macro, syntax, notation, axiom, sorry.
-/
import Derived.Test.YtpbmdbahkpfkdaaDoorRows
import GoSem.ClaimSeven
namespace Go.Proofs.YtpbmdbahkpfkdaaDoor
namespace Rows

/-- THE TIED CARD OF 'sectimelaw19.CookieOpens'. -/
def cookieOpensCard : Claim7 := { stood := { row := cookieOpensRow, standIns := [], harness := (true, "c7b64284d7a3a05fd59bde36ad1f09d99c092f80054c5a707750de05b882e97b"), looks := false }, kinds := [], alts := [], laidByText := true, laidKinds := [.data, .data], laidTests := true, laidLooks := .later }
def CookieOpensCardSaid : Prop := Claim7.holds Tryd.pinned (.plain (OpenSpec.ofChange cookieOpensSpec)) cookieOpensCard

/-- THE TIED CARD OF 'sectimelaw19.CookieAges'. -/
def cookieAgesCard : Claim7 := { stood := { row := cookieAgesRow, standIns := [], harness := (true, "c7b64284d7a3a05fd59bde36ad1f09d99c092f80054c5a707750de05b882e97b"), looks := false }, kinds := [], alts := [], laidByText := true, laidKinds := [.data, .data], laidTests := true, laidLooks := .later }
def CookieAgesCardSaid : Prop := Claim7.holds Tryd.pinned (.plain (OpenSpec.ofChange cookieAgesSpec)) cookieAgesCard

/-- THE TIED CARD OF 'sectimelaw19.CookieRingsAgree'. -/
def cookieRingsAgreeCard : Claim7 := { stood := { row := cookieRingsAgreeRow, standIns := [], harness := (true, "c7b64284d7a3a05fd59bde36ad1f09d99c092f80054c5a707750de05b882e97b"), looks := false }, kinds := [], alts := [], laidByText := true, laidKinds := [.data, .data], laidTests := true, laidLooks := .later }
def CookieRingsAgreeCardSaid : Prop := Claim7.holds Tryd.pinned (.plain (OpenSpec.ofChange cookieRingsAgreeSpec)) cookieRingsAgreeCard

/-- THE SECOND FORM's CARD OF 'sectimelaw19.CookieOpens'. -/
def cookieOpensUptoCard : Claim7 := { stood := { row := cookieOpensUptoRow, standIns := [], harness := (true, "c7b64284d7a3a05fd59bde36ad1f09d99c092f80054c5a707750de05b882e97b"), looks := false }, kinds := [], alts := [], laidByText := true, laidKinds := [.data, .data], laidTests := true, laidLooks := .later }
def CookieOpensUptoCardSaid : Prop := Claim7.holds Tryd.pinned (.plain (OpenSpec.upto cookieOpensSpec)) cookieOpensUptoCard

/-- THE SECOND FORM's CARD OF 'sectimelaw19.CookieAges'. -/
def cookieAgesUptoCard : Claim7 := { stood := { row := cookieAgesUptoRow, standIns := [], harness := (true, "c7b64284d7a3a05fd59bde36ad1f09d99c092f80054c5a707750de05b882e97b"), looks := false }, kinds := [], alts := [], laidByText := true, laidKinds := [.data, .data], laidTests := true, laidLooks := .later }
def CookieAgesUptoCardSaid : Prop := Claim7.holds Tryd.pinned (.plain (OpenSpec.upto cookieAgesSpec)) cookieAgesUptoCard

/-- THE SECOND FORM's CARD OF 'sectimelaw19.CookieRingsAgree'. -/
def cookieRingsAgreeUptoCard : Claim7 := { stood := { row := cookieRingsAgreeUptoRow, standIns := [], harness := (true, "c7b64284d7a3a05fd59bde36ad1f09d99c092f80054c5a707750de05b882e97b"), looks := false }, kinds := [], alts := [], laidByText := true, laidKinds := [.data, .data], laidTests := true, laidLooks := .later }
def CookieRingsAgreeUptoCardSaid : Prop := Claim7.holds Tryd.pinned (.plain (OpenSpec.upto cookieRingsAgreeSpec)) cookieRingsAgreeUptoCard
end Rows
end Go.Proofs.YtpbmdbahkpfkdaaDoor
