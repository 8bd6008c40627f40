/-
  DERIVED. GIVEN WITH THE SEED: THE CARDS: each row of YtgepbpcolddgoaaDoorRows.lean that lists a variable, with what it lists TIED to the program's text (the seventh form; the later family's looks); each row that meets fmt, with fmt's text TOLD by the authors' own Lean function (tested against real Go, not proved from fmt's source: count such statements apart). THE CARD IS WHAT COUNTS. Prove the row's statement (the work); the ties are given (YtgepbpcolddgoaaDoorTie.lean); close each card by the builder's one call (the guide's Derived/Test/ToyasCard.lean, 'card_holds'). Laid BY PROGRAM, IN A SANDBOX (cutbox-door.mjs). By AI agents, Wed Nov 11 2026. No macro, syntax, notation, axiom, sorry.
-/
import Derived.Test.YtgepbpcolddgoaaDoorRows
import GoSem.ClaimSeven
namespace Go.Proofs.YtgepbpcolddgoaaDoor
namespace Rows

/-- THE TIED CARD OF 'sectimelaw08.OnetimeActs'. -/
def onetimeActsCard : Claim7 := { stood := { row := onetimeActsRow, standIns := [], harness := (true, "7ec1d8c2700f2cd79d37794e9a32d647833b3fbe55203c85eaf1e2d585a67e53"), looks := false }, kinds := [], alts := [], laidByText := true, laidKinds := [.data, .data], laidTests := true, laidLooks := .later }
def OnetimeActsCardSaid : Prop := Claim7.holds Tryd.pinned (.plain (OpenSpec.ofChange onetimeActsSpec)) onetimeActsCard

/-- THE TIED CARD OF 'sectimelaw08.OnetimeRecovers'. -/
def onetimeRecoversCard : Claim7 := { stood := { row := onetimeRecoversRow, standIns := [], harness := (true, "7ec1d8c2700f2cd79d37794e9a32d647833b3fbe55203c85eaf1e2d585a67e53"), looks := false }, kinds := [], alts := [], laidByText := true, laidKinds := [.data, .data], laidTests := true, laidLooks := .later }
def OnetimeRecoversCardSaid : Prop := Claim7.holds Tryd.pinned (.plain (OpenSpec.ofChange onetimeRecoversSpec)) onetimeRecoversCard

/-- THE TIED CARD OF 'sectimelaw08.OnetimeChains'. -/
def onetimeChainsCard : Claim7 := { stood := { row := onetimeChainsRow, standIns := [], harness := (true, "7ec1d8c2700f2cd79d37794e9a32d647833b3fbe55203c85eaf1e2d585a67e53"), looks := false }, kinds := [], alts := [], laidByText := true, laidKinds := [.data, .data], laidTests := true, laidLooks := .later }
def OnetimeChainsCardSaid : Prop := Claim7.holds Tryd.pinned (.plain (OpenSpec.ofChange onetimeChainsSpec)) onetimeChainsCard

/-- THE TIED CARD OF 'sectimelaw08.OnetimeRefuses'. -/
def onetimeRefusesCard : Claim7 := { stood := { row := onetimeRefusesRow, standIns := [], harness := (true, "7ec1d8c2700f2cd79d37794e9a32d647833b3fbe55203c85eaf1e2d585a67e53"), looks := false }, kinds := [], alts := [], laidByText := true, laidKinds := [.data, .data], laidTests := true, laidLooks := .later }
def OnetimeRefusesCardSaid : Prop := Claim7.holds Tryd.pinned (.plain (OpenSpec.ofChange onetimeRefusesSpec)) onetimeRefusesCard

/-- THE SECOND FORM's CARD OF 'sectimelaw08.OnetimeActs'. -/
def onetimeActsUptoCard : Claim7 := { stood := { row := onetimeActsUptoRow, standIns := [], harness := (true, "7ec1d8c2700f2cd79d37794e9a32d647833b3fbe55203c85eaf1e2d585a67e53"), looks := false }, kinds := [], alts := [], laidByText := true, laidKinds := [.data, .data], laidTests := true, laidLooks := .later }
def OnetimeActsUptoCardSaid : Prop := Claim7.holds Tryd.pinned (.plain (OpenSpec.upto onetimeActsSpec)) onetimeActsUptoCard

/-- THE SECOND FORM's CARD OF 'sectimelaw08.OnetimeRecovers'. -/
def onetimeRecoversUptoCard : Claim7 := { stood := { row := onetimeRecoversUptoRow, standIns := [], harness := (true, "7ec1d8c2700f2cd79d37794e9a32d647833b3fbe55203c85eaf1e2d585a67e53"), looks := false }, kinds := [], alts := [], laidByText := true, laidKinds := [.data, .data], laidTests := true, laidLooks := .later }
def OnetimeRecoversUptoCardSaid : Prop := Claim7.holds Tryd.pinned (.plain (OpenSpec.upto onetimeRecoversSpec)) onetimeRecoversUptoCard

/-- THE SECOND FORM's CARD OF 'sectimelaw08.OnetimeChains'. -/
def onetimeChainsUptoCard : Claim7 := { stood := { row := onetimeChainsUptoRow, standIns := [], harness := (true, "7ec1d8c2700f2cd79d37794e9a32d647833b3fbe55203c85eaf1e2d585a67e53"), looks := false }, kinds := [], alts := [], laidByText := true, laidKinds := [.data, .data], laidTests := true, laidLooks := .later }
def OnetimeChainsUptoCardSaid : Prop := Claim7.holds Tryd.pinned (.plain (OpenSpec.upto onetimeChainsSpec)) onetimeChainsUptoCard

/-- THE SECOND FORM's CARD OF 'sectimelaw08.OnetimeRefuses'. -/
def onetimeRefusesUptoCard : Claim7 := { stood := { row := onetimeRefusesUptoRow, standIns := [], harness := (true, "7ec1d8c2700f2cd79d37794e9a32d647833b3fbe55203c85eaf1e2d585a67e53"), looks := false }, kinds := [], alts := [], laidByText := true, laidKinds := [.data, .data], laidTests := true, laidLooks := .later }
def OnetimeRefusesUptoCardSaid : Prop := Claim7.holds Tryd.pinned (.plain (OpenSpec.upto onetimeRefusesSpec)) onetimeRefusesUptoCard
end Rows
end Go.Proofs.YtgepbpcolddgoaaDoor
