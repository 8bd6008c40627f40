/-
  DERIVED. GIVEN WITH THE SEED: THE CARDS: each row of YtlghfnidknfakaaGreatDoorRows.lean that lists a variable, with what it lists TIED to the program's text (the seventh form; the later family's looks); each row that meets fmt, with fmt's text TOLD by the authors' own Lean function (tested against real Go, not proved from fmt's source: count such statements apart). THE CARD IS WHAT COUNTS. Prove the row's statement (the work); the ties are given (YtlghfnidknfakaaGreatDoorTie.lean); close each card by the builder's one call (the guide's Derived/Test/ToyasCard.lean, 'card_holds'). Laid BY PROGRAM, IN A SANDBOX (cutbox-door.mjs). By AI agents, Wed Nov 11 2026. No macro, syntax, notation, axiom, sorry.
-/
import Derived.Test.YtlghfnidknfakaaGreatDoorRows
import GoSem.ClaimSeven
namespace Go.Proofs.YtlghfnidknfakaaGreatDoor
namespace Rows

/-- THE TIED CARD OF 'sectimelaw21.EstablishRecords'. -/
def establishRecordsCard : Claim7 := { stood := { row := establishRecordsRow, standIns := [], harness := (true, "60949dc78aff2a4848812a02054f79b07d3a5e37af0f4c578753428091775329"), looks := false }, kinds := [], alts := [], laidByText := true, laidKinds := [.data, .data], laidTests := true, laidLooks := .later }
def EstablishRecordsCardSaid : Prop := Claim7.holds Tryz.pinned (.plain (OpenSpec.ofChange establishRecordsSpec)) establishRecordsCard

/-- THE TIED CARD OF 'sectimelaw21.EstablishActs'. -/
def establishActsCard : Claim7 := { stood := { row := establishActsRow, standIns := [], harness := (true, "60949dc78aff2a4848812a02054f79b07d3a5e37af0f4c578753428091775329"), looks := false }, kinds := [], alts := [], laidByText := true, laidKinds := [.data, .data], laidTests := true, laidLooks := .later }
def EstablishActsCardSaid : Prop := Claim7.holds Tryz.pinned (.plain (OpenSpec.ofChange establishActsSpec)) establishActsCard

/-- THE TIED CARD OF 'sectimelaw21.EstablishAgrees'. -/
def establishAgreesCard : Claim7 := { stood := { row := establishAgreesRow, standIns := [], harness := (true, "60949dc78aff2a4848812a02054f79b07d3a5e37af0f4c578753428091775329"), looks := false }, kinds := [], alts := [], laidByText := true, laidKinds := [.data, .data], laidTests := true, laidLooks := .later }
def EstablishAgreesCardSaid : Prop := Claim7.holds Tryz.pinned (.plain (OpenSpec.ofChange establishAgreesSpec)) establishAgreesCard

/-- THE TIED CARD OF 'sectimelaw21.EstablishOverChannel'. -/
def establishOverChannelCard : Claim7 := { stood := { row := establishOverChannelRow, standIns := [], harness := (true, "60949dc78aff2a4848812a02054f79b07d3a5e37af0f4c578753428091775329"), looks := false }, kinds := [], alts := [], laidByText := true, laidKinds := [.data, .data], laidTests := true, laidLooks := .later }
def EstablishOverChannelCardSaid : Prop := Claim7.holds Tryz.pinned (.plain (OpenSpec.ofChange establishOverChannelSpec)) establishOverChannelCard

/-- THE TIED CARD OF 'sectimelaw21.EstablishRefuses'. -/
def establishRefusesCard : Claim7 := { stood := { row := establishRefusesRow, standIns := [], harness := (true, "60949dc78aff2a4848812a02054f79b07d3a5e37af0f4c578753428091775329"), looks := false }, kinds := [], alts := [], laidByText := true, laidKinds := [.data, .data], laidTests := true, laidLooks := .later }
def EstablishRefusesCardSaid : Prop := Claim7.holds Tryz.pinned (.plain (OpenSpec.ofChange establishRefusesSpec)) establishRefusesCard

/-- THE SECOND FORM's CARD OF 'sectimelaw21.EstablishRecords'. -/
def establishRecordsUptoCard : Claim7 := { stood := { row := establishRecordsUptoRow, standIns := [], harness := (true, "60949dc78aff2a4848812a02054f79b07d3a5e37af0f4c578753428091775329"), looks := false }, kinds := [], alts := [], laidByText := true, laidKinds := [.data, .data], laidTests := true, laidLooks := .later }
def EstablishRecordsUptoCardSaid : Prop := Claim7.holds Tryz.pinned (.plain (OpenSpec.upto establishRecordsSpec)) establishRecordsUptoCard

/-- THE SECOND FORM's CARD OF 'sectimelaw21.EstablishActs'. -/
def establishActsUptoCard : Claim7 := { stood := { row := establishActsUptoRow, standIns := [], harness := (true, "60949dc78aff2a4848812a02054f79b07d3a5e37af0f4c578753428091775329"), looks := false }, kinds := [], alts := [], laidByText := true, laidKinds := [.data, .data], laidTests := true, laidLooks := .later }
def EstablishActsUptoCardSaid : Prop := Claim7.holds Tryz.pinned (.plain (OpenSpec.upto establishActsSpec)) establishActsUptoCard

/-- THE SECOND FORM's CARD OF 'sectimelaw21.EstablishAgrees'. -/
def establishAgreesUptoCard : Claim7 := { stood := { row := establishAgreesUptoRow, standIns := [], harness := (true, "60949dc78aff2a4848812a02054f79b07d3a5e37af0f4c578753428091775329"), looks := false }, kinds := [], alts := [], laidByText := true, laidKinds := [.data, .data], laidTests := true, laidLooks := .later }
def EstablishAgreesUptoCardSaid : Prop := Claim7.holds Tryz.pinned (.plain (OpenSpec.upto establishAgreesSpec)) establishAgreesUptoCard

/-- THE SECOND FORM's CARD OF 'sectimelaw21.EstablishOverChannel'. -/
def establishOverChannelUptoCard : Claim7 := { stood := { row := establishOverChannelUptoRow, standIns := [], harness := (true, "60949dc78aff2a4848812a02054f79b07d3a5e37af0f4c578753428091775329"), looks := false }, kinds := [], alts := [], laidByText := true, laidKinds := [.data, .data], laidTests := true, laidLooks := .later }
def EstablishOverChannelUptoCardSaid : Prop := Claim7.holds Tryz.pinned (.plain (OpenSpec.upto establishOverChannelSpec)) establishOverChannelUptoCard

/-- THE SECOND FORM's CARD OF 'sectimelaw21.EstablishRefuses'. -/
def establishRefusesUptoCard : Claim7 := { stood := { row := establishRefusesUptoRow, standIns := [], harness := (true, "60949dc78aff2a4848812a02054f79b07d3a5e37af0f4c578753428091775329"), looks := false }, kinds := [], alts := [], laidByText := true, laidKinds := [.data, .data], laidTests := true, laidLooks := .later }
def EstablishRefusesUptoCardSaid : Prop := Claim7.holds Tryz.pinned (.plain (OpenSpec.upto establishRefusesSpec)) establishRefusesUptoCard
end Rows
end Go.Proofs.YtlghfnidknfakaaGreatDoor
