/-
  DERIVED. GIVEN WITH THE SEED: THE CARDS: each row of YtjgkchmdhicmpaaDoorRows.lean that lists a variable, with what it lists TIED to the program's text (the seventh form; the later family's looks); each row that meets fmt, with fmt's text TOLD by the authors' own Lean function (tested against real Go, not proved from fmt's source: count such statements apart). THE CARD IS WHAT COUNTS. Prove the row's statement (the work); the ties are given (YtjgkchmdhicmpaaDoorTie.lean); close each card by the builder's one call (the guide's Derived/Test/ToyasCard.lean, 'card_holds'). Laid BY PROGRAM, IN A SANDBOX (cutbox-door.mjs). By AI agents, Wed Nov 11 2026. No macro, syntax, notation, axiom, sorry.
-/
import Derived.Test.YtjgkchmdhicmpaaDoorRows
import GoSem.ClaimSeven
namespace Go.Proofs.YtjgkchmdhicmpaaDoor
namespace Rows

/-- THE TIED CARD OF 'sectimelaw09.SignerActs'. -/
def signerActsCard : Claim7 := { stood := { row := signerActsRow, standIns := [], harness := (true, "32f838bf9237e16d3da9665811ad9c6c8ae1518de4ac8587dc15b840ee0dfe02"), looks := false }, kinds := [], alts := [], laidByText := true, laidKinds := [.data, .data], laidTests := true, laidLooks := .later }
def SignerActsCardSaid : Prop := Claim7.holds Tryd.pinned (.plain (OpenSpec.ofChange signerActsSpec)) signerActsCard

/-- THE TIED CARD OF 'sectimelaw09.SignerVerifies'. -/
def signerVerifiesCard : Claim7 := { stood := { row := signerVerifiesRow, standIns := [], harness := (true, "32f838bf9237e16d3da9665811ad9c6c8ae1518de4ac8587dc15b840ee0dfe02"), looks := false }, kinds := [], alts := [], laidByText := true, laidKinds := [.data, .data], laidTests := true, laidLooks := .later }
def SignerVerifiesCardSaid : Prop := Claim7.holds Tryd.pinned (.plain (OpenSpec.ofChange signerVerifiesSpec)) signerVerifiesCard

/-- THE TIED CARD OF 'sectimelaw09.SignerSigns'. -/
def signerSignsCard : Claim7 := { stood := { row := signerSignsRow, standIns := [], harness := (true, "32f838bf9237e16d3da9665811ad9c6c8ae1518de4ac8587dc15b840ee0dfe02"), looks := false }, kinds := [], alts := [], laidByText := true, laidKinds := [.data, .data], laidTests := true, laidLooks := .later }
def SignerSignsCardSaid : Prop := Claim7.holds Tryd.pinned (.plain (OpenSpec.ofChange signerSignsSpec)) signerSignsCard

/-- THE TIED CARD OF 'sectimelaw09.SignerRefuses'. -/
def signerRefusesCard : Claim7 := { stood := { row := signerRefusesRow, standIns := [], harness := (true, "32f838bf9237e16d3da9665811ad9c6c8ae1518de4ac8587dc15b840ee0dfe02"), looks := false }, kinds := [], alts := [], laidByText := true, laidKinds := [.data, .data], laidTests := true, laidLooks := .later }
def SignerRefusesCardSaid : Prop := Claim7.holds Tryd.pinned (.plain (OpenSpec.ofChange signerRefusesSpec)) signerRefusesCard

/-- THE TIED CARD OF 'sectimelaw09.SignerPublic'. -/
def signerPublicCard : Claim7 := { stood := { row := signerPublicRow, standIns := [], harness := (true, "32f838bf9237e16d3da9665811ad9c6c8ae1518de4ac8587dc15b840ee0dfe02"), looks := false }, kinds := [], alts := [], laidByText := true, laidKinds := [.data, .data], laidTests := true, laidLooks := .later }
def SignerPublicCardSaid : Prop := Claim7.holds Tryd.pinned (.plain (OpenSpec.ofChange signerPublicSpec)) signerPublicCard

/-- THE TIED CARD OF 'sectimelaw09.SignerUsesUp'. -/
def signerUsesUpCard : Claim7 := { stood := { row := signerUsesUpRow, standIns := [], harness := (true, "32f838bf9237e16d3da9665811ad9c6c8ae1518de4ac8587dc15b840ee0dfe02"), looks := false }, kinds := [], alts := [], laidByText := true, laidKinds := [.data, .data], laidTests := true, laidLooks := .later }
def SignerUsesUpCardSaid : Prop := Claim7.holds Tryd.pinned (.plain (OpenSpec.ofChange signerUsesUpSpec)) signerUsesUpCard

/-- THE TIED CARD OF 'sectimetop.TopBatches'. -/
def topBatchesCard : Claim7 := { stood := { row := topBatchesRow, standIns := [], harness := (true, "32f838bf9237e16d3da9665811ad9c6c8ae1518de4ac8587dc15b840ee0dfe02"), looks := false }, kinds := [], alts := [], laidByText := true, laidKinds := [.data, .data], laidTests := true, laidLooks := .later }
def TopBatchesCardSaid : Prop := Claim7.holds Tryd.pinned (.plain (OpenSpec.ofChange topBatchesSpec)) topBatchesCard

/-- THE TIED CARD OF 'sectimetop.TopKeysAndHashes'. -/
def topKeysAndHashesCard : Claim7 := { stood := { row := topKeysAndHashesRow, standIns := [], harness := (true, "32f838bf9237e16d3da9665811ad9c6c8ae1518de4ac8587dc15b840ee0dfe02"), looks := false }, kinds := [], alts := [], laidByText := true, laidKinds := [.data, .data], laidTests := true, laidLooks := .later }
def TopKeysAndHashesCardSaid : Prop := Claim7.holds Tryd.pinned (.plain (OpenSpec.ofChange topKeysAndHashesSpec)) topKeysAndHashesCard

/-- THE SECOND FORM's CARD OF 'sectimelaw09.SignerActs'. -/
def signerActsUptoCard : Claim7 := { stood := { row := signerActsUptoRow, standIns := [], harness := (true, "32f838bf9237e16d3da9665811ad9c6c8ae1518de4ac8587dc15b840ee0dfe02"), looks := false }, kinds := [], alts := [], laidByText := true, laidKinds := [.data, .data], laidTests := true, laidLooks := .later }
def SignerActsUptoCardSaid : Prop := Claim7.holds Tryd.pinned (.plain (OpenSpec.upto signerActsSpec)) signerActsUptoCard

/-- THE SECOND FORM's CARD OF 'sectimelaw09.SignerVerifies'. -/
def signerVerifiesUptoCard : Claim7 := { stood := { row := signerVerifiesUptoRow, standIns := [], harness := (true, "32f838bf9237e16d3da9665811ad9c6c8ae1518de4ac8587dc15b840ee0dfe02"), looks := false }, kinds := [], alts := [], laidByText := true, laidKinds := [.data, .data], laidTests := true, laidLooks := .later }
def SignerVerifiesUptoCardSaid : Prop := Claim7.holds Tryd.pinned (.plain (OpenSpec.upto signerVerifiesSpec)) signerVerifiesUptoCard

/-- THE SECOND FORM's CARD OF 'sectimelaw09.SignerSigns'. -/
def signerSignsUptoCard : Claim7 := { stood := { row := signerSignsUptoRow, standIns := [], harness := (true, "32f838bf9237e16d3da9665811ad9c6c8ae1518de4ac8587dc15b840ee0dfe02"), looks := false }, kinds := [], alts := [], laidByText := true, laidKinds := [.data, .data], laidTests := true, laidLooks := .later }
def SignerSignsUptoCardSaid : Prop := Claim7.holds Tryd.pinned (.plain (OpenSpec.upto signerSignsSpec)) signerSignsUptoCard

/-- THE SECOND FORM's CARD OF 'sectimelaw09.SignerRefuses'. -/
def signerRefusesUptoCard : Claim7 := { stood := { row := signerRefusesUptoRow, standIns := [], harness := (true, "32f838bf9237e16d3da9665811ad9c6c8ae1518de4ac8587dc15b840ee0dfe02"), looks := false }, kinds := [], alts := [], laidByText := true, laidKinds := [.data, .data], laidTests := true, laidLooks := .later }
def SignerRefusesUptoCardSaid : Prop := Claim7.holds Tryd.pinned (.plain (OpenSpec.upto signerRefusesSpec)) signerRefusesUptoCard

/-- THE SECOND FORM's CARD OF 'sectimelaw09.SignerPublic'. -/
def signerPublicUptoCard : Claim7 := { stood := { row := signerPublicUptoRow, standIns := [], harness := (true, "32f838bf9237e16d3da9665811ad9c6c8ae1518de4ac8587dc15b840ee0dfe02"), looks := false }, kinds := [], alts := [], laidByText := true, laidKinds := [.data, .data], laidTests := true, laidLooks := .later }
def SignerPublicUptoCardSaid : Prop := Claim7.holds Tryd.pinned (.plain (OpenSpec.upto signerPublicSpec)) signerPublicUptoCard

/-- THE SECOND FORM's CARD OF 'sectimelaw09.SignerUsesUp'. -/
def signerUsesUpUptoCard : Claim7 := { stood := { row := signerUsesUpUptoRow, standIns := [], harness := (true, "32f838bf9237e16d3da9665811ad9c6c8ae1518de4ac8587dc15b840ee0dfe02"), looks := false }, kinds := [], alts := [], laidByText := true, laidKinds := [.data, .data], laidTests := true, laidLooks := .later }
def SignerUsesUpUptoCardSaid : Prop := Claim7.holds Tryd.pinned (.plain (OpenSpec.upto signerUsesUpSpec)) signerUsesUpUptoCard

/-- THE SECOND FORM's CARD OF 'sectimetop.TopBatches'. -/
def topBatchesUptoCard : Claim7 := { stood := { row := topBatchesUptoRow, standIns := [], harness := (true, "32f838bf9237e16d3da9665811ad9c6c8ae1518de4ac8587dc15b840ee0dfe02"), looks := false }, kinds := [], alts := [], laidByText := true, laidKinds := [.data, .data], laidTests := true, laidLooks := .later }
def TopBatchesUptoCardSaid : Prop := Claim7.holds Tryd.pinned (.plain (OpenSpec.upto topBatchesSpec)) topBatchesUptoCard

/-- THE SECOND FORM's CARD OF 'sectimetop.TopKeysAndHashes'. -/
def topKeysAndHashesUptoCard : Claim7 := { stood := { row := topKeysAndHashesUptoRow, standIns := [], harness := (true, "32f838bf9237e16d3da9665811ad9c6c8ae1518de4ac8587dc15b840ee0dfe02"), looks := false }, kinds := [], alts := [], laidByText := true, laidKinds := [.data, .data], laidTests := true, laidLooks := .later }
def TopKeysAndHashesUptoCardSaid : Prop := Claim7.holds Tryd.pinned (.plain (OpenSpec.upto topKeysAndHashesSpec)) topKeysAndHashesUptoCard
end Rows
end Go.Proofs.YtjgkchmdhicmpaaDoor
