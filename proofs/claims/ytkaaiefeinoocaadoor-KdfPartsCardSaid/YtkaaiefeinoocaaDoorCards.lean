/-
  DERIVED. GIVEN WITH THE SEED: THE CARDS: each row of YtkaaiefeinoocaaDoorRows.lean that lists a variable, with what it lists TIED to the program's text (the seventh form; the later family's looks); each row that meets fmt, with fmt's text TOLD by the authors' own Lean function (tested against real Go, not proved from fmt's source: count such statements apart). THE CARD IS WHAT COUNTS. Prove the row's statement (the work); the ties are given (YtkaaiefeinoocaaDoorTie.lean); close each card by the builder's one call (the guide's Derived/Test/ToyasCard.lean, 'card_holds'). Laid BY PROGRAM, IN A SANDBOX (cutbox-door.mjs). By AI agents, Wed Nov 11 2026. No macro, syntax, notation, axiom, sorry.
-/
import Derived.Test.YtkaaiefeinoocaaDoorRows
import GoSem.ClaimSeven
namespace Go.Proofs.YtkaaiefeinoocaaDoor
namespace Rows

/-- THE TIED CARD OF 'sectimelaw03.KdfActs'. -/
def kdfActsCard : Claim7 := { stood := { row := kdfActsRow, standIns := [], harness := (true, "cd51f74d673cd8fd044a58c7076e42cea2fd97a90ab730ecf1e09ab273789039"), looks := false }, kinds := [], alts := [], laidByText := true, laidKinds := [.data, .data], laidTests := true, laidLooks := .later }
def KdfActsCardSaid : Prop := Claim7.holds Tryd.pinned (.plain (OpenSpec.ofChange kdfActsSpec)) kdfActsCard

/-- THE TIED CARD OF 'sectimelaw03.KdfPrefixes'. -/
def kdfPrefixesCard : Claim7 := { stood := { row := kdfPrefixesRow, standIns := [], harness := (true, "cd51f74d673cd8fd044a58c7076e42cea2fd97a90ab730ecf1e09ab273789039"), looks := false }, kinds := [], alts := [], laidByText := true, laidKinds := [.data, .data], laidTests := true, laidLooks := .later }
def KdfPrefixesCardSaid : Prop := Claim7.holds Tryd.pinned (.plain (OpenSpec.ofChange kdfPrefixesSpec)) kdfPrefixesCard

/-- THE TIED CARD OF 'sectimelaw03.KdfKeys'. -/
def kdfKeysCard : Claim7 := { stood := { row := kdfKeysRow, standIns := [], harness := (true, "cd51f74d673cd8fd044a58c7076e42cea2fd97a90ab730ecf1e09ab273789039"), looks := false }, kinds := [], alts := [], laidByText := true, laidKinds := [.data, .data], laidTests := true, laidLooks := .later }
def KdfKeysCardSaid : Prop := Claim7.holds Tryd.pinned (.plain (OpenSpec.ofChange kdfKeysSpec)) kdfKeysCard

/-- THE TIED CARD OF 'sectimelaw03.KdfParts'. -/
def kdfPartsCard : Claim7 := { stood := { row := kdfPartsRow, standIns := [], harness := (true, "cd51f74d673cd8fd044a58c7076e42cea2fd97a90ab730ecf1e09ab273789039"), looks := false }, kinds := [], alts := [], laidByText := true, laidKinds := [.data, .data], laidTests := true, laidLooks := .later }
def KdfPartsCardSaid : Prop := Claim7.holds Tryd.pinned (.plain (OpenSpec.ofChange kdfPartsSpec)) kdfPartsCard

/-- THE TIED CARD OF 'sectimelaw03.KdfLabels'. -/
def kdfLabelsCard : Claim7 := { stood := { row := kdfLabelsRow, standIns := [], harness := (true, "cd51f74d673cd8fd044a58c7076e42cea2fd97a90ab730ecf1e09ab273789039"), looks := false }, kinds := [], alts := [], laidByText := true, laidKinds := [.data, .data], laidTests := true, laidLooks := .later }
def KdfLabelsCardSaid : Prop := Claim7.holds Tryd.pinned (.plain (OpenSpec.ofChange kdfLabelsSpec)) kdfLabelsCard

/-- THE SECOND FORM's CARD OF 'sectimelaw03.KdfActs'. -/
def kdfActsUptoCard : Claim7 := { stood := { row := kdfActsUptoRow, standIns := [], harness := (true, "cd51f74d673cd8fd044a58c7076e42cea2fd97a90ab730ecf1e09ab273789039"), looks := false }, kinds := [], alts := [], laidByText := true, laidKinds := [.data, .data], laidTests := true, laidLooks := .later }
def KdfActsUptoCardSaid : Prop := Claim7.holds Tryd.pinned (.plain (OpenSpec.upto kdfActsSpec)) kdfActsUptoCard

/-- THE SECOND FORM's CARD OF 'sectimelaw03.KdfPrefixes'. -/
def kdfPrefixesUptoCard : Claim7 := { stood := { row := kdfPrefixesUptoRow, standIns := [], harness := (true, "cd51f74d673cd8fd044a58c7076e42cea2fd97a90ab730ecf1e09ab273789039"), looks := false }, kinds := [], alts := [], laidByText := true, laidKinds := [.data, .data], laidTests := true, laidLooks := .later }
def KdfPrefixesUptoCardSaid : Prop := Claim7.holds Tryd.pinned (.plain (OpenSpec.upto kdfPrefixesSpec)) kdfPrefixesUptoCard

/-- THE SECOND FORM's CARD OF 'sectimelaw03.KdfKeys'. -/
def kdfKeysUptoCard : Claim7 := { stood := { row := kdfKeysUptoRow, standIns := [], harness := (true, "cd51f74d673cd8fd044a58c7076e42cea2fd97a90ab730ecf1e09ab273789039"), looks := false }, kinds := [], alts := [], laidByText := true, laidKinds := [.data, .data], laidTests := true, laidLooks := .later }
def KdfKeysUptoCardSaid : Prop := Claim7.holds Tryd.pinned (.plain (OpenSpec.upto kdfKeysSpec)) kdfKeysUptoCard

/-- THE SECOND FORM's CARD OF 'sectimelaw03.KdfParts'. -/
def kdfPartsUptoCard : Claim7 := { stood := { row := kdfPartsUptoRow, standIns := [], harness := (true, "cd51f74d673cd8fd044a58c7076e42cea2fd97a90ab730ecf1e09ab273789039"), looks := false }, kinds := [], alts := [], laidByText := true, laidKinds := [.data, .data], laidTests := true, laidLooks := .later }
def KdfPartsUptoCardSaid : Prop := Claim7.holds Tryd.pinned (.plain (OpenSpec.upto kdfPartsSpec)) kdfPartsUptoCard

/-- THE SECOND FORM's CARD OF 'sectimelaw03.KdfLabels'. -/
def kdfLabelsUptoCard : Claim7 := { stood := { row := kdfLabelsUptoRow, standIns := [], harness := (true, "cd51f74d673cd8fd044a58c7076e42cea2fd97a90ab730ecf1e09ab273789039"), looks := false }, kinds := [], alts := [], laidByText := true, laidKinds := [.data, .data], laidTests := true, laidLooks := .later }
def KdfLabelsUptoCardSaid : Prop := Claim7.holds Tryd.pinned (.plain (OpenSpec.upto kdfLabelsSpec)) kdfLabelsUptoCard
end Rows
end Go.Proofs.YtkaaiefeinoocaaDoor
