/-
  DERIVED. GIVEN WITH THE SEED: THE CARDS: each row of YtalilcljonkmaaaDoorRows.lean that lists a variable, with what it lists TIED to the program's text (the seventh form; the later family's looks); each row that meets fmt, with fmt's text TOLD by the authors' own Lean function (tested against real Go, not proved from fmt's source: count such statements apart). THE CARD IS WHAT COUNTS. Prove the row's statement (the work); the ties are given (YtalilcljonkmaaaDoorTie.lean); close each card by the builder's one call (the guide's Derived/Test/ToyasCard.lean, 'card_holds'). Laid BY PROGRAM, IN A SANDBOX (cutbox-door.mjs). By AI agents, Wed Nov 11 2026. No macro, syntax, notation, axiom, sorry.
-/
import Derived.Test.YtalilcljonkmaaaDoorRows
import GoSem.ClaimSeven
namespace Go.Proofs.YtalilcljonkmaaaDoor
namespace Rows

/-- THE TIED CARD OF 'sectimelaw07.TreeActs'. -/
def treeActsCard : Claim7 := { stood := { row := treeActsRow, standIns := [], harness := (true, "48ba322d6f78bd740f0f905d29d4aa76df8f0a389483ac2c426bd78250b42e64"), looks := false }, kinds := [], alts := [], laidByText := true, laidKinds := [.data, .data], laidTests := true, laidLooks := .later }
def TreeActsCardSaid : Prop := Claim7.holds Tryd.pinned (.plain (OpenSpec.ofChange treeActsSpec)) treeActsCard

/-- THE TIED CARD OF 'sectimelaw07.TreeChecks'. -/
def treeChecksCard : Claim7 := { stood := { row := treeChecksRow, standIns := [], harness := (true, "48ba322d6f78bd740f0f905d29d4aa76df8f0a389483ac2c426bd78250b42e64"), looks := false }, kinds := [], alts := [], laidByText := true, laidKinds := [.data, .data], laidTests := true, laidLooks := .later }
def TreeChecksCardSaid : Prop := Claim7.holds Tryd.pinned (.plain (OpenSpec.ofChange treeChecksSpec)) treeChecksCard

/-- THE TIED CARD OF 'sectimelaw07.TreePaths'. -/
def treePathsCard : Claim7 := { stood := { row := treePathsRow, standIns := [], harness := (true, "48ba322d6f78bd740f0f905d29d4aa76df8f0a389483ac2c426bd78250b42e64"), looks := false }, kinds := [], alts := [], laidByText := true, laidKinds := [.data, .data], laidTests := true, laidLooks := .later }
def TreePathsCardSaid : Prop := Claim7.holds Tryd.pinned (.plain (OpenSpec.ofChange treePathsSpec)) treePathsCard

/-- THE TIED CARD OF 'sectimelaw07.TreeRefuses'. -/
def treeRefusesCard : Claim7 := { stood := { row := treeRefusesRow, standIns := [], harness := (true, "48ba322d6f78bd740f0f905d29d4aa76df8f0a389483ac2c426bd78250b42e64"), looks := false }, kinds := [], alts := [], laidByText := true, laidKinds := [.data, .data], laidTests := true, laidLooks := .later }
def TreeRefusesCardSaid : Prop := Claim7.holds Tryd.pinned (.plain (OpenSpec.ofChange treeRefusesSpec)) treeRefusesCard

/-- THE TIED CARD OF 'sectimelaw07.TreeGrows'. -/
def treeGrowsCard : Claim7 := { stood := { row := treeGrowsRow, standIns := [], harness := (true, "48ba322d6f78bd740f0f905d29d4aa76df8f0a389483ac2c426bd78250b42e64"), looks := false }, kinds := [], alts := [], laidByText := true, laidKinds := [.data, .data], laidTests := true, laidLooks := .later }
def TreeGrowsCardSaid : Prop := Claim7.holds Tryd.pinned (.plain (OpenSpec.ofChange treeGrowsSpec)) treeGrowsCard

/-- THE TIED CARD OF 'sectimelaw07.TreeSplits'. -/
def treeSplitsCard : Claim7 := { stood := { row := treeSplitsRow, standIns := [], harness := (true, "48ba322d6f78bd740f0f905d29d4aa76df8f0a389483ac2c426bd78250b42e64"), looks := false }, kinds := [], alts := [], laidByText := true, laidKinds := [.data, .data], laidTests := true, laidLooks := .later }
def TreeSplitsCardSaid : Prop := Claim7.holds Tryd.pinned (.plain (OpenSpec.ofChange treeSplitsSpec)) treeSplitsCard

/-- THE TIED CARD OF 'sectimelaw07.TreeDepths'. -/
def treeDepthsCard : Claim7 := { stood := { row := treeDepthsRow, standIns := [], harness := (true, "48ba322d6f78bd740f0f905d29d4aa76df8f0a389483ac2c426bd78250b42e64"), looks := false }, kinds := [], alts := [], laidByText := true, laidKinds := [.data, .data], laidTests := true, laidLooks := .later }
def TreeDepthsCardSaid : Prop := Claim7.holds Tryd.pinned (.plain (OpenSpec.ofChange treeDepthsSpec)) treeDepthsCard

/-- THE TIED CARD OF 'sectimelaw07.TreeGrowsTwice'. -/
def treeGrowsTwiceCard : Claim7 := { stood := { row := treeGrowsTwiceRow, standIns := [], harness := (true, "48ba322d6f78bd740f0f905d29d4aa76df8f0a389483ac2c426bd78250b42e64"), looks := false }, kinds := [], alts := [], laidByText := true, laidKinds := [.data, .data], laidTests := true, laidLooks := .later }
def TreeGrowsTwiceCardSaid : Prop := Claim7.holds Tryd.pinned (.plain (OpenSpec.ofChange treeGrowsTwiceSpec)) treeGrowsTwiceCard

/-- THE SECOND FORM's CARD OF 'sectimelaw07.TreeActs'. -/
def treeActsUptoCard : Claim7 := { stood := { row := treeActsUptoRow, standIns := [], harness := (true, "48ba322d6f78bd740f0f905d29d4aa76df8f0a389483ac2c426bd78250b42e64"), looks := false }, kinds := [], alts := [], laidByText := true, laidKinds := [.data, .data], laidTests := true, laidLooks := .later }
def TreeActsUptoCardSaid : Prop := Claim7.holds Tryd.pinned (.plain (OpenSpec.upto treeActsSpec)) treeActsUptoCard

/-- THE SECOND FORM's CARD OF 'sectimelaw07.TreeChecks'. -/
def treeChecksUptoCard : Claim7 := { stood := { row := treeChecksUptoRow, standIns := [], harness := (true, "48ba322d6f78bd740f0f905d29d4aa76df8f0a389483ac2c426bd78250b42e64"), looks := false }, kinds := [], alts := [], laidByText := true, laidKinds := [.data, .data], laidTests := true, laidLooks := .later }
def TreeChecksUptoCardSaid : Prop := Claim7.holds Tryd.pinned (.plain (OpenSpec.upto treeChecksSpec)) treeChecksUptoCard

/-- THE SECOND FORM's CARD OF 'sectimelaw07.TreePaths'. -/
def treePathsUptoCard : Claim7 := { stood := { row := treePathsUptoRow, standIns := [], harness := (true, "48ba322d6f78bd740f0f905d29d4aa76df8f0a389483ac2c426bd78250b42e64"), looks := false }, kinds := [], alts := [], laidByText := true, laidKinds := [.data, .data], laidTests := true, laidLooks := .later }
def TreePathsUptoCardSaid : Prop := Claim7.holds Tryd.pinned (.plain (OpenSpec.upto treePathsSpec)) treePathsUptoCard

/-- THE SECOND FORM's CARD OF 'sectimelaw07.TreeRefuses'. -/
def treeRefusesUptoCard : Claim7 := { stood := { row := treeRefusesUptoRow, standIns := [], harness := (true, "48ba322d6f78bd740f0f905d29d4aa76df8f0a389483ac2c426bd78250b42e64"), looks := false }, kinds := [], alts := [], laidByText := true, laidKinds := [.data, .data], laidTests := true, laidLooks := .later }
def TreeRefusesUptoCardSaid : Prop := Claim7.holds Tryd.pinned (.plain (OpenSpec.upto treeRefusesSpec)) treeRefusesUptoCard

/-- THE SECOND FORM's CARD OF 'sectimelaw07.TreeGrows'. -/
def treeGrowsUptoCard : Claim7 := { stood := { row := treeGrowsUptoRow, standIns := [], harness := (true, "48ba322d6f78bd740f0f905d29d4aa76df8f0a389483ac2c426bd78250b42e64"), looks := false }, kinds := [], alts := [], laidByText := true, laidKinds := [.data, .data], laidTests := true, laidLooks := .later }
def TreeGrowsUptoCardSaid : Prop := Claim7.holds Tryd.pinned (.plain (OpenSpec.upto treeGrowsSpec)) treeGrowsUptoCard

/-- THE SECOND FORM's CARD OF 'sectimelaw07.TreeSplits'. -/
def treeSplitsUptoCard : Claim7 := { stood := { row := treeSplitsUptoRow, standIns := [], harness := (true, "48ba322d6f78bd740f0f905d29d4aa76df8f0a389483ac2c426bd78250b42e64"), looks := false }, kinds := [], alts := [], laidByText := true, laidKinds := [.data, .data], laidTests := true, laidLooks := .later }
def TreeSplitsUptoCardSaid : Prop := Claim7.holds Tryd.pinned (.plain (OpenSpec.upto treeSplitsSpec)) treeSplitsUptoCard

/-- THE SECOND FORM's CARD OF 'sectimelaw07.TreeDepths'. -/
def treeDepthsUptoCard : Claim7 := { stood := { row := treeDepthsUptoRow, standIns := [], harness := (true, "48ba322d6f78bd740f0f905d29d4aa76df8f0a389483ac2c426bd78250b42e64"), looks := false }, kinds := [], alts := [], laidByText := true, laidKinds := [.data, .data], laidTests := true, laidLooks := .later }
def TreeDepthsUptoCardSaid : Prop := Claim7.holds Tryd.pinned (.plain (OpenSpec.upto treeDepthsSpec)) treeDepthsUptoCard

/-- THE SECOND FORM's CARD OF 'sectimelaw07.TreeGrowsTwice'. -/
def treeGrowsTwiceUptoCard : Claim7 := { stood := { row := treeGrowsTwiceUptoRow, standIns := [], harness := (true, "48ba322d6f78bd740f0f905d29d4aa76df8f0a389483ac2c426bd78250b42e64"), looks := false }, kinds := [], alts := [], laidByText := true, laidKinds := [.data, .data], laidTests := true, laidLooks := .later }
def TreeGrowsTwiceUptoCardSaid : Prop := Claim7.holds Tryd.pinned (.plain (OpenSpec.upto treeGrowsTwiceSpec)) treeGrowsTwiceUptoCard
end Rows
end Go.Proofs.YtalilcljonkmaaaDoor
