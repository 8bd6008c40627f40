/-
  DERIVED. GIVEN WITH THE SEED: THE CARDS: each row of YtakkgbpgobbcmaaDoorRows.lean that lists a variable, with what it lists TIED to the program's text (the seventh form; the later family's looks); each row that meets fmt, with fmt's text TOLD by the authors' own Lean function (tested against real Go, not proved from fmt's source: count such statements apart). THE CARD IS WHAT COUNTS. Prove the row's statement (the work); the ties are given (YtakkgbpgobbcmaaDoorTie.lean); close each card by the builder's one call (the guide's Derived/Test/ToyasCard.lean, 'card_holds'). Laid BY PROGRAM, IN A SANDBOX (cutbox-door.mjs). By AI agents, Wed Nov 11 2026. No macro, syntax, notation, axiom, sorry.
-/
import Derived.Test.YtakkgbpgobbcmaaDoorRows
import GoSem.ClaimSeven
namespace Go.Proofs.YtakkgbpgobbcmaaDoor
namespace Rows

/-- THE TIED CARD OF 'sectimelaw02.HashSums'. -/
def hashSumsCard : Claim7 := { stood := { row := hashSumsRow, standIns := [], harness := (true, "0da08168448b9afaab6bdda355e5277086d4cdc5be5f955d2f79d0e41048da41"), looks := false }, kinds := [], alts := [], laidByText := true, laidKinds := [.data, .data], laidTests := true, laidLooks := .later }
def HashSumsCardSaid : Prop := Claim7.holds Tryd.pinned (.plain (OpenSpec.ofChange hashSumsSpec)) hashSumsCard

/-- THE TIED CARD OF 'sectimelaw02.HashEdges'. -/
def hashEdgesCard : Claim7 := { stood := { row := hashEdgesRow, standIns := [], harness := (true, "0da08168448b9afaab6bdda355e5277086d4cdc5be5f955d2f79d0e41048da41"), looks := false }, kinds := [], alts := [], laidByText := true, laidKinds := [.data, .data], laidTests := true, laidLooks := .later }
def HashEdgesCardSaid : Prop := Claim7.holds Tryd.pinned (.plain (OpenSpec.ofChange hashEdgesSpec)) hashEdgesCard

/-- THE TIED CARD OF 'sectimelaw02.HashSteps'. -/
def hashStepsCard : Claim7 := { stood := { row := hashStepsRow, standIns := [], harness := (true, "0da08168448b9afaab6bdda355e5277086d4cdc5be5f955d2f79d0e41048da41"), looks := false }, kinds := [], alts := [], laidByText := true, laidKinds := [.data, .data], laidTests := true, laidLooks := .later }
def HashStepsCardSaid : Prop := Claim7.holds Tryd.pinned (.plain (OpenSpec.ofChange hashStepsSpec)) hashStepsCard

/-- THE TIED CARD OF 'sectimelaw02.HashInParts'. -/
def hashInPartsCard : Claim7 := { stood := { row := hashInPartsRow, standIns := [], harness := (true, "0da08168448b9afaab6bdda355e5277086d4cdc5be5f955d2f79d0e41048da41"), looks := false }, kinds := [], alts := [], laidByText := true, laidKinds := [.data, .data], laidTests := true, laidLooks := .later }
def HashInPartsCardSaid : Prop := Claim7.holds Tryd.pinned (.plain (OpenSpec.ofChange hashInPartsSpec)) hashInPartsCard

/-- THE TIED CARD OF 'sectimelaw02.HashChains'. -/
def hashChainsCard : Claim7 := { stood := { row := hashChainsRow, standIns := [], harness := (true, "0da08168448b9afaab6bdda355e5277086d4cdc5be5f955d2f79d0e41048da41"), looks := false }, kinds := [], alts := [], laidByText := true, laidKinds := [.data, .data], laidTests := true, laidLooks := .later }
def HashChainsCardSaid : Prop := Claim7.holds Tryd.pinned (.plain (OpenSpec.ofChange hashChainsSpec)) hashChainsCard

/-- THE TIED CARD OF 'sectimelaw02.HashGoesOn'. -/
def hashGoesOnCard : Claim7 := { stood := { row := hashGoesOnRow, standIns := [], harness := (true, "0da08168448b9afaab6bdda355e5277086d4cdc5be5f955d2f79d0e41048da41"), looks := false }, kinds := [], alts := [], laidByText := true, laidKinds := [.data, .data], laidTests := true, laidLooks := .later }
def HashGoesOnCardSaid : Prop := Claim7.holds Tryd.pinned (.plain (OpenSpec.ofChange hashGoesOnSpec)) hashGoesOnCard

/-- THE SECOND FORM's CARD OF 'sectimelaw02.HashSums'. -/
def hashSumsUptoCard : Claim7 := { stood := { row := hashSumsUptoRow, standIns := [], harness := (true, "0da08168448b9afaab6bdda355e5277086d4cdc5be5f955d2f79d0e41048da41"), looks := false }, kinds := [], alts := [], laidByText := true, laidKinds := [.data, .data], laidTests := true, laidLooks := .later }
def HashSumsUptoCardSaid : Prop := Claim7.holds Tryd.pinned (.plain (OpenSpec.upto hashSumsSpec)) hashSumsUptoCard

/-- THE SECOND FORM's CARD OF 'sectimelaw02.HashEdges'. -/
def hashEdgesUptoCard : Claim7 := { stood := { row := hashEdgesUptoRow, standIns := [], harness := (true, "0da08168448b9afaab6bdda355e5277086d4cdc5be5f955d2f79d0e41048da41"), looks := false }, kinds := [], alts := [], laidByText := true, laidKinds := [.data, .data], laidTests := true, laidLooks := .later }
def HashEdgesUptoCardSaid : Prop := Claim7.holds Tryd.pinned (.plain (OpenSpec.upto hashEdgesSpec)) hashEdgesUptoCard

/-- THE SECOND FORM's CARD OF 'sectimelaw02.HashSteps'. -/
def hashStepsUptoCard : Claim7 := { stood := { row := hashStepsUptoRow, standIns := [], harness := (true, "0da08168448b9afaab6bdda355e5277086d4cdc5be5f955d2f79d0e41048da41"), looks := false }, kinds := [], alts := [], laidByText := true, laidKinds := [.data, .data], laidTests := true, laidLooks := .later }
def HashStepsUptoCardSaid : Prop := Claim7.holds Tryd.pinned (.plain (OpenSpec.upto hashStepsSpec)) hashStepsUptoCard

/-- THE SECOND FORM's CARD OF 'sectimelaw02.HashInParts'. -/
def hashInPartsUptoCard : Claim7 := { stood := { row := hashInPartsUptoRow, standIns := [], harness := (true, "0da08168448b9afaab6bdda355e5277086d4cdc5be5f955d2f79d0e41048da41"), looks := false }, kinds := [], alts := [], laidByText := true, laidKinds := [.data, .data], laidTests := true, laidLooks := .later }
def HashInPartsUptoCardSaid : Prop := Claim7.holds Tryd.pinned (.plain (OpenSpec.upto hashInPartsSpec)) hashInPartsUptoCard

/-- THE SECOND FORM's CARD OF 'sectimelaw02.HashChains'. -/
def hashChainsUptoCard : Claim7 := { stood := { row := hashChainsUptoRow, standIns := [], harness := (true, "0da08168448b9afaab6bdda355e5277086d4cdc5be5f955d2f79d0e41048da41"), looks := false }, kinds := [], alts := [], laidByText := true, laidKinds := [.data, .data], laidTests := true, laidLooks := .later }
def HashChainsUptoCardSaid : Prop := Claim7.holds Tryd.pinned (.plain (OpenSpec.upto hashChainsSpec)) hashChainsUptoCard

/-- THE SECOND FORM's CARD OF 'sectimelaw02.HashGoesOn'. -/
def hashGoesOnUptoCard : Claim7 := { stood := { row := hashGoesOnUptoRow, standIns := [], harness := (true, "0da08168448b9afaab6bdda355e5277086d4cdc5be5f955d2f79d0e41048da41"), looks := false }, kinds := [], alts := [], laidByText := true, laidKinds := [.data, .data], laidTests := true, laidLooks := .later }
def HashGoesOnUptoCardSaid : Prop := Claim7.holds Tryd.pinned (.plain (OpenSpec.upto hashGoesOnSpec)) hashGoesOnUptoCard
end Rows
end Go.Proofs.YtakkgbpgobbcmaaDoor
