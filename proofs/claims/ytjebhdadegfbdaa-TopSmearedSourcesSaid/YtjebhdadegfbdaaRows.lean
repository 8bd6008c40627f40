/-
  No cell of these rows narrows 'for every input' (looked for: loops, veiled, ifaces, maps, wideKeys, modest, calm, conditions, laid).
  DERIVED. THE GIVEN ROWS OF THIS SEAT. 9 by the template 'for every input the law returns true; each argument reads behind the call as it read before'; 0 by the template 'total and deterministic' (their statements: YtjebhdadegfbdaaTotals.lean).
  GIVEN WITH THE SEED: the statements are not yours to turn. If you find one false, say at which input.
  Laid BY PROGRAM, IN A SANDBOX (cutbox-rows.mjs): the forced cells as the released guide's own fill.sh prints them over the translation ae5c0910ae4df58c… (all of the seat's roots in one cut). By AI agents, Wed Nov 11 2026. No macro, syntax, notation, axiom, sorry.
-/
import Derived.Test.YtjebhdadegfbdaaChecked
import GoSem.Claim
import GoSem.ClaimJoined
import GoSem.ClaimMapViews
import Derived.JoinedTies
import Derived.KernelRfl
namespace Go.Proofs.Ytjebhdadegfbdaa
/- THE CELL 'sum', in the pinned program and in every row, IS THE sha256 OF THE DUMP (.gsa) THAT YtjebhdadegfbdaaProg.lean LOADS. Nothing in Lean hashes anything: it is a label: what it is worth is what the hold of that sum in a sandbox is worth. -/
noncomputable def Try.pinned : Pinned := { name := "ytjebhdadegfbdaa", sum := "ae5c0910ae4df58c60fe153a2fd992b91607a3f6b80147dddb922aa1599ac24d", checked := Try.checked }
namespace Rows
def none {H : Type} : Left H := { results := [], args := [] }

/-- 'sectimelaw15.DriftActs': WHATEVER THE INPUT: true; the input reads as it did. -/
def driftActsSpec : ChangeSpec := { name := "driftActs", fn := fun _ => fun
  | [d1, d2, d3, d4] => { results := [.lit (.bool true)], args := [d1, d2, d3, d4] }
  | _ => none }
def driftActsRow : OpenClaim := { program := "ytjebhdadegfbdaa", sum := "ae5c0910ae4df58c60fe153a2fd992b91607a3f6b80147dddb922aa1599ac24d", func := "sectime/sectimelaw15.DriftActs", spec := "driftActs", unfollowed := true, recurses := true, apart := false }
def DriftActsSaid : Prop := driftActsRow.holds Try.pinned (OpenSpec.ofChange driftActsSpec)

/-- ITS FALSE NEIGHBOUR: 'it returns false'. Refute it at one input. -/
def driftActsWrong : ChangeSpec := { name := "driftActs", fn := fun _ => fun
  | [d1, d2, d3, d4] => { results := [.lit (.bool false)], args := [d1, d2, d3, d4] }
  | _ => none }
def DriftActsWrongFalsely : Prop := driftActsRow.holds Try.pinned (OpenSpec.ofChange driftActsWrong)

/-- 'sectimelaw15.DriftContains': WHATEVER THE INPUT: true; the input reads as it did. -/
def driftContainsSpec : ChangeSpec := { name := "driftContains", fn := fun _ => fun
  | [d1, d2, d3, d4, d5, d6] => { results := [.lit (.bool true)], args := [d1, d2, d3, d4, d5, d6] }
  | _ => none }
def driftContainsRow : OpenClaim := { program := "ytjebhdadegfbdaa", sum := "ae5c0910ae4df58c60fe153a2fd992b91607a3f6b80147dddb922aa1599ac24d", func := "sectime/sectimelaw15.DriftContains", spec := "driftContains", unfollowed := true, recurses := true, apart := false }
def DriftContainsSaid : Prop := driftContainsRow.holds Try.pinned (OpenSpec.ofChange driftContainsSpec)

/-- ITS FALSE NEIGHBOUR: 'it returns false'. Refute it at one input. -/
def driftContainsWrong : ChangeSpec := { name := "driftContains", fn := fun _ => fun
  | [d1, d2, d3, d4, d5, d6] => { results := [.lit (.bool false)], args := [d1, d2, d3, d4, d5, d6] }
  | _ => none }
def DriftContainsWrongFalsely : Prop := driftContainsRow.holds Try.pinned (OpenSpec.ofChange driftContainsWrong)

/-- 'sectimelaw15.DriftInParts': WHATEVER THE INPUT: true; the input reads as it did. -/
def driftInPartsSpec : ChangeSpec := { name := "driftInParts", fn := fun _ => fun
  | [d1, d2, d3, d4, d5] => { results := [.lit (.bool true)], args := [d1, d2, d3, d4, d5] }
  | _ => none }
def driftInPartsRow : OpenClaim := { program := "ytjebhdadegfbdaa", sum := "ae5c0910ae4df58c60fe153a2fd992b91607a3f6b80147dddb922aa1599ac24d", func := "sectime/sectimelaw15.DriftInParts", spec := "driftInParts", unfollowed := true, recurses := true, apart := false }
def DriftInPartsSaid : Prop := driftInPartsRow.holds Try.pinned (OpenSpec.ofChange driftInPartsSpec)

/-- ITS FALSE NEIGHBOUR: 'it returns false'. Refute it at one input. -/
def driftInPartsWrong : ChangeSpec := { name := "driftInParts", fn := fun _ => fun
  | [d1, d2, d3, d4, d5] => { results := [.lit (.bool false)], args := [d1, d2, d3, d4, d5] }
  | _ => none }
def DriftInPartsWrongFalsely : Prop := driftInPartsRow.holds Try.pinned (OpenSpec.ofChange driftInPartsWrong)

/-- 'sectimelaw15.DriftRates': WHATEVER THE INPUT: true; the input reads as it did. -/
def driftRatesSpec : ChangeSpec := { name := "driftRates", fn := fun _ => fun
  | [d1, d2, d3, d4] => { results := [.lit (.bool true)], args := [d1, d2, d3, d4] }
  | _ => none }
def driftRatesRow : OpenClaim := { program := "ytjebhdadegfbdaa", sum := "ae5c0910ae4df58c60fe153a2fd992b91607a3f6b80147dddb922aa1599ac24d", func := "sectime/sectimelaw15.DriftRates", spec := "driftRates", unfollowed := true, recurses := true, apart := false }
def DriftRatesSaid : Prop := driftRatesRow.holds Try.pinned (OpenSpec.ofChange driftRatesSpec)

/-- ITS FALSE NEIGHBOUR: 'it returns false'. Refute it at one input. -/
def driftRatesWrong : ChangeSpec := { name := "driftRates", fn := fun _ => fun
  | [d1, d2, d3, d4] => { results := [.lit (.bool false)], args := [d1, d2, d3, d4] }
  | _ => none }
def DriftRatesWrongFalsely : Prop := driftRatesRow.holds Try.pinned (OpenSpec.ofChange driftRatesWrong)

/-- 'sectimelaw15.DriftWidens': WHATEVER THE INPUT: true; the input reads as it did. -/
def driftWidensSpec : ChangeSpec := { name := "driftWidens", fn := fun _ => fun
  | [d1, d2, d3, d4] => { results := [.lit (.bool true)], args := [d1, d2, d3, d4] }
  | _ => none }
def driftWidensRow : OpenClaim := { program := "ytjebhdadegfbdaa", sum := "ae5c0910ae4df58c60fe153a2fd992b91607a3f6b80147dddb922aa1599ac24d", func := "sectime/sectimelaw15.DriftWidens", spec := "driftWidens", unfollowed := true, recurses := true, apart := false }
def DriftWidensSaid : Prop := driftWidensRow.holds Try.pinned (OpenSpec.ofChange driftWidensSpec)

/-- ITS FALSE NEIGHBOUR: 'it returns false'. Refute it at one input. -/
def driftWidensWrong : ChangeSpec := { name := "driftWidens", fn := fun _ => fun
  | [d1, d2, d3, d4] => { results := [.lit (.bool false)], args := [d1, d2, d3, d4] }
  | _ => none }
def DriftWidensWrongFalsely : Prop := driftWidensRow.holds Try.pinned (OpenSpec.ofChange driftWidensWrong)

/-- 'sectimelaw15.DriftReturns': WHATEVER THE INPUT: true; the input reads as it did. -/
def driftReturnsSpec : ChangeSpec := { name := "driftReturns", fn := fun _ => fun
  | [d1, d2, d3, d4] => { results := [.lit (.bool true)], args := [d1, d2, d3, d4] }
  | _ => none }
def driftReturnsRow : OpenClaim := { program := "ytjebhdadegfbdaa", sum := "ae5c0910ae4df58c60fe153a2fd992b91607a3f6b80147dddb922aa1599ac24d", func := "sectime/sectimelaw15.DriftReturns", spec := "driftReturns", unfollowed := true, recurses := true, apart := false }
def DriftReturnsSaid : Prop := driftReturnsRow.holds Try.pinned (OpenSpec.ofChange driftReturnsSpec)

/-- ITS FALSE NEIGHBOUR: 'it returns false'. Refute it at one input. -/
def driftReturnsWrong : ChangeSpec := { name := "driftReturns", fn := fun _ => fun
  | [d1, d2, d3, d4] => { results := [.lit (.bool false)], args := [d1, d2, d3, d4] }
  | _ => none }
def DriftReturnsWrongFalsely : Prop := driftReturnsRow.holds Try.pinned (OpenSpec.ofChange driftReturnsWrong)

/-- 'sectimetop.TopScales': WHATEVER THE INPUT: true; the input reads as it did. -/
def topScalesSpec : ChangeSpec := { name := "topScales", fn := fun _ => fun
  | [d1, d2, d3, d4] => { results := [.lit (.bool true)], args := [d1, d2, d3, d4] }
  | _ => none }
def topScalesRow : OpenClaim := { program := "ytjebhdadegfbdaa", sum := "ae5c0910ae4df58c60fe153a2fd992b91607a3f6b80147dddb922aa1599ac24d", func := "sectime/sectimetop.TopScales", spec := "topScales", unfollowed := true, recurses := true, apart := false }
def TopScalesSaid : Prop := topScalesRow.holds Try.pinned (OpenSpec.ofChange topScalesSpec)

/-- ITS FALSE NEIGHBOUR: 'it returns false'. Refute it at one input. -/
def topScalesWrong : ChangeSpec := { name := "topScales", fn := fun _ => fun
  | [d1, d2, d3, d4] => { results := [.lit (.bool false)], args := [d1, d2, d3, d4] }
  | _ => none }
def TopScalesWrongFalsely : Prop := topScalesRow.holds Try.pinned (OpenSpec.ofChange topScalesWrong)

/-- 'sectimetop.TopSmearedSources': WHATEVER THE INPUT: true; the input reads as it did. -/
def topSmearedSourcesSpec : ChangeSpec := { name := "topSmearedSources", fn := fun _ => fun
  | [d1, d2, d3] => { results := [.lit (.bool true)], args := [d1, d2, d3] }
  | _ => none }
def topSmearedSourcesRow : OpenClaim := { program := "ytjebhdadegfbdaa", sum := "ae5c0910ae4df58c60fe153a2fd992b91607a3f6b80147dddb922aa1599ac24d", func := "sectime/sectimetop.TopSmearedSources", spec := "topSmearedSources", unfollowed := true, recurses := true, apart := false }
def TopSmearedSourcesSaid : Prop := topSmearedSourcesRow.holds Try.pinned (OpenSpec.ofChange topSmearedSourcesSpec)

/-- ITS FALSE NEIGHBOUR: 'it returns false'. Refute it at one input. -/
def topSmearedSourcesWrong : ChangeSpec := { name := "topSmearedSources", fn := fun _ => fun
  | [d1, d2, d3] => { results := [.lit (.bool false)], args := [d1, d2, d3] }
  | _ => none }
def TopSmearedSourcesWrongFalsely : Prop := topSmearedSourcesRow.holds Try.pinned (OpenSpec.ofChange topSmearedSourcesWrong)

/-- 'sectimetop.TopHoldover': WHATEVER THE INPUT: true; the input reads as it did. -/
def topHoldoverSpec : ChangeSpec := { name := "topHoldover", fn := fun _ => fun
  | [d1, d2, d3, d4, d5, d6] => { results := [.lit (.bool true)], args := [d1, d2, d3, d4, d5, d6] }
  | _ => none }
def topHoldoverRow : OpenClaim := { program := "ytjebhdadegfbdaa", sum := "ae5c0910ae4df58c60fe153a2fd992b91607a3f6b80147dddb922aa1599ac24d", func := "sectime/sectimetop.TopHoldover", spec := "topHoldover", unfollowed := true, recurses := true, apart := false }
def TopHoldoverSaid : Prop := topHoldoverRow.holds Try.pinned (OpenSpec.ofChange topHoldoverSpec)

/-- ITS FALSE NEIGHBOUR: 'it returns false'. Refute it at one input. -/
def topHoldoverWrong : ChangeSpec := { name := "topHoldover", fn := fun _ => fun
  | [d1, d2, d3, d4, d5, d6] => { results := [.lit (.bool false)], args := [d1, d2, d3, d4, d5, d6] }
  | _ => none }
def TopHoldoverWrongFalsely : Prop := topHoldoverRow.holds Try.pinned (OpenSpec.ofChange topHoldoverWrong)

/- THE SECOND FORM. 'bulk': how many values and letters a reading holds, each counted each time it is reached (what is shared counts as often as it is met; a slice's spare places count too). A statement '..UptoSaid' is the law's where the arguments, and the package variables that the reading takes, are together of bulk at most 1048576: NARROWER than '..Said'. Prove '..Said' where nothing that the law and all that it calls make is longer than what came in: it says more and counts as full. Else prove '..UptoSaid'. A law counts once. -/
mutual
def uptoBulk {H : Type} : DataW H → Nat
  | .lit (.string bytes) => bytes.length + 1
  | .lit _ => 1
  | .nil => 1
  | .ptr d => uptoBulk d + 1
  | .slice elems spare => uptoBulkAll elems + uptoBulkAll spare + 1
  | .agg parts => uptoBulkAll parts + 1
  | .iface _ d => uptoBulk d + 1
  | .map entries => uptoBulkEntries entries + 1
  | .held _ => 1
def uptoBulkAll {H : Type} : List (DataW H) → Nat
  | [] => 0
  | d :: r => uptoBulk d + uptoBulkAll r
def uptoBulkEntries {H : Type} : List (Lit × DataW H) → Nat
  | [] => 0
  | x :: r => uptoBulkEntry x + uptoBulkEntries r
def uptoBulkEntry {H : Type} : Lit × DataW H → Nat
  | (.string bytes, d) => bytes.length + uptoBulk d + 1
  | (_, d) => uptoBulk d + 1
 end
def uptoSmall : (H : Type) → List (DataW H) → Bool := fun _ ds => decide (uptoBulkAll ds ≤ 1048576)
def OpenSpec.upto (s : _root_.Go.ChangeSpec) : _root_.Go.OpenSpec := { _root_.Go.OpenSpec.ofChange s with cond := some uptoSmall }

/-- 'sectimelaw15.DriftActs', WHERE WHAT IT READS IS OF BULK AT MOST 1048576: true; the input reads as it did. -/
def driftActsUptoRow : OpenClaim := { program := "ytjebhdadegfbdaa", sum := "ae5c0910ae4df58c60fe153a2fd992b91607a3f6b80147dddb922aa1599ac24d", func := "sectime/sectimelaw15.DriftActs", spec := "driftActs", unfollowed := true, recurses := true, apart := false, narrowed := true }
def DriftActsUptoSaid : Prop := driftActsUptoRow.holds Try.pinned (OpenSpec.upto driftActsSpec)

/-- 'sectimelaw15.DriftContains', WHERE WHAT IT READS IS OF BULK AT MOST 1048576: true; the input reads as it did. -/
def driftContainsUptoRow : OpenClaim := { program := "ytjebhdadegfbdaa", sum := "ae5c0910ae4df58c60fe153a2fd992b91607a3f6b80147dddb922aa1599ac24d", func := "sectime/sectimelaw15.DriftContains", spec := "driftContains", unfollowed := true, recurses := true, apart := false, narrowed := true }
def DriftContainsUptoSaid : Prop := driftContainsUptoRow.holds Try.pinned (OpenSpec.upto driftContainsSpec)

/-- 'sectimelaw15.DriftInParts', WHERE WHAT IT READS IS OF BULK AT MOST 1048576: true; the input reads as it did. -/
def driftInPartsUptoRow : OpenClaim := { program := "ytjebhdadegfbdaa", sum := "ae5c0910ae4df58c60fe153a2fd992b91607a3f6b80147dddb922aa1599ac24d", func := "sectime/sectimelaw15.DriftInParts", spec := "driftInParts", unfollowed := true, recurses := true, apart := false, narrowed := true }
def DriftInPartsUptoSaid : Prop := driftInPartsUptoRow.holds Try.pinned (OpenSpec.upto driftInPartsSpec)

/-- 'sectimelaw15.DriftRates', WHERE WHAT IT READS IS OF BULK AT MOST 1048576: true; the input reads as it did. -/
def driftRatesUptoRow : OpenClaim := { program := "ytjebhdadegfbdaa", sum := "ae5c0910ae4df58c60fe153a2fd992b91607a3f6b80147dddb922aa1599ac24d", func := "sectime/sectimelaw15.DriftRates", spec := "driftRates", unfollowed := true, recurses := true, apart := false, narrowed := true }
def DriftRatesUptoSaid : Prop := driftRatesUptoRow.holds Try.pinned (OpenSpec.upto driftRatesSpec)

/-- 'sectimelaw15.DriftWidens', WHERE WHAT IT READS IS OF BULK AT MOST 1048576: true; the input reads as it did. -/
def driftWidensUptoRow : OpenClaim := { program := "ytjebhdadegfbdaa", sum := "ae5c0910ae4df58c60fe153a2fd992b91607a3f6b80147dddb922aa1599ac24d", func := "sectime/sectimelaw15.DriftWidens", spec := "driftWidens", unfollowed := true, recurses := true, apart := false, narrowed := true }
def DriftWidensUptoSaid : Prop := driftWidensUptoRow.holds Try.pinned (OpenSpec.upto driftWidensSpec)

/-- 'sectimelaw15.DriftReturns', WHERE WHAT IT READS IS OF BULK AT MOST 1048576: true; the input reads as it did. -/
def driftReturnsUptoRow : OpenClaim := { program := "ytjebhdadegfbdaa", sum := "ae5c0910ae4df58c60fe153a2fd992b91607a3f6b80147dddb922aa1599ac24d", func := "sectime/sectimelaw15.DriftReturns", spec := "driftReturns", unfollowed := true, recurses := true, apart := false, narrowed := true }
def DriftReturnsUptoSaid : Prop := driftReturnsUptoRow.holds Try.pinned (OpenSpec.upto driftReturnsSpec)

/-- 'sectimetop.TopScales', WHERE WHAT IT READS IS OF BULK AT MOST 1048576: true; the input reads as it did. -/
def topScalesUptoRow : OpenClaim := { program := "ytjebhdadegfbdaa", sum := "ae5c0910ae4df58c60fe153a2fd992b91607a3f6b80147dddb922aa1599ac24d", func := "sectime/sectimetop.TopScales", spec := "topScales", unfollowed := true, recurses := true, apart := false, narrowed := true }
def TopScalesUptoSaid : Prop := topScalesUptoRow.holds Try.pinned (OpenSpec.upto topScalesSpec)

/-- 'sectimetop.TopSmearedSources', WHERE WHAT IT READS IS OF BULK AT MOST 1048576: true; the input reads as it did. -/
def topSmearedSourcesUptoRow : OpenClaim := { program := "ytjebhdadegfbdaa", sum := "ae5c0910ae4df58c60fe153a2fd992b91607a3f6b80147dddb922aa1599ac24d", func := "sectime/sectimetop.TopSmearedSources", spec := "topSmearedSources", unfollowed := true, recurses := true, apart := false, narrowed := true }
def TopSmearedSourcesUptoSaid : Prop := topSmearedSourcesUptoRow.holds Try.pinned (OpenSpec.upto topSmearedSourcesSpec)

/-- 'sectimetop.TopHoldover', WHERE WHAT IT READS IS OF BULK AT MOST 1048576: true; the input reads as it did. -/
def topHoldoverUptoRow : OpenClaim := { program := "ytjebhdadegfbdaa", sum := "ae5c0910ae4df58c60fe153a2fd992b91607a3f6b80147dddb922aa1599ac24d", func := "sectime/sectimetop.TopHoldover", spec := "topHoldover", unfollowed := true, recurses := true, apart := false, narrowed := true }
def TopHoldoverUptoSaid : Prop := topHoldoverUptoRow.holds Try.pinned (OpenSpec.upto topHoldoverSpec)

end Rows
end Go.Proofs.Ytjebhdadegfbdaa
