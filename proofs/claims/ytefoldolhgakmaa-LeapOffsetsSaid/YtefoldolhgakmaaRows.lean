/-
  No cell of these rows narrows 'for every input' (looked for: loops, veiled, ifaces, maps, wideKeys, modest, calm, conditions, laid).
  DERIVED. THE GIVEN ROWS OF THIS SEAT. 6 by the template 'for every input the law returns true; each argument reads behind the call as it read before'; 0 by the template 'total and deterministic' (their statements: YtefoldolhgakmaaTotals.lean).
  GIVEN WITH THE SEED: the statements are not yours to turn. If you find one false, say at which input.
  Laid BY PROGRAM, IN A SANDBOX (cutbox-rows.mjs): the forced cells as the released guide's own fill.sh prints them over the translation 97f3669ccbd7d99e… (all of the seat's roots in one cut). By AI agents, Wed Nov 11 2026. No macro, syntax, notation, axiom, sorry.
-/
import Derived.Test.YtefoldolhgakmaaChecked
import GoSem.Claim
import GoSem.ClaimJoined
import GoSem.ClaimMapViews
import Derived.JoinedTies
import Derived.KernelRfl
namespace Go.Proofs.Ytefoldolhgakmaa
/- THE CELL 'sum', in the pinned program and in every row, IS THE sha256 OF THE DUMP (.gsa) THAT YtefoldolhgakmaaProg.lean LOADS. Nothing in Lean hashes anything: it is a label: what it is worth is what the hold of that sum in a sandbox is worth. -/
noncomputable def Try.pinned : Pinned := { name := "ytefoldolhgakmaa", sum := "97f3669ccbd7d99e1e1ffc7aebf4cb2dfeea0e144cf0901f3e443ba8f519664a", checked := Try.checked }
namespace Rows
def none {H : Type} : Left H := { results := [], args := [] }

/-- 'sectimelaw12.LeapActs': WHATEVER THE INPUT: true; the input reads as it did. -/
def leapActsSpec : ChangeSpec := { name := "leapActs", fn := fun _ => fun
  | [d1, d2, d3, d4, d5] => { results := [.lit (.bool true)], args := [d1, d2, d3, d4, d5] }
  | _ => none }
def leapActsRow : OpenClaim := { program := "ytefoldolhgakmaa", sum := "97f3669ccbd7d99e1e1ffc7aebf4cb2dfeea0e144cf0901f3e443ba8f519664a", func := "sectime/sectimelaw12.LeapActs", spec := "leapActs", apart := false }
def LeapActsSaid : Prop := leapActsRow.holds Try.pinned (OpenSpec.ofChange leapActsSpec)

/-- ITS FALSE NEIGHBOUR: 'it returns false'. Refute it at one input. -/
def leapActsWrong : ChangeSpec := { name := "leapActs", fn := fun _ => fun
  | [d1, d2, d3, d4, d5] => { results := [.lit (.bool false)], args := [d1, d2, d3, d4, d5] }
  | _ => none }
def LeapActsWrongFalsely : Prop := leapActsRow.holds Try.pinned (OpenSpec.ofChange leapActsWrong)

/-- 'sectimelaw12.LeapRoundTrip': WHATEVER THE INPUT: true; the input reads as it did. -/
def leapRoundTripSpec : ChangeSpec := { name := "leapRoundTrip", fn := fun _ => fun
  | [d1, d2] => { results := [.lit (.bool true)], args := [d1, d2] }
  | _ => none }
def leapRoundTripRow : OpenClaim := { program := "ytefoldolhgakmaa", sum := "97f3669ccbd7d99e1e1ffc7aebf4cb2dfeea0e144cf0901f3e443ba8f519664a", func := "sectime/sectimelaw12.LeapRoundTrip", spec := "leapRoundTrip", apart := false }
def LeapRoundTripSaid : Prop := leapRoundTripRow.holds Try.pinned (OpenSpec.ofChange leapRoundTripSpec)

/-- ITS FALSE NEIGHBOUR: 'it returns false'. Refute it at one input. -/
def leapRoundTripWrong : ChangeSpec := { name := "leapRoundTrip", fn := fun _ => fun
  | [d1, d2] => { results := [.lit (.bool false)], args := [d1, d2] }
  | _ => none }
def LeapRoundTripWrongFalsely : Prop := leapRoundTripRow.holds Try.pinned (OpenSpec.ofChange leapRoundTripWrong)

/-- 'sectimelaw12.LeapReadings': WHATEVER THE INPUT: true; the input reads as it did. -/
def leapReadingsSpec : ChangeSpec := { name := "leapReadings", fn := fun _ => fun
  | [d1, d2, d3, d4] => { results := [.lit (.bool true)], args := [d1, d2, d3, d4] }
  | _ => none }
def leapReadingsRow : OpenClaim := { program := "ytefoldolhgakmaa", sum := "97f3669ccbd7d99e1e1ffc7aebf4cb2dfeea0e144cf0901f3e443ba8f519664a", func := "sectime/sectimelaw12.LeapReadings", spec := "leapReadings", apart := false }
def LeapReadingsSaid : Prop := leapReadingsRow.holds Try.pinned (OpenSpec.ofChange leapReadingsSpec)

/-- ITS FALSE NEIGHBOUR: 'it returns false'. Refute it at one input. -/
def leapReadingsWrong : ChangeSpec := { name := "leapReadings", fn := fun _ => fun
  | [d1, d2, d3, d4] => { results := [.lit (.bool false)], args := [d1, d2, d3, d4] }
  | _ => none }
def LeapReadingsWrongFalsely : Prop := leapReadingsRow.holds Try.pinned (OpenSpec.ofChange leapReadingsWrong)

/-- 'sectimelaw12.LeapNumbers': WHATEVER THE INPUT: true; the input reads as it did. -/
def leapNumbersSpec : ChangeSpec := { name := "leapNumbers", fn := fun _ => fun
  | [d1, d2] => { results := [.lit (.bool true)], args := [d1, d2] }
  | _ => none }
def leapNumbersRow : OpenClaim := { program := "ytefoldolhgakmaa", sum := "97f3669ccbd7d99e1e1ffc7aebf4cb2dfeea0e144cf0901f3e443ba8f519664a", func := "sectime/sectimelaw12.LeapNumbers", spec := "leapNumbers", apart := false }
def LeapNumbersSaid : Prop := leapNumbersRow.holds Try.pinned (OpenSpec.ofChange leapNumbersSpec)

/-- ITS FALSE NEIGHBOUR: 'it returns false'. Refute it at one input. -/
def leapNumbersWrong : ChangeSpec := { name := "leapNumbers", fn := fun _ => fun
  | [d1, d2] => { results := [.lit (.bool false)], args := [d1, d2] }
  | _ => none }
def LeapNumbersWrongFalsely : Prop := leapNumbersRow.holds Try.pinned (OpenSpec.ofChange leapNumbersWrong)

/-- 'sectimelaw12.LeapOffsets': WHATEVER THE INPUT: true; the input reads as it did. -/
def leapOffsetsSpec : ChangeSpec := { name := "leapOffsets", fn := fun _ => fun
  | [d1, d2, d3] => { results := [.lit (.bool true)], args := [d1, d2, d3] }
  | _ => none }
def leapOffsetsRow : OpenClaim := { program := "ytefoldolhgakmaa", sum := "97f3669ccbd7d99e1e1ffc7aebf4cb2dfeea0e144cf0901f3e443ba8f519664a", func := "sectime/sectimelaw12.LeapOffsets", spec := "leapOffsets", apart := false }
def LeapOffsetsSaid : Prop := leapOffsetsRow.holds Try.pinned (OpenSpec.ofChange leapOffsetsSpec)

/-- ITS FALSE NEIGHBOUR: 'it returns false'. Refute it at one input. -/
def leapOffsetsWrong : ChangeSpec := { name := "leapOffsets", fn := fun _ => fun
  | [d1, d2, d3] => { results := [.lit (.bool false)], args := [d1, d2, d3] }
  | _ => none }
def LeapOffsetsWrongFalsely : Prop := leapOffsetsRow.holds Try.pinned (OpenSpec.ofChange leapOffsetsWrong)

/-- 'sectimelaw12.LeapTables': WHATEVER THE INPUT: true; the input reads as it did. -/
def leapTablesSpec : ChangeSpec := { name := "leapTables", fn := fun _ => fun
  | [d1, d2, d3] => { results := [.lit (.bool true)], args := [d1, d2, d3] }
  | _ => none }
def leapTablesRow : OpenClaim := { program := "ytefoldolhgakmaa", sum := "97f3669ccbd7d99e1e1ffc7aebf4cb2dfeea0e144cf0901f3e443ba8f519664a", func := "sectime/sectimelaw12.LeapTables", spec := "leapTables", apart := false }
def LeapTablesSaid : Prop := leapTablesRow.holds Try.pinned (OpenSpec.ofChange leapTablesSpec)

/-- ITS FALSE NEIGHBOUR: 'it returns false'. Refute it at one input. -/
def leapTablesWrong : ChangeSpec := { name := "leapTables", fn := fun _ => fun
  | [d1, d2, d3] => { results := [.lit (.bool false)], args := [d1, d2, d3] }
  | _ => none }
def LeapTablesWrongFalsely : Prop := leapTablesRow.holds Try.pinned (OpenSpec.ofChange leapTablesWrong)

/- THE SECOND FORM. 'bulk': how many values and letters a reading holds, each counted each time it is reached (what is shared counts as often as it is met; a slice's spare places count too). A statement '..UptoSaid' is the law's where the arguments, and the package variables that the reading takes, are together of bulk at most 1048576: NARROWER than '..Said'. Prove '..Said' where nothing that the law and all that it calls make is longer than what came in: it says more and counts as full. Else prove '..UptoSaid'. A law counts once. -/
mutual
def uptoBulk {H : Type} : DataW H → Nat
  | .lit (.string bytes) => bytes.length + 1
  | .lit _ => 1
  | .nil => 1
  | .ptr d => uptoBulk d + 1
  | .slice elems spare => uptoBulkAll elems + uptoBulkAll spare + 1
  | .agg parts => uptoBulkAll parts + 1
  | .iface _ d => uptoBulk d + 1
  | .map entries => uptoBulkEntries entries + 1
  | .held _ => 1
def uptoBulkAll {H : Type} : List (DataW H) → Nat
  | [] => 0
  | d :: r => uptoBulk d + uptoBulkAll r
def uptoBulkEntries {H : Type} : List (Lit × DataW H) → Nat
  | [] => 0
  | x :: r => uptoBulkEntry x + uptoBulkEntries r
def uptoBulkEntry {H : Type} : Lit × DataW H → Nat
  | (.string bytes, d) => bytes.length + uptoBulk d + 1
  | (_, d) => uptoBulk d + 1
 end
def uptoSmall : (H : Type) → List (DataW H) → Bool := fun _ ds => decide (uptoBulkAll ds ≤ 1048576)
def OpenSpec.upto (s : _root_.Go.ChangeSpec) : _root_.Go.OpenSpec := { _root_.Go.OpenSpec.ofChange s with cond := some uptoSmall }

/-- 'sectimelaw12.LeapActs', WHERE WHAT IT READS IS OF BULK AT MOST 1048576: true; the input reads as it did. -/
def leapActsUptoRow : OpenClaim := { program := "ytefoldolhgakmaa", sum := "97f3669ccbd7d99e1e1ffc7aebf4cb2dfeea0e144cf0901f3e443ba8f519664a", func := "sectime/sectimelaw12.LeapActs", spec := "leapActs", apart := false, narrowed := true }
def LeapActsUptoSaid : Prop := leapActsUptoRow.holds Try.pinned (OpenSpec.upto leapActsSpec)

/-- 'sectimelaw12.LeapRoundTrip', WHERE WHAT IT READS IS OF BULK AT MOST 1048576: true; the input reads as it did. -/
def leapRoundTripUptoRow : OpenClaim := { program := "ytefoldolhgakmaa", sum := "97f3669ccbd7d99e1e1ffc7aebf4cb2dfeea0e144cf0901f3e443ba8f519664a", func := "sectime/sectimelaw12.LeapRoundTrip", spec := "leapRoundTrip", apart := false, narrowed := true }
def LeapRoundTripUptoSaid : Prop := leapRoundTripUptoRow.holds Try.pinned (OpenSpec.upto leapRoundTripSpec)

/-- 'sectimelaw12.LeapReadings', WHERE WHAT IT READS IS OF BULK AT MOST 1048576: true; the input reads as it did. -/
def leapReadingsUptoRow : OpenClaim := { program := "ytefoldolhgakmaa", sum := "97f3669ccbd7d99e1e1ffc7aebf4cb2dfeea0e144cf0901f3e443ba8f519664a", func := "sectime/sectimelaw12.LeapReadings", spec := "leapReadings", apart := false, narrowed := true }
def LeapReadingsUptoSaid : Prop := leapReadingsUptoRow.holds Try.pinned (OpenSpec.upto leapReadingsSpec)

/-- 'sectimelaw12.LeapNumbers', WHERE WHAT IT READS IS OF BULK AT MOST 1048576: true; the input reads as it did. -/
def leapNumbersUptoRow : OpenClaim := { program := "ytefoldolhgakmaa", sum := "97f3669ccbd7d99e1e1ffc7aebf4cb2dfeea0e144cf0901f3e443ba8f519664a", func := "sectime/sectimelaw12.LeapNumbers", spec := "leapNumbers", apart := false, narrowed := true }
def LeapNumbersUptoSaid : Prop := leapNumbersUptoRow.holds Try.pinned (OpenSpec.upto leapNumbersSpec)

/-- 'sectimelaw12.LeapOffsets', WHERE WHAT IT READS IS OF BULK AT MOST 1048576: true; the input reads as it did. -/
def leapOffsetsUptoRow : OpenClaim := { program := "ytefoldolhgakmaa", sum := "97f3669ccbd7d99e1e1ffc7aebf4cb2dfeea0e144cf0901f3e443ba8f519664a", func := "sectime/sectimelaw12.LeapOffsets", spec := "leapOffsets", apart := false, narrowed := true }
def LeapOffsetsUptoSaid : Prop := leapOffsetsUptoRow.holds Try.pinned (OpenSpec.upto leapOffsetsSpec)

/-- 'sectimelaw12.LeapTables', WHERE WHAT IT READS IS OF BULK AT MOST 1048576: true; the input reads as it did. -/
def leapTablesUptoRow : OpenClaim := { program := "ytefoldolhgakmaa", sum := "97f3669ccbd7d99e1e1ffc7aebf4cb2dfeea0e144cf0901f3e443ba8f519664a", func := "sectime/sectimelaw12.LeapTables", spec := "leapTables", apart := false, narrowed := true }
def LeapTablesUptoSaid : Prop := leapTablesUptoRow.holds Try.pinned (OpenSpec.upto leapTablesSpec)

end Rows
end Go.Proofs.Ytefoldolhgakmaa
