/-
  No cell of these rows narrows 'for every input' (looked for: loops, veiled, ifaces, maps, wideKeys, modest, calm, conditions, laid).
  DERIVED. THE GIVEN ROWS OF THIS SEAT. 7 by the template 'for every input the law returns true; each argument reads behind the call as it read before'; 0 by the template 'total and deterministic' (their statements: YtbfmabjpjblpaaaTotals.lean).
  GIVEN WITH THE SEED: the statements are not yours to turn. If you find one false, say at which input.
  Laid BY PROGRAM, IN A SANDBOX (cutbox-rows.mjs): the forced cells as the released guide's own fill.sh prints them over the translation 26c7221b3a852382… (all of the seat's roots in one cut). By AI agents, Wed Nov 11 2026. No macro, syntax, notation, axiom, sorry.
-/
import Derived.Test.YtbfmabjpjblpaaaChecked
import GoSem.Claim
import GoSem.ClaimJoined
import GoSem.ClaimMapViews
import Derived.JoinedTies
import Derived.KernelRfl
namespace Go.Proofs.Ytbfmabjpjblpaaa
/- THE CELL 'sum', in the pinned program and in every row, IS THE sha256 OF THE DUMP (.gsa) THAT YtbfmabjpjblpaaaProg.lean LOADS. Nothing in Lean hashes anything: it is a label: what it is worth is what the hold of that sum in a sandbox is worth. -/
noncomputable def Try.pinned : Pinned := { name := "ytbfmabjpjblpaaa", sum := "26c7221b3a85238283860a6e0285d1d5fd2e4da83da71f212b04f381e79810bb", checked := Try.checked }
namespace Rows
def none {H : Type} : Left H := { results := [], args := [] }

/-- 'sectimelaw01.OctetsCount': WHATEVER THE INPUT: true; the input reads as it did. -/
def octetsCountSpec : ChangeSpec := { name := "octetsCount", fn := fun _ => fun
  | [d1, d2, d3] => { results := [.lit (.bool true)], args := [d1, d2, d3] }
  | _ => none }
def octetsCountRow : OpenClaim := { program := "ytbfmabjpjblpaaa", sum := "26c7221b3a85238283860a6e0285d1d5fd2e4da83da71f212b04f381e79810bb", func := "sectime/sectimelaw01.OctetsCount", spec := "octetsCount", apart := false }
def OctetsCountSaid : Prop := octetsCountRow.holds Try.pinned (OpenSpec.ofChange octetsCountSpec)

/-- ITS FALSE NEIGHBOUR: 'it returns false'. Refute it at one input. -/
def octetsCountWrong : ChangeSpec := { name := "octetsCount", fn := fun _ => fun
  | [d1, d2, d3] => { results := [.lit (.bool false)], args := [d1, d2, d3] }
  | _ => none }
def OctetsCountWrongFalsely : Prop := octetsCountRow.holds Try.pinned (OpenSpec.ofChange octetsCountWrong)

/-- 'sectimelaw01.OctetsRoundTrip': WHATEVER THE INPUT: true; the input reads as it did. -/
def octetsRoundTripSpec : ChangeSpec := { name := "octetsRoundTrip", fn := fun _ => fun
  | [d1, d2, d3] => { results := [.lit (.bool true)], args := [d1, d2, d3] }
  | _ => none }
def octetsRoundTripRow : OpenClaim := { program := "ytbfmabjpjblpaaa", sum := "26c7221b3a85238283860a6e0285d1d5fd2e4da83da71f212b04f381e79810bb", func := "sectime/sectimelaw01.OctetsRoundTrip", spec := "octetsRoundTrip", apart := false }
def OctetsRoundTripSaid : Prop := octetsRoundTripRow.holds Try.pinned (OpenSpec.ofChange octetsRoundTripSpec)

/-- ITS FALSE NEIGHBOUR: 'it returns false'. Refute it at one input. -/
def octetsRoundTripWrong : ChangeSpec := { name := "octetsRoundTrip", fn := fun _ => fun
  | [d1, d2, d3] => { results := [.lit (.bool false)], args := [d1, d2, d3] }
  | _ => none }
def OctetsRoundTripWrongFalsely : Prop := octetsRoundTripRow.holds Try.pinned (OpenSpec.ofChange octetsRoundTripWrong)

/-- 'sectimelaw01.OctetsJoin': WHATEVER THE INPUT: true; the input reads as it did. -/
def octetsJoinSpec : ChangeSpec := { name := "octetsJoin", fn := fun _ => fun
  | [d1, d2, d3, d4] => { results := [.lit (.bool true)], args := [d1, d2, d3, d4] }
  | _ => none }
def octetsJoinRow : OpenClaim := { program := "ytbfmabjpjblpaaa", sum := "26c7221b3a85238283860a6e0285d1d5fd2e4da83da71f212b04f381e79810bb", func := "sectime/sectimelaw01.OctetsJoin", spec := "octetsJoin", apart := false }
def OctetsJoinSaid : Prop := octetsJoinRow.holds Try.pinned (OpenSpec.ofChange octetsJoinSpec)

/-- ITS FALSE NEIGHBOUR: 'it returns false'. Refute it at one input. -/
def octetsJoinWrong : ChangeSpec := { name := "octetsJoin", fn := fun _ => fun
  | [d1, d2, d3, d4] => { results := [.lit (.bool false)], args := [d1, d2, d3, d4] }
  | _ => none }
def OctetsJoinWrongFalsely : Prop := octetsJoinRow.holds Try.pinned (OpenSpec.ofChange octetsJoinWrong)

/-- 'sectimelaw01.OctetsHex': WHATEVER THE INPUT: true; the input reads as it did. -/
def octetsHexSpec : ChangeSpec := { name := "octetsHex", fn := fun _ => fun
  | [d1, d2] => { results := [.lit (.bool true)], args := [d1, d2] }
  | _ => none }
def octetsHexRow : OpenClaim := { program := "ytbfmabjpjblpaaa", sum := "26c7221b3a85238283860a6e0285d1d5fd2e4da83da71f212b04f381e79810bb", func := "sectime/sectimelaw01.OctetsHex", spec := "octetsHex", apart := false }
def OctetsHexSaid : Prop := octetsHexRow.holds Try.pinned (OpenSpec.ofChange octetsHexSpec)

/-- ITS FALSE NEIGHBOUR: 'it returns false'. Refute it at one input. -/
def octetsHexWrong : ChangeSpec := { name := "octetsHex", fn := fun _ => fun
  | [d1, d2] => { results := [.lit (.bool false)], args := [d1, d2] }
  | _ => none }
def OctetsHexWrongFalsely : Prop := octetsHexRow.holds Try.pinned (OpenSpec.ofChange octetsHexWrong)

/-- 'sectimelaw01.OctetsFields': WHATEVER THE INPUT: true; the input reads as it did. -/
def octetsFieldsSpec : ChangeSpec := { name := "octetsFields", fn := fun _ => fun
  | [d1, d2] => { results := [.lit (.bool true)], args := [d1, d2] }
  | _ => none }
def octetsFieldsRow : OpenClaim := { program := "ytbfmabjpjblpaaa", sum := "26c7221b3a85238283860a6e0285d1d5fd2e4da83da71f212b04f381e79810bb", func := "sectime/sectimelaw01.OctetsFields", spec := "octetsFields", apart := false }
def OctetsFieldsSaid : Prop := octetsFieldsRow.holds Try.pinned (OpenSpec.ofChange octetsFieldsSpec)

/-- ITS FALSE NEIGHBOUR: 'it returns false'. Refute it at one input. -/
def octetsFieldsWrong : ChangeSpec := { name := "octetsFields", fn := fun _ => fun
  | [d1, d2] => { results := [.lit (.bool false)], args := [d1, d2] }
  | _ => none }
def OctetsFieldsWrongFalsely : Prop := octetsFieldsRow.holds Try.pinned (OpenSpec.ofChange octetsFieldsWrong)

/-- 'sectimelaw01.OctetsReadBack': WHATEVER THE INPUT: true; the input reads as it did. -/
def octetsReadBackSpec : ChangeSpec := { name := "octetsReadBack", fn := fun _ => fun
  | [d1, d2] => { results := [.lit (.bool true)], args := [d1, d2] }
  | _ => none }
def octetsReadBackRow : OpenClaim := { program := "ytbfmabjpjblpaaa", sum := "26c7221b3a85238283860a6e0285d1d5fd2e4da83da71f212b04f381e79810bb", func := "sectime/sectimelaw01.OctetsReadBack", spec := "octetsReadBack", apart := false }
def OctetsReadBackSaid : Prop := octetsReadBackRow.holds Try.pinned (OpenSpec.ofChange octetsReadBackSpec)

/-- ITS FALSE NEIGHBOUR: 'it returns false'. Refute it at one input. -/
def octetsReadBackWrong : ChangeSpec := { name := "octetsReadBack", fn := fun _ => fun
  | [d1, d2] => { results := [.lit (.bool false)], args := [d1, d2] }
  | _ => none }
def OctetsReadBackWrongFalsely : Prop := octetsReadBackRow.holds Try.pinned (OpenSpec.ofChange octetsReadBackWrong)

/-- 'sectimelaw01.OctetsOrder': WHATEVER THE INPUT: true; the input reads as it did. -/
def octetsOrderSpec : ChangeSpec := { name := "octetsOrder", fn := fun _ => fun
  | [d1, d2, d3] => { results := [.lit (.bool true)], args := [d1, d2, d3] }
  | _ => none }
def octetsOrderRow : OpenClaim := { program := "ytbfmabjpjblpaaa", sum := "26c7221b3a85238283860a6e0285d1d5fd2e4da83da71f212b04f381e79810bb", func := "sectime/sectimelaw01.OctetsOrder", spec := "octetsOrder", apart := false }
def OctetsOrderSaid : Prop := octetsOrderRow.holds Try.pinned (OpenSpec.ofChange octetsOrderSpec)

/-- ITS FALSE NEIGHBOUR: 'it returns false'. Refute it at one input. -/
def octetsOrderWrong : ChangeSpec := { name := "octetsOrder", fn := fun _ => fun
  | [d1, d2, d3] => { results := [.lit (.bool false)], args := [d1, d2, d3] }
  | _ => none }
def OctetsOrderWrongFalsely : Prop := octetsOrderRow.holds Try.pinned (OpenSpec.ofChange octetsOrderWrong)

/- THE SECOND FORM. 'bulk': how many values and letters a reading holds, each counted each time it is reached (what is shared counts as often as it is met; a slice's spare places count too). A statement '..UptoSaid' is the law's where the arguments, and the package variables that the reading takes, are together of bulk at most 1048576: NARROWER than '..Said'. Prove '..Said' where nothing that the law and all that it calls make is longer than what came in: it says more and counts as full. Else prove '..UptoSaid'. A law counts once. -/
mutual
def uptoBulk {H : Type} : DataW H → Nat
  | .lit (.string bytes) => bytes.length + 1
  | .lit _ => 1
  | .nil => 1
  | .ptr d => uptoBulk d + 1
  | .slice elems spare => uptoBulkAll elems + uptoBulkAll spare + 1
  | .agg parts => uptoBulkAll parts + 1
  | .iface _ d => uptoBulk d + 1
  | .map entries => uptoBulkEntries entries + 1
  | .held _ => 1
def uptoBulkAll {H : Type} : List (DataW H) → Nat
  | [] => 0
  | d :: r => uptoBulk d + uptoBulkAll r
def uptoBulkEntries {H : Type} : List (Lit × DataW H) → Nat
  | [] => 0
  | x :: r => uptoBulkEntry x + uptoBulkEntries r
def uptoBulkEntry {H : Type} : Lit × DataW H → Nat
  | (.string bytes, d) => bytes.length + uptoBulk d + 1
  | (_, d) => uptoBulk d + 1
 end
def uptoSmall : (H : Type) → List (DataW H) → Bool := fun _ ds => decide (uptoBulkAll ds ≤ 1048576)
def OpenSpec.upto (s : _root_.Go.ChangeSpec) : _root_.Go.OpenSpec := { _root_.Go.OpenSpec.ofChange s with cond := some uptoSmall }

/-- 'sectimelaw01.OctetsCount', WHERE WHAT IT READS IS OF BULK AT MOST 1048576: true; the input reads as it did. -/
def octetsCountUptoRow : OpenClaim := { program := "ytbfmabjpjblpaaa", sum := "26c7221b3a85238283860a6e0285d1d5fd2e4da83da71f212b04f381e79810bb", func := "sectime/sectimelaw01.OctetsCount", spec := "octetsCount", apart := false, narrowed := true }
def OctetsCountUptoSaid : Prop := octetsCountUptoRow.holds Try.pinned (OpenSpec.upto octetsCountSpec)

/-- 'sectimelaw01.OctetsRoundTrip', WHERE WHAT IT READS IS OF BULK AT MOST 1048576: true; the input reads as it did. -/
def octetsRoundTripUptoRow : OpenClaim := { program := "ytbfmabjpjblpaaa", sum := "26c7221b3a85238283860a6e0285d1d5fd2e4da83da71f212b04f381e79810bb", func := "sectime/sectimelaw01.OctetsRoundTrip", spec := "octetsRoundTrip", apart := false, narrowed := true }
def OctetsRoundTripUptoSaid : Prop := octetsRoundTripUptoRow.holds Try.pinned (OpenSpec.upto octetsRoundTripSpec)

/-- 'sectimelaw01.OctetsJoin', WHERE WHAT IT READS IS OF BULK AT MOST 1048576: true; the input reads as it did. -/
def octetsJoinUptoRow : OpenClaim := { program := "ytbfmabjpjblpaaa", sum := "26c7221b3a85238283860a6e0285d1d5fd2e4da83da71f212b04f381e79810bb", func := "sectime/sectimelaw01.OctetsJoin", spec := "octetsJoin", apart := false, narrowed := true }
def OctetsJoinUptoSaid : Prop := octetsJoinUptoRow.holds Try.pinned (OpenSpec.upto octetsJoinSpec)

/-- 'sectimelaw01.OctetsHex', WHERE WHAT IT READS IS OF BULK AT MOST 1048576: true; the input reads as it did. -/
def octetsHexUptoRow : OpenClaim := { program := "ytbfmabjpjblpaaa", sum := "26c7221b3a85238283860a6e0285d1d5fd2e4da83da71f212b04f381e79810bb", func := "sectime/sectimelaw01.OctetsHex", spec := "octetsHex", apart := false, narrowed := true }
def OctetsHexUptoSaid : Prop := octetsHexUptoRow.holds Try.pinned (OpenSpec.upto octetsHexSpec)

/-- 'sectimelaw01.OctetsFields', WHERE WHAT IT READS IS OF BULK AT MOST 1048576: true; the input reads as it did. -/
def octetsFieldsUptoRow : OpenClaim := { program := "ytbfmabjpjblpaaa", sum := "26c7221b3a85238283860a6e0285d1d5fd2e4da83da71f212b04f381e79810bb", func := "sectime/sectimelaw01.OctetsFields", spec := "octetsFields", apart := false, narrowed := true }
def OctetsFieldsUptoSaid : Prop := octetsFieldsUptoRow.holds Try.pinned (OpenSpec.upto octetsFieldsSpec)

/-- 'sectimelaw01.OctetsReadBack', WHERE WHAT IT READS IS OF BULK AT MOST 1048576: true; the input reads as it did. -/
def octetsReadBackUptoRow : OpenClaim := { program := "ytbfmabjpjblpaaa", sum := "26c7221b3a85238283860a6e0285d1d5fd2e4da83da71f212b04f381e79810bb", func := "sectime/sectimelaw01.OctetsReadBack", spec := "octetsReadBack", apart := false, narrowed := true }
def OctetsReadBackUptoSaid : Prop := octetsReadBackUptoRow.holds Try.pinned (OpenSpec.upto octetsReadBackSpec)

/-- 'sectimelaw01.OctetsOrder', WHERE WHAT IT READS IS OF BULK AT MOST 1048576: true; the input reads as it did. -/
def octetsOrderUptoRow : OpenClaim := { program := "ytbfmabjpjblpaaa", sum := "26c7221b3a85238283860a6e0285d1d5fd2e4da83da71f212b04f381e79810bb", func := "sectime/sectimelaw01.OctetsOrder", spec := "octetsOrder", apart := false, narrowed := true }
def OctetsOrderUptoSaid : Prop := octetsOrderUptoRow.holds Try.pinned (OpenSpec.upto octetsOrderSpec)

end Rows
end Go.Proofs.Ytbfmabjpjblpaaa
