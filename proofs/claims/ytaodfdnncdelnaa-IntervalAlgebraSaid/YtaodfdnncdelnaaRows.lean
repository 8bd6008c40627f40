/-
  No cell of these rows narrows 'for every input' (looked for: loops, veiled, ifaces, maps, wideKeys, modest, calm, conditions, laid).
  DERIVED. THE GIVEN ROWS OF THIS SEAT. 6 by the template 'for every input the law returns true; each argument reads behind the call as it read before'; 0 by the template 'total and deterministic' (their statements: YtaodfdnncdelnaaTotals.lean).
  GIVEN WITH THE SEED: the statements are not yours to turn. If you find one false, say at which input.
  Laid BY PROGRAM, IN A SANDBOX (cutbox-rows.mjs): the forced cells as the released guide's own fill.sh prints them over the translation 6de51d2bd249546c… (all of the seat's roots in one cut). By AI agents, Wed Nov 11 2026. No macro, syntax, notation, axiom, sorry.
-/
import Derived.Test.YtaodfdnncdelnaaChecked
import GoSem.Claim
import GoSem.ClaimJoined
import GoSem.ClaimMapViews
import Derived.JoinedTies
import Derived.KernelRfl
namespace Go.Proofs.Ytaodfdnncdelnaa
/- THE CELL 'sum', in the pinned program and in every row, IS THE sha256 OF THE DUMP (.gsa) THAT YtaodfdnncdelnaaProg.lean LOADS. Nothing in Lean hashes anything: it is a label: what it is worth is what the hold of that sum in a sandbox is worth. -/
noncomputable def Try.pinned : Pinned := { name := "ytaodfdnncdelnaa", sum := "6de51d2bd249546c5496eac749babf32436a6c7437d3bbe223a833e54626c6f9", checked := Try.checked }
namespace Rows
def none {H : Type} : Left H := { results := [], args := [] }

/-- 'sectimelaw11.IntervalActs': WHATEVER THE INPUT: true; the input reads as it did. -/
def intervalActsSpec : ChangeSpec := { name := "intervalActs", fn := fun _ => fun
  | [d1, d2, d3, d4, d5] => { results := [.lit (.bool true)], args := [d1, d2, d3, d4, d5] }
  | _ => none }
def intervalActsRow : OpenClaim := { program := "ytaodfdnncdelnaa", sum := "6de51d2bd249546c5496eac749babf32436a6c7437d3bbe223a833e54626c6f9", func := "sectime/sectimelaw11.IntervalActs", spec := "intervalActs", unfollowed := true, recurses := true, apart := false }
def IntervalActsSaid : Prop := intervalActsRow.holds Try.pinned (OpenSpec.ofChange intervalActsSpec)

/-- ITS FALSE NEIGHBOUR: 'it returns false'. Refute it at one input. -/
def intervalActsWrong : ChangeSpec := { name := "intervalActs", fn := fun _ => fun
  | [d1, d2, d3, d4, d5] => { results := [.lit (.bool false)], args := [d1, d2, d3, d4, d5] }
  | _ => none }
def IntervalActsWrongFalsely : Prop := intervalActsRow.holds Try.pinned (OpenSpec.ofChange intervalActsWrong)

/-- 'sectimelaw11.IntervalLists': WHATEVER THE INPUT: true; the input reads as it did. -/
def intervalListsSpec : ChangeSpec := { name := "intervalLists", fn := fun _ => fun
  | [d] => { results := [.lit (.bool true)], args := [d] }
  | _ => none }
def intervalListsRow : OpenClaim := { program := "ytaodfdnncdelnaa", sum := "6de51d2bd249546c5496eac749babf32436a6c7437d3bbe223a833e54626c6f9", func := "sectime/sectimelaw11.IntervalLists", spec := "intervalLists", unfollowed := true, recurses := true, apart := false }
def IntervalListsSaid : Prop := intervalListsRow.holds Try.pinned (OpenSpec.ofChange intervalListsSpec)

/-- ITS FALSE NEIGHBOUR: 'it returns false'. Refute it at one input. -/
def intervalListsWrong : ChangeSpec := { name := "intervalLists", fn := fun _ => fun
  | [d] => { results := [.lit (.bool false)], args := [d] }
  | _ => none }
def IntervalListsWrongFalsely : Prop := intervalListsRow.holds Try.pinned (OpenSpec.ofChange intervalListsWrong)

/-- 'sectimelaw11.IntervalMeaning': WHATEVER THE INPUT: true; the input reads as it did. -/
def intervalMeaningSpec : ChangeSpec := { name := "intervalMeaning", fn := fun _ => fun
  | [d1, d2, d3, d4, d5, d6] => { results := [.lit (.bool true)], args := [d1, d2, d3, d4, d5, d6] }
  | _ => none }
def intervalMeaningRow : OpenClaim := { program := "ytaodfdnncdelnaa", sum := "6de51d2bd249546c5496eac749babf32436a6c7437d3bbe223a833e54626c6f9", func := "sectime/sectimelaw11.IntervalMeaning", spec := "intervalMeaning", unfollowed := true, recurses := true, apart := false }
def IntervalMeaningSaid : Prop := intervalMeaningRow.holds Try.pinned (OpenSpec.ofChange intervalMeaningSpec)

/-- ITS FALSE NEIGHBOUR: 'it returns false'. Refute it at one input. -/
def intervalMeaningWrong : ChangeSpec := { name := "intervalMeaning", fn := fun _ => fun
  | [d1, d2, d3, d4, d5, d6] => { results := [.lit (.bool false)], args := [d1, d2, d3, d4, d5, d6] }
  | _ => none }
def IntervalMeaningWrongFalsely : Prop := intervalMeaningRow.holds Try.pinned (OpenSpec.ofChange intervalMeaningWrong)

/-- 'sectimelaw11.IntervalUnion': WHATEVER THE INPUT: true; the input reads as it did. -/
def intervalUnionSpec : ChangeSpec := { name := "intervalUnion", fn := fun _ => fun
  | [d1, d2] => { results := [.lit (.bool true)], args := [d1, d2] }
  | _ => none }
def intervalUnionRow : OpenClaim := { program := "ytaodfdnncdelnaa", sum := "6de51d2bd249546c5496eac749babf32436a6c7437d3bbe223a833e54626c6f9", func := "sectime/sectimelaw11.IntervalUnion", spec := "intervalUnion", unfollowed := true, recurses := true, apart := false }
def IntervalUnionSaid : Prop := intervalUnionRow.holds Try.pinned (OpenSpec.ofChange intervalUnionSpec)

/-- ITS FALSE NEIGHBOUR: 'it returns false'. Refute it at one input. -/
def intervalUnionWrong : ChangeSpec := { name := "intervalUnion", fn := fun _ => fun
  | [d1, d2] => { results := [.lit (.bool false)], args := [d1, d2] }
  | _ => none }
def IntervalUnionWrongFalsely : Prop := intervalUnionRow.holds Try.pinned (OpenSpec.ofChange intervalUnionWrong)

/-- 'sectimelaw11.IntervalOrder': WHATEVER THE INPUT: true; the input reads as it did. -/
def intervalOrderSpec : ChangeSpec := { name := "intervalOrder", fn := fun _ => fun
  | [d1, d2, d3, d4, d5] => { results := [.lit (.bool true)], args := [d1, d2, d3, d4, d5] }
  | _ => none }
def intervalOrderRow : OpenClaim := { program := "ytaodfdnncdelnaa", sum := "6de51d2bd249546c5496eac749babf32436a6c7437d3bbe223a833e54626c6f9", func := "sectime/sectimelaw11.IntervalOrder", spec := "intervalOrder", unfollowed := true, recurses := true, apart := false }
def IntervalOrderSaid : Prop := intervalOrderRow.holds Try.pinned (OpenSpec.ofChange intervalOrderSpec)

/-- ITS FALSE NEIGHBOUR: 'it returns false'. Refute it at one input. -/
def intervalOrderWrong : ChangeSpec := { name := "intervalOrder", fn := fun _ => fun
  | [d1, d2, d3, d4, d5] => { results := [.lit (.bool false)], args := [d1, d2, d3, d4, d5] }
  | _ => none }
def IntervalOrderWrongFalsely : Prop := intervalOrderRow.holds Try.pinned (OpenSpec.ofChange intervalOrderWrong)

/-- 'sectimelaw11.IntervalAlgebra': WHATEVER THE INPUT: true; the input reads as it did. -/
def intervalAlgebraSpec : ChangeSpec := { name := "intervalAlgebra", fn := fun _ => fun
  | [d1, d2, d3, d4, d5, d6] => { results := [.lit (.bool true)], args := [d1, d2, d3, d4, d5, d6] }
  | _ => none }
def intervalAlgebraRow : OpenClaim := { program := "ytaodfdnncdelnaa", sum := "6de51d2bd249546c5496eac749babf32436a6c7437d3bbe223a833e54626c6f9", func := "sectime/sectimelaw11.IntervalAlgebra", spec := "intervalAlgebra", unfollowed := true, recurses := true, apart := false }
def IntervalAlgebraSaid : Prop := intervalAlgebraRow.holds Try.pinned (OpenSpec.ofChange intervalAlgebraSpec)

/-- ITS FALSE NEIGHBOUR: 'it returns false'. Refute it at one input. -/
def intervalAlgebraWrong : ChangeSpec := { name := "intervalAlgebra", fn := fun _ => fun
  | [d1, d2, d3, d4, d5, d6] => { results := [.lit (.bool false)], args := [d1, d2, d3, d4, d5, d6] }
  | _ => none }
def IntervalAlgebraWrongFalsely : Prop := intervalAlgebraRow.holds Try.pinned (OpenSpec.ofChange intervalAlgebraWrong)

/- THE SECOND FORM. 'bulk': how many values and letters a reading holds, each counted each time it is reached (what is shared counts as often as it is met; a slice's spare places count too). A statement '..UptoSaid' is the law's where the arguments, and the package variables that the reading takes, are together of bulk at most 1048576: NARROWER than '..Said'. Prove '..Said' where nothing that the law and all that it calls make is longer than what came in: it says more and counts as full. Else prove '..UptoSaid'. A law counts once. -/
mutual
def uptoBulk {H : Type} : DataW H → Nat
  | .lit (.string bytes) => bytes.length + 1
  | .lit _ => 1
  | .nil => 1
  | .ptr d => uptoBulk d + 1
  | .slice elems spare => uptoBulkAll elems + uptoBulkAll spare + 1
  | .agg parts => uptoBulkAll parts + 1
  | .iface _ d => uptoBulk d + 1
  | .map entries => uptoBulkEntries entries + 1
  | .held _ => 1
def uptoBulkAll {H : Type} : List (DataW H) → Nat
  | [] => 0
  | d :: r => uptoBulk d + uptoBulkAll r
def uptoBulkEntries {H : Type} : List (Lit × DataW H) → Nat
  | [] => 0
  | x :: r => uptoBulkEntry x + uptoBulkEntries r
def uptoBulkEntry {H : Type} : Lit × DataW H → Nat
  | (.string bytes, d) => bytes.length + uptoBulk d + 1
  | (_, d) => uptoBulk d + 1
 end
def uptoSmall : (H : Type) → List (DataW H) → Bool := fun _ ds => decide (uptoBulkAll ds ≤ 1048576)
def OpenSpec.upto (s : _root_.Go.ChangeSpec) : _root_.Go.OpenSpec := { _root_.Go.OpenSpec.ofChange s with cond := some uptoSmall }

/-- 'sectimelaw11.IntervalActs', WHERE WHAT IT READS IS OF BULK AT MOST 1048576: true; the input reads as it did. -/
def intervalActsUptoRow : OpenClaim := { program := "ytaodfdnncdelnaa", sum := "6de51d2bd249546c5496eac749babf32436a6c7437d3bbe223a833e54626c6f9", func := "sectime/sectimelaw11.IntervalActs", spec := "intervalActs", unfollowed := true, recurses := true, apart := false, narrowed := true }
def IntervalActsUptoSaid : Prop := intervalActsUptoRow.holds Try.pinned (OpenSpec.upto intervalActsSpec)

/-- 'sectimelaw11.IntervalLists', WHERE WHAT IT READS IS OF BULK AT MOST 1048576: true; the input reads as it did. -/
def intervalListsUptoRow : OpenClaim := { program := "ytaodfdnncdelnaa", sum := "6de51d2bd249546c5496eac749babf32436a6c7437d3bbe223a833e54626c6f9", func := "sectime/sectimelaw11.IntervalLists", spec := "intervalLists", unfollowed := true, recurses := true, apart := false, narrowed := true }
def IntervalListsUptoSaid : Prop := intervalListsUptoRow.holds Try.pinned (OpenSpec.upto intervalListsSpec)

/-- 'sectimelaw11.IntervalMeaning', WHERE WHAT IT READS IS OF BULK AT MOST 1048576: true; the input reads as it did. -/
def intervalMeaningUptoRow : OpenClaim := { program := "ytaodfdnncdelnaa", sum := "6de51d2bd249546c5496eac749babf32436a6c7437d3bbe223a833e54626c6f9", func := "sectime/sectimelaw11.IntervalMeaning", spec := "intervalMeaning", unfollowed := true, recurses := true, apart := false, narrowed := true }
def IntervalMeaningUptoSaid : Prop := intervalMeaningUptoRow.holds Try.pinned (OpenSpec.upto intervalMeaningSpec)

/-- 'sectimelaw11.IntervalUnion', WHERE WHAT IT READS IS OF BULK AT MOST 1048576: true; the input reads as it did. -/
def intervalUnionUptoRow : OpenClaim := { program := "ytaodfdnncdelnaa", sum := "6de51d2bd249546c5496eac749babf32436a6c7437d3bbe223a833e54626c6f9", func := "sectime/sectimelaw11.IntervalUnion", spec := "intervalUnion", unfollowed := true, recurses := true, apart := false, narrowed := true }
def IntervalUnionUptoSaid : Prop := intervalUnionUptoRow.holds Try.pinned (OpenSpec.upto intervalUnionSpec)

/-- 'sectimelaw11.IntervalOrder', WHERE WHAT IT READS IS OF BULK AT MOST 1048576: true; the input reads as it did. -/
def intervalOrderUptoRow : OpenClaim := { program := "ytaodfdnncdelnaa", sum := "6de51d2bd249546c5496eac749babf32436a6c7437d3bbe223a833e54626c6f9", func := "sectime/sectimelaw11.IntervalOrder", spec := "intervalOrder", unfollowed := true, recurses := true, apart := false, narrowed := true }
def IntervalOrderUptoSaid : Prop := intervalOrderUptoRow.holds Try.pinned (OpenSpec.upto intervalOrderSpec)

/-- 'sectimelaw11.IntervalAlgebra', WHERE WHAT IT READS IS OF BULK AT MOST 1048576: true; the input reads as it did. -/
def intervalAlgebraUptoRow : OpenClaim := { program := "ytaodfdnncdelnaa", sum := "6de51d2bd249546c5496eac749babf32436a6c7437d3bbe223a833e54626c6f9", func := "sectime/sectimelaw11.IntervalAlgebra", spec := "intervalAlgebra", unfollowed := true, recurses := true, apart := false, narrowed := true }
def IntervalAlgebraUptoSaid : Prop := intervalAlgebraUptoRow.holds Try.pinned (OpenSpec.upto intervalAlgebraSpec)

end Rows
end Go.Proofs.Ytaodfdnncdelnaa
