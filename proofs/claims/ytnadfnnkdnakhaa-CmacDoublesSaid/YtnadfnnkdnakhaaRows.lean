/-
  No cell of these rows narrows 'for every input' (looked for: loops, veiled, ifaces, maps, wideKeys, modest, calm, conditions, laid).
  DERIVED. THE GIVEN ROWS OF THIS SEAT. 4 by the template 'for every input the law returns true; each argument reads behind the call as it read before'; 0 by the template 'total and deterministic' (their statements: YtnadfnnkdnakhaaTotals.lean).
  GIVEN WITH THE SEED: the statements are not yours to turn. If you find one false, say at which input.
  Laid BY PROGRAM, IN A SANDBOX (cutbox-rows.mjs): the forced cells as the released guide's own fill.sh prints them over the translation de03ddf59762036d… (all of the seat's roots in one cut). By AI agents, Wed Nov 11 2026. No macro, syntax, notation, axiom, sorry.
-/
import Derived.Test.YtnadfnnkdnakhaaChecked
import GoSem.Claim
import GoSem.ClaimJoined
import GoSem.ClaimMapViews
import Derived.JoinedTies
import Derived.KernelRfl
namespace Go.Proofs.Ytnadfnnkdnakhaa
/- THE CELL 'sum', in the pinned program and in every row, IS THE sha256 OF THE DUMP (.gsa) THAT YtnadfnnkdnakhaaProg.lean LOADS. Nothing in Lean hashes anything: it is a label: what it is worth is what the hold of that sum in a sandbox is worth. -/
noncomputable def Try.pinned : Pinned := { name := "ytnadfnnkdnakhaa", sum := "de03ddf59762036d497bd646afce41cf4a8e244be98ffcd3936ac8ad47145e07", checked := Try.checked }
namespace Rows
def none {H : Type} : Left H := { results := [], args := [] }

/-- 'sectimelaw05.CmacActs': WHATEVER THE INPUT: true; the input reads as it did. -/
def cmacActsSpec : ChangeSpec := { name := "cmacActs", fn := fun _ => fun
  | [d1, d2, d3] => { results := [.lit (.bool true)], args := [d1, d2, d3] }
  | _ => none }
def cmacActsRow : OpenClaim := { program := "ytnadfnnkdnakhaa", sum := "de03ddf59762036d497bd646afce41cf4a8e244be98ffcd3936ac8ad47145e07", func := "sectime/sectimelaw05.CmacActs", spec := "cmacActs", apart := false }
def CmacActsSaid : Prop := cmacActsRow.holds Try.pinned (OpenSpec.ofChange cmacActsSpec)

/-- ITS FALSE NEIGHBOUR: 'it returns false'. Refute it at one input. -/
def cmacActsWrong : ChangeSpec := { name := "cmacActs", fn := fun _ => fun
  | [d1, d2, d3] => { results := [.lit (.bool false)], args := [d1, d2, d3] }
  | _ => none }
def CmacActsWrongFalsely : Prop := cmacActsRow.holds Try.pinned (OpenSpec.ofChange cmacActsWrong)

/-- 'sectimelaw05.CmacLengths': WHATEVER THE INPUT: true; the input reads as it did. -/
def cmacLengthsSpec : ChangeSpec := { name := "cmacLengths", fn := fun _ => fun
  | [d1, d2, d3] => { results := [.lit (.bool true)], args := [d1, d2, d3] }
  | _ => none }
def cmacLengthsRow : OpenClaim := { program := "ytnadfnnkdnakhaa", sum := "de03ddf59762036d497bd646afce41cf4a8e244be98ffcd3936ac8ad47145e07", func := "sectime/sectimelaw05.CmacLengths", spec := "cmacLengths", apart := false }
def CmacLengthsSaid : Prop := cmacLengthsRow.holds Try.pinned (OpenSpec.ofChange cmacLengthsSpec)

/-- ITS FALSE NEIGHBOUR: 'it returns false'. Refute it at one input. -/
def cmacLengthsWrong : ChangeSpec := { name := "cmacLengths", fn := fun _ => fun
  | [d1, d2, d3] => { results := [.lit (.bool false)], args := [d1, d2, d3] }
  | _ => none }
def CmacLengthsWrongFalsely : Prop := cmacLengthsRow.holds Try.pinned (OpenSpec.ofChange cmacLengthsWrong)

/-- 'sectimelaw05.CmacDoubles': WHATEVER THE INPUT: true; the input reads as it did. -/
def cmacDoublesSpec : ChangeSpec := { name := "cmacDoubles", fn := fun _ => fun
  | [d1, d2] => { results := [.lit (.bool true)], args := [d1, d2] }
  | _ => none }
def cmacDoublesRow : OpenClaim := { program := "ytnadfnnkdnakhaa", sum := "de03ddf59762036d497bd646afce41cf4a8e244be98ffcd3936ac8ad47145e07", func := "sectime/sectimelaw05.CmacDoubles", spec := "cmacDoubles", apart := false }
def CmacDoublesSaid : Prop := cmacDoublesRow.holds Try.pinned (OpenSpec.ofChange cmacDoublesSpec)

/-- ITS FALSE NEIGHBOUR: 'it returns false'. Refute it at one input. -/
def cmacDoublesWrong : ChangeSpec := { name := "cmacDoubles", fn := fun _ => fun
  | [d1, d2] => { results := [.lit (.bool false)], args := [d1, d2] }
  | _ => none }
def CmacDoublesWrongFalsely : Prop := cmacDoublesRow.holds Try.pinned (OpenSpec.ofChange cmacDoublesWrong)

/-- 'sectimelaw05.CmacOneBlock': WHATEVER THE INPUT: true; the input reads as it did. -/
def cmacOneBlockSpec : ChangeSpec := { name := "cmacOneBlock", fn := fun _ => fun
  | [d1, d2, d3, d4] => { results := [.lit (.bool true)], args := [d1, d2, d3, d4] }
  | _ => none }
def cmacOneBlockRow : OpenClaim := { program := "ytnadfnnkdnakhaa", sum := "de03ddf59762036d497bd646afce41cf4a8e244be98ffcd3936ac8ad47145e07", func := "sectime/sectimelaw05.CmacOneBlock", spec := "cmacOneBlock", apart := false }
def CmacOneBlockSaid : Prop := cmacOneBlockRow.holds Try.pinned (OpenSpec.ofChange cmacOneBlockSpec)

/-- ITS FALSE NEIGHBOUR: 'it returns false'. Refute it at one input. -/
def cmacOneBlockWrong : ChangeSpec := { name := "cmacOneBlock", fn := fun _ => fun
  | [d1, d2, d3, d4] => { results := [.lit (.bool false)], args := [d1, d2, d3, d4] }
  | _ => none }
def CmacOneBlockWrongFalsely : Prop := cmacOneBlockRow.holds Try.pinned (OpenSpec.ofChange cmacOneBlockWrong)

/- THE SECOND FORM. 'bulk': how many values and letters a reading holds, each counted each time it is reached (what is shared counts as often as it is met; a slice's spare places count too). A statement '..UptoSaid' is the law's where the arguments, and the package variables that the reading takes, are together of bulk at most 1048576: NARROWER than '..Said'. Prove '..Said' where nothing that the law and all that it calls make is longer than what came in: it says more and counts as full. Else prove '..UptoSaid'. A law counts once. -/
mutual
def uptoBulk {H : Type} : DataW H → Nat
  | .lit (.string bytes) => bytes.length + 1
  | .lit _ => 1
  | .nil => 1
  | .ptr d => uptoBulk d + 1
  | .slice elems spare => uptoBulkAll elems + uptoBulkAll spare + 1
  | .agg parts => uptoBulkAll parts + 1
  | .iface _ d => uptoBulk d + 1
  | .map entries => uptoBulkEntries entries + 1
  | .held _ => 1
def uptoBulkAll {H : Type} : List (DataW H) → Nat
  | [] => 0
  | d :: r => uptoBulk d + uptoBulkAll r
def uptoBulkEntries {H : Type} : List (Lit × DataW H) → Nat
  | [] => 0
  | x :: r => uptoBulkEntry x + uptoBulkEntries r
def uptoBulkEntry {H : Type} : Lit × DataW H → Nat
  | (.string bytes, d) => bytes.length + uptoBulk d + 1
  | (_, d) => uptoBulk d + 1
 end
def uptoSmall : (H : Type) → List (DataW H) → Bool := fun _ ds => decide (uptoBulkAll ds ≤ 1048576)
def OpenSpec.upto (s : _root_.Go.ChangeSpec) : _root_.Go.OpenSpec := { _root_.Go.OpenSpec.ofChange s with cond := some uptoSmall }

/-- 'sectimelaw05.CmacActs', WHERE WHAT IT READS IS OF BULK AT MOST 1048576: true; the input reads as it did. -/
def cmacActsUptoRow : OpenClaim := { program := "ytnadfnnkdnakhaa", sum := "de03ddf59762036d497bd646afce41cf4a8e244be98ffcd3936ac8ad47145e07", func := "sectime/sectimelaw05.CmacActs", spec := "cmacActs", apart := false, narrowed := true }
def CmacActsUptoSaid : Prop := cmacActsUptoRow.holds Try.pinned (OpenSpec.upto cmacActsSpec)

/-- 'sectimelaw05.CmacLengths', WHERE WHAT IT READS IS OF BULK AT MOST 1048576: true; the input reads as it did. -/
def cmacLengthsUptoRow : OpenClaim := { program := "ytnadfnnkdnakhaa", sum := "de03ddf59762036d497bd646afce41cf4a8e244be98ffcd3936ac8ad47145e07", func := "sectime/sectimelaw05.CmacLengths", spec := "cmacLengths", apart := false, narrowed := true }
def CmacLengthsUptoSaid : Prop := cmacLengthsUptoRow.holds Try.pinned (OpenSpec.upto cmacLengthsSpec)

/-- 'sectimelaw05.CmacDoubles', WHERE WHAT IT READS IS OF BULK AT MOST 1048576: true; the input reads as it did. -/
def cmacDoublesUptoRow : OpenClaim := { program := "ytnadfnnkdnakhaa", sum := "de03ddf59762036d497bd646afce41cf4a8e244be98ffcd3936ac8ad47145e07", func := "sectime/sectimelaw05.CmacDoubles", spec := "cmacDoubles", apart := false, narrowed := true }
def CmacDoublesUptoSaid : Prop := cmacDoublesUptoRow.holds Try.pinned (OpenSpec.upto cmacDoublesSpec)

/-- 'sectimelaw05.CmacOneBlock', WHERE WHAT IT READS IS OF BULK AT MOST 1048576: true; the input reads as it did. -/
def cmacOneBlockUptoRow : OpenClaim := { program := "ytnadfnnkdnakhaa", sum := "de03ddf59762036d497bd646afce41cf4a8e244be98ffcd3936ac8ad47145e07", func := "sectime/sectimelaw05.CmacOneBlock", spec := "cmacOneBlock", apart := false, narrowed := true }
def CmacOneBlockUptoSaid : Prop := cmacOneBlockUptoRow.holds Try.pinned (OpenSpec.upto cmacOneBlockSpec)

end Rows
end Go.Proofs.Ytnadfnnkdnakhaa
