/-
  No cell of these rows narrows 'for every input' (looked for: loops, veiled, ifaces, maps, wideKeys, modest, calm, conditions, laid).
  DERIVED. THE GIVEN ROWS OF THIS SEAT. 5 by the template 'for every input the law returns true; each argument reads behind the call as it read before'; 0 by the template 'total and deterministic' (their statements: YtcafaihnflnkfaaTotals.lean).
  GIVEN WITH THE SEED: the statements are not yours to turn. If you find one false, say at which input.
  Laid BY PROGRAM, IN A SANDBOX (cutbox-rows.mjs): the forced cells as the released guide's own fill.sh prints them over the translation ee40852f2299d17b… (all of the seat's roots in one cut). By AI agents, Wed Nov 11 2026. No macro, syntax, notation, axiom, sorry.
-/
import Derived.Test.YtcafaihnflnkfaaChecked
import GoSem.Claim
import GoSem.ClaimJoined
import GoSem.ClaimMapViews
import Derived.JoinedTies
import Derived.KernelRfl
namespace Go.Proofs.Ytcafaihnflnkfaa
/- THE CELL 'sum', in the pinned program and in every row, IS THE sha256 OF THE DUMP (.gsa) THAT YtcafaihnflnkfaaProg.lean LOADS. Nothing in Lean hashes anything: it is a label: what it is worth is what the hold of that sum in a sandbox is worth. -/
noncomputable def Try.pinned : Pinned := { name := "ytcafaihnflnkfaa", sum := "ee40852f2299d17bc7d72e99c2357ccb08127a54bbe799cd5354f1998f548862", checked := Try.checked }
namespace Rows
def none {H : Type} : Left H := { results := [], args := [] }

/-- 'sectimelaw14.EraContains': WHATEVER THE INPUT: true; the input reads as it did. -/
def eraContainsSpec : ChangeSpec := { name := "eraContains", fn := fun _ => fun
  | [d1, d2, d3] => { results := [.lit (.bool true)], args := [d1, d2, d3] }
  | _ => none }
def eraContainsRow : OpenClaim := { program := "ytcafaihnflnkfaa", sum := "ee40852f2299d17bc7d72e99c2357ccb08127a54bbe799cd5354f1998f548862", func := "sectime/sectimelaw14.EraContains", spec := "eraContains", apart := false }
def EraContainsSaid : Prop := eraContainsRow.holds Try.pinned (OpenSpec.ofChange eraContainsSpec)

/-- ITS FALSE NEIGHBOUR: 'it returns false'. Refute it at one input. -/
def eraContainsWrong : ChangeSpec := { name := "eraContains", fn := fun _ => fun
  | [d1, d2, d3] => { results := [.lit (.bool false)], args := [d1, d2, d3] }
  | _ => none }
def EraContainsWrongFalsely : Prop := eraContainsRow.holds Try.pinned (OpenSpec.ofChange eraContainsWrong)

/-- 'sectimelaw14.EraUnfolds': WHATEVER THE INPUT: true; the input reads as it did. -/
def eraUnfoldsSpec : ChangeSpec := { name := "eraUnfolds", fn := fun _ => fun
  | [d1, d2, d3] => { results := [.lit (.bool true)], args := [d1, d2, d3] }
  | _ => none }
def eraUnfoldsRow : OpenClaim := { program := "ytcafaihnflnkfaa", sum := "ee40852f2299d17bc7d72e99c2357ccb08127a54bbe799cd5354f1998f548862", func := "sectime/sectimelaw14.EraUnfolds", spec := "eraUnfolds", apart := false }
def EraUnfoldsSaid : Prop := eraUnfoldsRow.holds Try.pinned (OpenSpec.ofChange eraUnfoldsSpec)

/-- ITS FALSE NEIGHBOUR: 'it returns false'. Refute it at one input. -/
def eraUnfoldsWrong : ChangeSpec := { name := "eraUnfolds", fn := fun _ => fun
  | [d1, d2, d3] => { results := [.lit (.bool false)], args := [d1, d2, d3] }
  | _ => none }
def EraUnfoldsWrongFalsely : Prop := eraUnfoldsRow.holds Try.pinned (OpenSpec.ofChange eraUnfoldsWrong)

/-- 'sectimelaw14.EraNear': WHATEVER THE INPUT: true; the input reads as it did. -/
def eraNearSpec : ChangeSpec := { name := "eraNear", fn := fun _ => fun
  | [d1, d2] => { results := [.lit (.bool true)], args := [d1, d2] }
  | _ => none }
def eraNearRow : OpenClaim := { program := "ytcafaihnflnkfaa", sum := "ee40852f2299d17bc7d72e99c2357ccb08127a54bbe799cd5354f1998f548862", func := "sectime/sectimelaw14.EraNear", spec := "eraNear", apart := false }
def EraNearSaid : Prop := eraNearRow.holds Try.pinned (OpenSpec.ofChange eraNearSpec)

/-- ITS FALSE NEIGHBOUR: 'it returns false'. Refute it at one input. -/
def eraNearWrong : ChangeSpec := { name := "eraNear", fn := fun _ => fun
  | [d1, d2] => { results := [.lit (.bool false)], args := [d1, d2] }
  | _ => none }
def EraNearWrongFalsely : Prop := eraNearRow.holds Try.pinned (OpenSpec.ofChange eraNearWrong)

/-- 'sectimelaw14.EraAhead': WHATEVER THE INPUT: true; the input reads as it did. -/
def eraAheadSpec : ChangeSpec := { name := "eraAhead", fn := fun _ => fun
  | [d1, d2] => { results := [.lit (.bool true)], args := [d1, d2] }
  | _ => none }
def eraAheadRow : OpenClaim := { program := "ytcafaihnflnkfaa", sum := "ee40852f2299d17bc7d72e99c2357ccb08127a54bbe799cd5354f1998f548862", func := "sectime/sectimelaw14.EraAhead", spec := "eraAhead", apart := false }
def EraAheadSaid : Prop := eraAheadRow.holds Try.pinned (OpenSpec.ofChange eraAheadSpec)

/-- ITS FALSE NEIGHBOUR: 'it returns false'. Refute it at one input. -/
def eraAheadWrong : ChangeSpec := { name := "eraAhead", fn := fun _ => fun
  | [d1, d2] => { results := [.lit (.bool false)], args := [d1, d2] }
  | _ => none }
def EraAheadWrongFalsely : Prop := eraAheadRow.holds Try.pinned (OpenSpec.ofChange eraAheadWrong)

/-- 'sectimelaw14.EraNested': WHATEVER THE INPUT: true; the input reads as it did. -/
def eraNestedSpec : ChangeSpec := { name := "eraNested", fn := fun _ => fun
  | [d1, d2, d3, d4] => { results := [.lit (.bool true)], args := [d1, d2, d3, d4] }
  | _ => none }
def eraNestedRow : OpenClaim := { program := "ytcafaihnflnkfaa", sum := "ee40852f2299d17bc7d72e99c2357ccb08127a54bbe799cd5354f1998f548862", func := "sectime/sectimelaw14.EraNested", spec := "eraNested", apart := false }
def EraNestedSaid : Prop := eraNestedRow.holds Try.pinned (OpenSpec.ofChange eraNestedSpec)

/-- ITS FALSE NEIGHBOUR: 'it returns false'. Refute it at one input. -/
def eraNestedWrong : ChangeSpec := { name := "eraNested", fn := fun _ => fun
  | [d1, d2, d3, d4] => { results := [.lit (.bool false)], args := [d1, d2, d3, d4] }
  | _ => none }
def EraNestedWrongFalsely : Prop := eraNestedRow.holds Try.pinned (OpenSpec.ofChange eraNestedWrong)

/- THE SECOND FORM. 'bulk': how many values and letters a reading holds, each counted each time it is reached (what is shared counts as often as it is met; a slice's spare places count too). A statement '..UptoSaid' is the law's where the arguments, and the package variables that the reading takes, are together of bulk at most 1048576: NARROWER than '..Said'. Prove '..Said' where nothing that the law and all that it calls make is longer than what came in: it says more and counts as full. Else prove '..UptoSaid'. A law counts once. -/
mutual
def uptoBulk {H : Type} : DataW H → Nat
  | .lit (.string bytes) => bytes.length + 1
  | .lit _ => 1
  | .nil => 1
  | .ptr d => uptoBulk d + 1
  | .slice elems spare => uptoBulkAll elems + uptoBulkAll spare + 1
  | .agg parts => uptoBulkAll parts + 1
  | .iface _ d => uptoBulk d + 1
  | .map entries => uptoBulkEntries entries + 1
  | .held _ => 1
def uptoBulkAll {H : Type} : List (DataW H) → Nat
  | [] => 0
  | d :: r => uptoBulk d + uptoBulkAll r
def uptoBulkEntries {H : Type} : List (Lit × DataW H) → Nat
  | [] => 0
  | x :: r => uptoBulkEntry x + uptoBulkEntries r
def uptoBulkEntry {H : Type} : Lit × DataW H → Nat
  | (.string bytes, d) => bytes.length + uptoBulk d + 1
  | (_, d) => uptoBulk d + 1
 end
def uptoSmall : (H : Type) → List (DataW H) → Bool := fun _ ds => decide (uptoBulkAll ds ≤ 1048576)
def OpenSpec.upto (s : _root_.Go.ChangeSpec) : _root_.Go.OpenSpec := { _root_.Go.OpenSpec.ofChange s with cond := some uptoSmall }

/-- 'sectimelaw14.EraContains', WHERE WHAT IT READS IS OF BULK AT MOST 1048576: true; the input reads as it did. -/
def eraContainsUptoRow : OpenClaim := { program := "ytcafaihnflnkfaa", sum := "ee40852f2299d17bc7d72e99c2357ccb08127a54bbe799cd5354f1998f548862", func := "sectime/sectimelaw14.EraContains", spec := "eraContains", apart := false, narrowed := true }
def EraContainsUptoSaid : Prop := eraContainsUptoRow.holds Try.pinned (OpenSpec.upto eraContainsSpec)

/-- 'sectimelaw14.EraUnfolds', WHERE WHAT IT READS IS OF BULK AT MOST 1048576: true; the input reads as it did. -/
def eraUnfoldsUptoRow : OpenClaim := { program := "ytcafaihnflnkfaa", sum := "ee40852f2299d17bc7d72e99c2357ccb08127a54bbe799cd5354f1998f548862", func := "sectime/sectimelaw14.EraUnfolds", spec := "eraUnfolds", apart := false, narrowed := true }
def EraUnfoldsUptoSaid : Prop := eraUnfoldsUptoRow.holds Try.pinned (OpenSpec.upto eraUnfoldsSpec)

/-- 'sectimelaw14.EraNear', WHERE WHAT IT READS IS OF BULK AT MOST 1048576: true; the input reads as it did. -/
def eraNearUptoRow : OpenClaim := { program := "ytcafaihnflnkfaa", sum := "ee40852f2299d17bc7d72e99c2357ccb08127a54bbe799cd5354f1998f548862", func := "sectime/sectimelaw14.EraNear", spec := "eraNear", apart := false, narrowed := true }
def EraNearUptoSaid : Prop := eraNearUptoRow.holds Try.pinned (OpenSpec.upto eraNearSpec)

/-- 'sectimelaw14.EraAhead', WHERE WHAT IT READS IS OF BULK AT MOST 1048576: true; the input reads as it did. -/
def eraAheadUptoRow : OpenClaim := { program := "ytcafaihnflnkfaa", sum := "ee40852f2299d17bc7d72e99c2357ccb08127a54bbe799cd5354f1998f548862", func := "sectime/sectimelaw14.EraAhead", spec := "eraAhead", apart := false, narrowed := true }
def EraAheadUptoSaid : Prop := eraAheadUptoRow.holds Try.pinned (OpenSpec.upto eraAheadSpec)

/-- 'sectimelaw14.EraNested', WHERE WHAT IT READS IS OF BULK AT MOST 1048576: true; the input reads as it did. -/
def eraNestedUptoRow : OpenClaim := { program := "ytcafaihnflnkfaa", sum := "ee40852f2299d17bc7d72e99c2357ccb08127a54bbe799cd5354f1998f548862", func := "sectime/sectimelaw14.EraNested", spec := "eraNested", apart := false, narrowed := true }
def EraNestedUptoSaid : Prop := eraNestedUptoRow.holds Try.pinned (OpenSpec.upto eraNestedSpec)

end Rows
end Go.Proofs.Ytcafaihnflnkfaa
