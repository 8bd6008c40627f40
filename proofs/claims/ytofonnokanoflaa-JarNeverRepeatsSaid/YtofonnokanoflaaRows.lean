/-
  No cell of these rows narrows 'for every input' (looked for: loops, veiled, ifaces, maps, wideKeys, modest, calm, conditions, laid).
  DERIVED. THE GIVEN ROWS OF THIS SEAT. 4 by the template 'for every input the law returns true; each argument reads behind the call as it read before'; 0 by the template 'total and deterministic' (their statements: YtofonnokanoflaaTotals.lean).
  GIVEN WITH THE SEED: the statements are not yours to turn. If you find one false, say at which input.
  Laid BY PROGRAM, IN A SANDBOX (cutbox-rows.mjs): the forced cells as the released guide's own fill.sh prints them over the translation 8dc9961010c5644c… (all of the seat's roots in one cut). By AI agents, Wed Nov 11 2026. No macro, syntax, notation, axiom, sorry.
-/
import Derived.Test.YtofonnokanoflaaChecked
import GoSem.Claim
import GoSem.ClaimJoined
import GoSem.ClaimMapViews
import Derived.JoinedTies
import Derived.KernelRfl
namespace Go.Proofs.Ytofonnokanoflaa
/- THE CELL 'sum', in the pinned program and in every row, IS THE sha256 OF THE DUMP (.gsa) THAT YtofonnokanoflaaProg.lean LOADS. Nothing in Lean hashes anything: it is a label: what it is worth is what the hold of that sum in a sandbox is worth. -/
noncomputable def Try.pinned : Pinned := { name := "ytofonnokanoflaa", sum := "8dc9961010c5644c1278c82ad5747d80335c8c793d777792d5cd110bd6cade5d", checked := Try.checked }
namespace Rows
def none {H : Type} : Left H := { results := [], args := [] }

/-- 'sectimelaw22.JarNeverRepeats': WHATEVER THE INPUT: true; the input reads as it did. -/
def jarNeverRepeatsSpec : ChangeSpec := { name := "jarNeverRepeats", fn := fun _ => fun
  | [d1, d2] => { results := [.lit (.bool true)], args := [d1, d2] }
  | _ => none }
def jarNeverRepeatsRow : OpenClaim := { program := "ytofonnokanoflaa", sum := "8dc9961010c5644c1278c82ad5747d80335c8c793d777792d5cd110bd6cade5d", func := "sectime/sectimelaw22.JarNeverRepeats", spec := "jarNeverRepeats", unfollowed := true, recurses := true, apart := false }
def JarNeverRepeatsSaid : Prop := jarNeverRepeatsRow.holds Try.pinned (OpenSpec.ofChange jarNeverRepeatsSpec)

/-- ITS FALSE NEIGHBOUR: 'it returns false'. Refute it at one input. -/
def jarNeverRepeatsWrong : ChangeSpec := { name := "jarNeverRepeats", fn := fun _ => fun
  | [d1, d2] => { results := [.lit (.bool false)], args := [d1, d2] }
  | _ => none }
def JarNeverRepeatsWrongFalsely : Prop := jarNeverRepeatsRow.holds Try.pinned (OpenSpec.ofChange jarNeverRepeatsWrong)

/-- 'sectimelaw22.JarForgets': WHATEVER THE INPUT: true; the input reads as it did. -/
def jarForgetsSpec : ChangeSpec := { name := "jarForgets", fn := fun _ => fun
  | [d1, d2, d3] => { results := [.lit (.bool true)], args := [d1, d2, d3] }
  | _ => none }
def jarForgetsRow : OpenClaim := { program := "ytofonnokanoflaa", sum := "8dc9961010c5644c1278c82ad5747d80335c8c793d777792d5cd110bd6cade5d", func := "sectime/sectimelaw22.JarForgets", spec := "jarForgets", unfollowed := true, recurses := true, apart := false }
def JarForgetsSaid : Prop := jarForgetsRow.holds Try.pinned (OpenSpec.ofChange jarForgetsSpec)

/-- ITS FALSE NEIGHBOUR: 'it returns false'. Refute it at one input. -/
def jarForgetsWrong : ChangeSpec := { name := "jarForgets", fn := fun _ => fun
  | [d1, d2, d3] => { results := [.lit (.bool false)], args := [d1, d2, d3] }
  | _ => none }
def JarForgetsWrongFalsely : Prop := jarForgetsRow.holds Try.pinned (OpenSpec.ofChange jarForgetsWrong)

/-- 'sectimelaw22.JarQuestions': WHATEVER THE INPUT: true; the input reads as it did. -/
def jarQuestionsSpec : ChangeSpec := { name := "jarQuestions", fn := fun _ => fun
  | [d1, d2, d3, d4, d5] => { results := [.lit (.bool true)], args := [d1, d2, d3, d4, d5] }
  | _ => none }
def jarQuestionsRow : OpenClaim := { program := "ytofonnokanoflaa", sum := "8dc9961010c5644c1278c82ad5747d80335c8c793d777792d5cd110bd6cade5d", func := "sectime/sectimelaw22.JarQuestions", spec := "jarQuestions", unfollowed := true, recurses := true, apart := false }
def JarQuestionsSaid : Prop := jarQuestionsRow.holds Try.pinned (OpenSpec.ofChange jarQuestionsSpec)

/-- ITS FALSE NEIGHBOUR: 'it returns false'. Refute it at one input. -/
def jarQuestionsWrong : ChangeSpec := { name := "jarQuestions", fn := fun _ => fun
  | [d1, d2, d3, d4, d5] => { results := [.lit (.bool false)], args := [d1, d2, d3, d4, d5] }
  | _ => none }
def JarQuestionsWrongFalsely : Prop := jarQuestionsRow.holds Try.pinned (OpenSpec.ofChange jarQuestionsWrong)

/-- 'sectimelaw22.JarKeepsOrder': WHATEVER THE INPUT: true; the input reads as it did. -/
def jarKeepsOrderSpec : ChangeSpec := { name := "jarKeepsOrder", fn := fun _ => fun
  | [d1, d2, d3] => { results := [.lit (.bool true)], args := [d1, d2, d3] }
  | _ => none }
def jarKeepsOrderRow : OpenClaim := { program := "ytofonnokanoflaa", sum := "8dc9961010c5644c1278c82ad5747d80335c8c793d777792d5cd110bd6cade5d", func := "sectime/sectimelaw22.JarKeepsOrder", spec := "jarKeepsOrder", unfollowed := true, recurses := true, apart := false }
def JarKeepsOrderSaid : Prop := jarKeepsOrderRow.holds Try.pinned (OpenSpec.ofChange jarKeepsOrderSpec)

/-- ITS FALSE NEIGHBOUR: 'it returns false'. Refute it at one input. -/
def jarKeepsOrderWrong : ChangeSpec := { name := "jarKeepsOrder", fn := fun _ => fun
  | [d1, d2, d3] => { results := [.lit (.bool false)], args := [d1, d2, d3] }
  | _ => none }
def JarKeepsOrderWrongFalsely : Prop := jarKeepsOrderRow.holds Try.pinned (OpenSpec.ofChange jarKeepsOrderWrong)

/- THE SECOND FORM. 'bulk': how many values and letters a reading holds, each counted each time it is reached (what is shared counts as often as it is met; a slice's spare places count too). A statement '..UptoSaid' is the law's where the arguments, and the package variables that the reading takes, are together of bulk at most 1048576: NARROWER than '..Said'. Prove '..Said' where nothing that the law and all that it calls make is longer than what came in: it says more and counts as full. Else prove '..UptoSaid'. A law counts once. -/
mutual
def uptoBulk {H : Type} : DataW H → Nat
  | .lit (.string bytes) => bytes.length + 1
  | .lit _ => 1
  | .nil => 1
  | .ptr d => uptoBulk d + 1
  | .slice elems spare => uptoBulkAll elems + uptoBulkAll spare + 1
  | .agg parts => uptoBulkAll parts + 1
  | .iface _ d => uptoBulk d + 1
  | .map entries => uptoBulkEntries entries + 1
  | .held _ => 1
def uptoBulkAll {H : Type} : List (DataW H) → Nat
  | [] => 0
  | d :: r => uptoBulk d + uptoBulkAll r
def uptoBulkEntries {H : Type} : List (Lit × DataW H) → Nat
  | [] => 0
  | x :: r => uptoBulkEntry x + uptoBulkEntries r
def uptoBulkEntry {H : Type} : Lit × DataW H → Nat
  | (.string bytes, d) => bytes.length + uptoBulk d + 1
  | (_, d) => uptoBulk d + 1
 end
def uptoSmall : (H : Type) → List (DataW H) → Bool := fun _ ds => decide (uptoBulkAll ds ≤ 1048576)
def OpenSpec.upto (s : _root_.Go.ChangeSpec) : _root_.Go.OpenSpec := { _root_.Go.OpenSpec.ofChange s with cond := some uptoSmall }

/-- 'sectimelaw22.JarNeverRepeats', WHERE WHAT IT READS IS OF BULK AT MOST 1048576: true; the input reads as it did. -/
def jarNeverRepeatsUptoRow : OpenClaim := { program := "ytofonnokanoflaa", sum := "8dc9961010c5644c1278c82ad5747d80335c8c793d777792d5cd110bd6cade5d", func := "sectime/sectimelaw22.JarNeverRepeats", spec := "jarNeverRepeats", unfollowed := true, recurses := true, apart := false, narrowed := true }
def JarNeverRepeatsUptoSaid : Prop := jarNeverRepeatsUptoRow.holds Try.pinned (OpenSpec.upto jarNeverRepeatsSpec)

/-- 'sectimelaw22.JarForgets', WHERE WHAT IT READS IS OF BULK AT MOST 1048576: true; the input reads as it did. -/
def jarForgetsUptoRow : OpenClaim := { program := "ytofonnokanoflaa", sum := "8dc9961010c5644c1278c82ad5747d80335c8c793d777792d5cd110bd6cade5d", func := "sectime/sectimelaw22.JarForgets", spec := "jarForgets", unfollowed := true, recurses := true, apart := false, narrowed := true }
def JarForgetsUptoSaid : Prop := jarForgetsUptoRow.holds Try.pinned (OpenSpec.upto jarForgetsSpec)

/-- 'sectimelaw22.JarQuestions', WHERE WHAT IT READS IS OF BULK AT MOST 1048576: true; the input reads as it did. -/
def jarQuestionsUptoRow : OpenClaim := { program := "ytofonnokanoflaa", sum := "8dc9961010c5644c1278c82ad5747d80335c8c793d777792d5cd110bd6cade5d", func := "sectime/sectimelaw22.JarQuestions", spec := "jarQuestions", unfollowed := true, recurses := true, apart := false, narrowed := true }
def JarQuestionsUptoSaid : Prop := jarQuestionsUptoRow.holds Try.pinned (OpenSpec.upto jarQuestionsSpec)

/-- 'sectimelaw22.JarKeepsOrder', WHERE WHAT IT READS IS OF BULK AT MOST 1048576: true; the input reads as it did. -/
def jarKeepsOrderUptoRow : OpenClaim := { program := "ytofonnokanoflaa", sum := "8dc9961010c5644c1278c82ad5747d80335c8c793d777792d5cd110bd6cade5d", func := "sectime/sectimelaw22.JarKeepsOrder", spec := "jarKeepsOrder", unfollowed := true, recurses := true, apart := false, narrowed := true }
def JarKeepsOrderUptoSaid : Prop := jarKeepsOrderUptoRow.holds Try.pinned (OpenSpec.upto jarKeepsOrderSpec)

end Rows
end Go.Proofs.Ytofonnokanoflaa
