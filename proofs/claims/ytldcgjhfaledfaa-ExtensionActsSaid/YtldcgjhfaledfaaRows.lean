/-
  No cell of these rows narrows 'for every input' (looked for: loops, veiled, ifaces, maps, wideKeys, modest, calm, conditions, laid).
  DERIVED. THE GIVEN ROWS OF THIS SEAT. 4 by the template 'for every input the law returns true; each argument reads behind the call as it read before'; 0 by the template 'total and deterministic' (their statements: YtldcgjhfaledfaaTotals.lean).
  GIVEN WITH THE SEED: the statements are not yours to turn. If you find one false, say at which input.
  Laid BY PROGRAM, IN A SANDBOX (cutbox-rows.mjs): the forced cells as the released guide's own fill.sh prints them over the translation af8d41d70c743759… (all of the seat's roots in one cut). By AI agents, Wed Nov 11 2026. No macro, syntax, notation, axiom, sorry.
-/
import Derived.Test.YtldcgjhfaledfaaChecked
import GoSem.Claim
import GoSem.ClaimJoined
import GoSem.ClaimMapViews
import Derived.JoinedTies
import Derived.KernelRfl
namespace Go.Proofs.Ytldcgjhfaledfaa
/- THE CELL 'sum', in the pinned program and in every row, IS THE sha256 OF THE DUMP (.gsa) THAT YtldcgjhfaledfaaProg.lean LOADS. Nothing in Lean hashes anything: it is a label: what it is worth is what the hold of that sum in a sandbox is worth. -/
noncomputable def Try.pinned : Pinned := { name := "ytldcgjhfaledfaa", sum := "af8d41d70c7437591e4efa5028788e8c42483e8efc9f2f41b7e89013fe221721", checked := Try.checked }
namespace Rows
def none {H : Type} : Left H := { results := [], args := [] }

/-- 'sectimelaw17.ExtensionActs': WHATEVER THE INPUT: true; the input reads as it did. -/
def extensionActsSpec : ChangeSpec := { name := "extensionActs", fn := fun _ => fun
  | [d1, d2, d3, d4] => { results := [.lit (.bool true)], args := [d1, d2, d3, d4] }
  | _ => none }
def extensionActsRow : OpenClaim := { program := "ytldcgjhfaledfaa", sum := "af8d41d70c7437591e4efa5028788e8c42483e8efc9f2f41b7e89013fe221721", func := "sectime/sectimelaw17.ExtensionActs", spec := "extensionActs", unfollowed := true, recurses := true, apart := false }
def ExtensionActsSaid : Prop := extensionActsRow.holds Try.pinned (OpenSpec.ofChange extensionActsSpec)

/-- ITS FALSE NEIGHBOUR: 'it returns false'. Refute it at one input. -/
def extensionActsWrong : ChangeSpec := { name := "extensionActs", fn := fun _ => fun
  | [d1, d2, d3, d4] => { results := [.lit (.bool false)], args := [d1, d2, d3, d4] }
  | _ => none }
def ExtensionActsWrongFalsely : Prop := extensionActsRow.holds Try.pinned (OpenSpec.ofChange extensionActsWrong)

/-- 'sectimelaw17.ExtensionReadsBack': WHATEVER THE INPUT: true; the input reads as it did. -/
def extensionReadsBackSpec : ChangeSpec := { name := "extensionReadsBack", fn := fun _ => fun
  | [d1, d2] => { results := [.lit (.bool true)], args := [d1, d2] }
  | _ => none }
def extensionReadsBackRow : OpenClaim := { program := "ytldcgjhfaledfaa", sum := "af8d41d70c7437591e4efa5028788e8c42483e8efc9f2f41b7e89013fe221721", func := "sectime/sectimelaw17.ExtensionReadsBack", spec := "extensionReadsBack", unfollowed := true, recurses := true, apart := false }
def ExtensionReadsBackSaid : Prop := extensionReadsBackRow.holds Try.pinned (OpenSpec.ofChange extensionReadsBackSpec)

/-- ITS FALSE NEIGHBOUR: 'it returns false'. Refute it at one input. -/
def extensionReadsBackWrong : ChangeSpec := { name := "extensionReadsBack", fn := fun _ => fun
  | [d1, d2] => { results := [.lit (.bool false)], args := [d1, d2] }
  | _ => none }
def ExtensionReadsBackWrongFalsely : Prop := extensionReadsBackRow.holds Try.pinned (OpenSpec.ofChange extensionReadsBackWrong)

/-- 'sectimelaw17.ExtensionJoins': WHATEVER THE INPUT: true; the input reads as it did. -/
def extensionJoinsSpec : ChangeSpec := { name := "extensionJoins", fn := fun _ => fun
  | [d1, d2] => { results := [.lit (.bool true)], args := [d1, d2] }
  | _ => none }
def extensionJoinsRow : OpenClaim := { program := "ytldcgjhfaledfaa", sum := "af8d41d70c7437591e4efa5028788e8c42483e8efc9f2f41b7e89013fe221721", func := "sectime/sectimelaw17.ExtensionJoins", spec := "extensionJoins", unfollowed := true, recurses := true, apart := false }
def ExtensionJoinsSaid : Prop := extensionJoinsRow.holds Try.pinned (OpenSpec.ofChange extensionJoinsSpec)

/-- ITS FALSE NEIGHBOUR: 'it returns false'. Refute it at one input. -/
def extensionJoinsWrong : ChangeSpec := { name := "extensionJoins", fn := fun _ => fun
  | [d1, d2] => { results := [.lit (.bool false)], args := [d1, d2] }
  | _ => none }
def ExtensionJoinsWrongFalsely : Prop := extensionJoinsRow.holds Try.pinned (OpenSpec.ofChange extensionJoinsWrong)

/-- 'sectimelaw17.ExtensionFinds': WHATEVER THE INPUT: true; the input reads as it did. -/
def extensionFindsSpec : ChangeSpec := { name := "extensionFinds", fn := fun _ => fun
  | [d1, d2, d3] => { results := [.lit (.bool true)], args := [d1, d2, d3] }
  | _ => none }
def extensionFindsRow : OpenClaim := { program := "ytldcgjhfaledfaa", sum := "af8d41d70c7437591e4efa5028788e8c42483e8efc9f2f41b7e89013fe221721", func := "sectime/sectimelaw17.ExtensionFinds", spec := "extensionFinds", apart := false }
def ExtensionFindsSaid : Prop := extensionFindsRow.holds Try.pinned (OpenSpec.ofChange extensionFindsSpec)

/-- ITS FALSE NEIGHBOUR: 'it returns false'. Refute it at one input. -/
def extensionFindsWrong : ChangeSpec := { name := "extensionFinds", fn := fun _ => fun
  | [d1, d2, d3] => { results := [.lit (.bool false)], args := [d1, d2, d3] }
  | _ => none }
def ExtensionFindsWrongFalsely : Prop := extensionFindsRow.holds Try.pinned (OpenSpec.ofChange extensionFindsWrong)

/- THE SECOND FORM. 'bulk': how many values and letters a reading holds, each counted each time it is reached (what is shared counts as often as it is met; a slice's spare places count too). A statement '..UptoSaid' is the law's where the arguments, and the package variables that the reading takes, are together of bulk at most 1048576: NARROWER than '..Said'. Prove '..Said' where nothing that the law and all that it calls make is longer than what came in: it says more and counts as full. Else prove '..UptoSaid'. A law counts once. -/
mutual
def uptoBulk {H : Type} : DataW H → Nat
  | .lit (.string bytes) => bytes.length + 1
  | .lit _ => 1
  | .nil => 1
  | .ptr d => uptoBulk d + 1
  | .slice elems spare => uptoBulkAll elems + uptoBulkAll spare + 1
  | .agg parts => uptoBulkAll parts + 1
  | .iface _ d => uptoBulk d + 1
  | .map entries => uptoBulkEntries entries + 1
  | .held _ => 1
def uptoBulkAll {H : Type} : List (DataW H) → Nat
  | [] => 0
  | d :: r => uptoBulk d + uptoBulkAll r
def uptoBulkEntries {H : Type} : List (Lit × DataW H) → Nat
  | [] => 0
  | x :: r => uptoBulkEntry x + uptoBulkEntries r
def uptoBulkEntry {H : Type} : Lit × DataW H → Nat
  | (.string bytes, d) => bytes.length + uptoBulk d + 1
  | (_, d) => uptoBulk d + 1
 end
def uptoSmall : (H : Type) → List (DataW H) → Bool := fun _ ds => decide (uptoBulkAll ds ≤ 1048576)
def OpenSpec.upto (s : _root_.Go.ChangeSpec) : _root_.Go.OpenSpec := { _root_.Go.OpenSpec.ofChange s with cond := some uptoSmall }

/-- 'sectimelaw17.ExtensionActs', WHERE WHAT IT READS IS OF BULK AT MOST 1048576: true; the input reads as it did. -/
def extensionActsUptoRow : OpenClaim := { program := "ytldcgjhfaledfaa", sum := "af8d41d70c7437591e4efa5028788e8c42483e8efc9f2f41b7e89013fe221721", func := "sectime/sectimelaw17.ExtensionActs", spec := "extensionActs", unfollowed := true, recurses := true, apart := false, narrowed := true }
def ExtensionActsUptoSaid : Prop := extensionActsUptoRow.holds Try.pinned (OpenSpec.upto extensionActsSpec)

/-- 'sectimelaw17.ExtensionReadsBack', WHERE WHAT IT READS IS OF BULK AT MOST 1048576: true; the input reads as it did. -/
def extensionReadsBackUptoRow : OpenClaim := { program := "ytldcgjhfaledfaa", sum := "af8d41d70c7437591e4efa5028788e8c42483e8efc9f2f41b7e89013fe221721", func := "sectime/sectimelaw17.ExtensionReadsBack", spec := "extensionReadsBack", unfollowed := true, recurses := true, apart := false, narrowed := true }
def ExtensionReadsBackUptoSaid : Prop := extensionReadsBackUptoRow.holds Try.pinned (OpenSpec.upto extensionReadsBackSpec)

/-- 'sectimelaw17.ExtensionJoins', WHERE WHAT IT READS IS OF BULK AT MOST 1048576: true; the input reads as it did. -/
def extensionJoinsUptoRow : OpenClaim := { program := "ytldcgjhfaledfaa", sum := "af8d41d70c7437591e4efa5028788e8c42483e8efc9f2f41b7e89013fe221721", func := "sectime/sectimelaw17.ExtensionJoins", spec := "extensionJoins", unfollowed := true, recurses := true, apart := false, narrowed := true }
def ExtensionJoinsUptoSaid : Prop := extensionJoinsUptoRow.holds Try.pinned (OpenSpec.upto extensionJoinsSpec)

/-- 'sectimelaw17.ExtensionFinds', WHERE WHAT IT READS IS OF BULK AT MOST 1048576: true; the input reads as it did. -/
def extensionFindsUptoRow : OpenClaim := { program := "ytldcgjhfaledfaa", sum := "af8d41d70c7437591e4efa5028788e8c42483e8efc9f2f41b7e89013fe221721", func := "sectime/sectimelaw17.ExtensionFinds", spec := "extensionFinds", apart := false, narrowed := true }
def ExtensionFindsUptoSaid : Prop := extensionFindsUptoRow.holds Try.pinned (OpenSpec.upto extensionFindsSpec)

end Rows
end Go.Proofs.Ytldcgjhfaledfaa
