/-
  No cell of these rows narrows 'for every input' (looked for: loops, veiled, ifaces, maps, wideKeys, modest, calm, conditions, laid).
  DERIVED. THE GIVEN ROWS OF THIS SEAT. 4 by the template 'for every input the law returns true; each argument reads behind the call as it read before'; 0 by the template 'total and deterministic' (their statements: YtipjekggnanffaaTotals.lean).
  GIVEN WITH THE SEED: the statements are not yours to turn. If you find one false, say at which input.
  Laid BY PROGRAM, IN A SANDBOX (cutbox-rows.mjs): the forced cells as the released guide's own fill.sh prints them over the translation 9544ddb0bb1c08b9… (all of the seat's roots in one cut). By AI agents, Wed Nov 11 2026. No macro, syntax, notation, axiom, sorry.
-/
import Derived.Test.YtipjekggnanffaaChecked
import GoSem.Claim
import GoSem.ClaimJoined
import GoSem.ClaimMapViews
import Derived.JoinedTies
import Derived.KernelRfl
namespace Go.Proofs.Ytipjekggnanffaa
/- THE CELL 'sum', in the pinned program and in every row, IS THE sha256 OF THE DUMP (.gsa) THAT YtipjekggnanffaaProg.lean LOADS. Nothing in Lean hashes anything: it is a label: what it is worth is what the hold of that sum in a sandbox is worth. -/
noncomputable def Try.pinned : Pinned := { name := "ytipjekggnanffaa", sum := "9544ddb0bb1c08b9c8e7580c37fb3b855818ce13435d2e364a6a4d51f5b1fb93", checked := Try.checked }
namespace Rows
def none {H : Type} : Left H := { results := [], args := [] }

/-- 'sectimelaw06.AeadActs': WHATEVER THE INPUT: true; the input reads as it did. -/
def aeadActsSpec : ChangeSpec := { name := "aeadActs", fn := fun _ => fun
  | [d1, d2, d3] => { results := [.lit (.bool true)], args := [d1, d2, d3] }
  | _ => none }
def aeadActsRow : OpenClaim := { program := "ytipjekggnanffaa", sum := "9544ddb0bb1c08b9c8e7580c37fb3b855818ce13435d2e364a6a4d51f5b1fb93", func := "sectime/sectimelaw06.AeadActs", spec := "aeadActs", unfollowed := true, recurses := true, apart := false }
def AeadActsSaid : Prop := aeadActsRow.holds Try.pinned (OpenSpec.ofChange aeadActsSpec)

/-- ITS FALSE NEIGHBOUR: 'it returns false'. Refute it at one input. -/
def aeadActsWrong : ChangeSpec := { name := "aeadActs", fn := fun _ => fun
  | [d1, d2, d3] => { results := [.lit (.bool false)], args := [d1, d2, d3] }
  | _ => none }
def AeadActsWrongFalsely : Prop := aeadActsRow.holds Try.pinned (OpenSpec.ofChange aeadActsWrong)

/-- 'sectimelaw06.AeadOpens': WHATEVER THE INPUT: true; the input reads as it did. -/
def aeadOpensSpec : ChangeSpec := { name := "aeadOpens", fn := fun _ => fun
  | [d1, d2, d3] => { results := [.lit (.bool true)], args := [d1, d2, d3] }
  | _ => none }
def aeadOpensRow : OpenClaim := { program := "ytipjekggnanffaa", sum := "9544ddb0bb1c08b9c8e7580c37fb3b855818ce13435d2e364a6a4d51f5b1fb93", func := "sectime/sectimelaw06.AeadOpens", spec := "aeadOpens", unfollowed := true, recurses := true, apart := false }
def AeadOpensSaid : Prop := aeadOpensRow.holds Try.pinned (OpenSpec.ofChange aeadOpensSpec)

/-- ITS FALSE NEIGHBOUR: 'it returns false'. Refute it at one input. -/
def aeadOpensWrong : ChangeSpec := { name := "aeadOpens", fn := fun _ => fun
  | [d1, d2, d3] => { results := [.lit (.bool false)], args := [d1, d2, d3] }
  | _ => none }
def AeadOpensWrongFalsely : Prop := aeadOpensRow.holds Try.pinned (OpenSpec.ofChange aeadOpensWrong)

/-- 'sectimelaw06.AeadParts': WHATEVER THE INPUT: true; the input reads as it did. -/
def aeadPartsSpec : ChangeSpec := { name := "aeadParts", fn := fun _ => fun
  | [d1, d2, d3] => { results := [.lit (.bool true)], args := [d1, d2, d3] }
  | _ => none }
def aeadPartsRow : OpenClaim := { program := "ytipjekggnanffaa", sum := "9544ddb0bb1c08b9c8e7580c37fb3b855818ce13435d2e364a6a4d51f5b1fb93", func := "sectime/sectimelaw06.AeadParts", spec := "aeadParts", unfollowed := true, recurses := true, apart := false }
def AeadPartsSaid : Prop := aeadPartsRow.holds Try.pinned (OpenSpec.ofChange aeadPartsSpec)

/-- ITS FALSE NEIGHBOUR: 'it returns false'. Refute it at one input. -/
def aeadPartsWrong : ChangeSpec := { name := "aeadParts", fn := fun _ => fun
  | [d1, d2, d3] => { results := [.lit (.bool false)], args := [d1, d2, d3] }
  | _ => none }
def AeadPartsWrongFalsely : Prop := aeadPartsRow.holds Try.pinned (OpenSpec.ofChange aeadPartsWrong)

/-- 'sectimelaw06.AeadRefuses': WHATEVER THE INPUT: true; the input reads as it did. -/
def aeadRefusesSpec : ChangeSpec := { name := "aeadRefuses", fn := fun _ => fun
  | [d1, d2, d3, d4, d5] => { results := [.lit (.bool true)], args := [d1, d2, d3, d4, d5] }
  | _ => none }
def aeadRefusesRow : OpenClaim := { program := "ytipjekggnanffaa", sum := "9544ddb0bb1c08b9c8e7580c37fb3b855818ce13435d2e364a6a4d51f5b1fb93", func := "sectime/sectimelaw06.AeadRefuses", spec := "aeadRefuses", unfollowed := true, recurses := true, apart := false }
def AeadRefusesSaid : Prop := aeadRefusesRow.holds Try.pinned (OpenSpec.ofChange aeadRefusesSpec)

/-- ITS FALSE NEIGHBOUR: 'it returns false'. Refute it at one input. -/
def aeadRefusesWrong : ChangeSpec := { name := "aeadRefuses", fn := fun _ => fun
  | [d1, d2, d3, d4, d5] => { results := [.lit (.bool false)], args := [d1, d2, d3, d4, d5] }
  | _ => none }
def AeadRefusesWrongFalsely : Prop := aeadRefusesRow.holds Try.pinned (OpenSpec.ofChange aeadRefusesWrong)

/- THE SECOND FORM. 'bulk': how many values and letters a reading holds, each counted each time it is reached (what is shared counts as often as it is met; a slice's spare places count too). A statement '..UptoSaid' is the law's where the arguments, and the package variables that the reading takes, are together of bulk at most 1048576: NARROWER than '..Said'. Prove '..Said' where nothing that the law and all that it calls make is longer than what came in: it says more and counts as full. Else prove '..UptoSaid'. A law counts once. -/
mutual
def uptoBulk {H : Type} : DataW H → Nat
  | .lit (.string bytes) => bytes.length + 1
  | .lit _ => 1
  | .nil => 1
  | .ptr d => uptoBulk d + 1
  | .slice elems spare => uptoBulkAll elems + uptoBulkAll spare + 1
  | .agg parts => uptoBulkAll parts + 1
  | .iface _ d => uptoBulk d + 1
  | .map entries => uptoBulkEntries entries + 1
  | .held _ => 1
def uptoBulkAll {H : Type} : List (DataW H) → Nat
  | [] => 0
  | d :: r => uptoBulk d + uptoBulkAll r
def uptoBulkEntries {H : Type} : List (Lit × DataW H) → Nat
  | [] => 0
  | x :: r => uptoBulkEntry x + uptoBulkEntries r
def uptoBulkEntry {H : Type} : Lit × DataW H → Nat
  | (.string bytes, d) => bytes.length + uptoBulk d + 1
  | (_, d) => uptoBulk d + 1
 end
def uptoSmall : (H : Type) → List (DataW H) → Bool := fun _ ds => decide (uptoBulkAll ds ≤ 1048576)
def OpenSpec.upto (s : _root_.Go.ChangeSpec) : _root_.Go.OpenSpec := { _root_.Go.OpenSpec.ofChange s with cond := some uptoSmall }

/-- 'sectimelaw06.AeadActs', WHERE WHAT IT READS IS OF BULK AT MOST 1048576: true; the input reads as it did. -/
def aeadActsUptoRow : OpenClaim := { program := "ytipjekggnanffaa", sum := "9544ddb0bb1c08b9c8e7580c37fb3b855818ce13435d2e364a6a4d51f5b1fb93", func := "sectime/sectimelaw06.AeadActs", spec := "aeadActs", unfollowed := true, recurses := true, apart := false, narrowed := true }
def AeadActsUptoSaid : Prop := aeadActsUptoRow.holds Try.pinned (OpenSpec.upto aeadActsSpec)

/-- 'sectimelaw06.AeadOpens', WHERE WHAT IT READS IS OF BULK AT MOST 1048576: true; the input reads as it did. -/
def aeadOpensUptoRow : OpenClaim := { program := "ytipjekggnanffaa", sum := "9544ddb0bb1c08b9c8e7580c37fb3b855818ce13435d2e364a6a4d51f5b1fb93", func := "sectime/sectimelaw06.AeadOpens", spec := "aeadOpens", unfollowed := true, recurses := true, apart := false, narrowed := true }
def AeadOpensUptoSaid : Prop := aeadOpensUptoRow.holds Try.pinned (OpenSpec.upto aeadOpensSpec)

/-- 'sectimelaw06.AeadParts', WHERE WHAT IT READS IS OF BULK AT MOST 1048576: true; the input reads as it did. -/
def aeadPartsUptoRow : OpenClaim := { program := "ytipjekggnanffaa", sum := "9544ddb0bb1c08b9c8e7580c37fb3b855818ce13435d2e364a6a4d51f5b1fb93", func := "sectime/sectimelaw06.AeadParts", spec := "aeadParts", unfollowed := true, recurses := true, apart := false, narrowed := true }
def AeadPartsUptoSaid : Prop := aeadPartsUptoRow.holds Try.pinned (OpenSpec.upto aeadPartsSpec)

/-- 'sectimelaw06.AeadRefuses', WHERE WHAT IT READS IS OF BULK AT MOST 1048576: true; the input reads as it did. -/
def aeadRefusesUptoRow : OpenClaim := { program := "ytipjekggnanffaa", sum := "9544ddb0bb1c08b9c8e7580c37fb3b855818ce13435d2e364a6a4d51f5b1fb93", func := "sectime/sectimelaw06.AeadRefuses", spec := "aeadRefuses", unfollowed := true, recurses := true, apart := false, narrowed := true }
def AeadRefusesUptoSaid : Prop := aeadRefusesUptoRow.holds Try.pinned (OpenSpec.upto aeadRefusesSpec)

end Rows
end Go.Proofs.Ytipjekggnanffaa
