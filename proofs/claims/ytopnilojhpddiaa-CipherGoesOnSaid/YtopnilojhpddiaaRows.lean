/-
  No cell of these rows narrows 'for every input' (looked for: loops, veiled, ifaces, maps, wideKeys, modest, calm, conditions, laid).
  DERIVED. THE GIVEN ROWS OF THIS SEAT. 5 by the template 'for every input the law returns true; each argument reads behind the call as it read before'; 0 by the template 'total and deterministic' (their statements: YtopnilojhpddiaaTotals.lean).
  GIVEN WITH THE SEED: the statements are not yours to turn. If you find one false, say at which input.
  Laid BY PROGRAM, IN A SANDBOX (cutbox-rows.mjs): the forced cells as the released guide's own fill.sh prints them over the translation 136f2b3adbb8a2a8… (all of the seat's roots in one cut). By AI agents, Wed Nov 11 2026. No macro, syntax, notation, axiom, sorry.
-/
import Derived.Test.YtopnilojhpddiaaChecked
import GoSem.Claim
import GoSem.ClaimJoined
import GoSem.ClaimMapViews
import Derived.JoinedTies
import Derived.KernelRfl
namespace Go.Proofs.Ytopnilojhpddiaa
/- THE CELL 'sum', in the pinned program and in every row, IS THE sha256 OF THE DUMP (.gsa) THAT YtopnilojhpddiaaProg.lean LOADS. Nothing in Lean hashes anything: it is a label: what it is worth is what the hold of that sum in a sandbox is worth. -/
noncomputable def Try.pinned : Pinned := { name := "ytopnilojhpddiaa", sum := "136f2b3adbb8a2a8d71bafe65acd7fbc597a9e9f7f26acac754b666c65c42f88", checked := Try.checked }
namespace Rows
def none {H : Type} : Left H := { results := [], args := [] }

/-- 'sectimelaw04.CipherActs': WHATEVER THE INPUT: true; the input reads as it did. -/
def cipherActsSpec : ChangeSpec := { name := "cipherActs", fn := fun _ => fun
  | [d1, d2, d3] => { results := [.lit (.bool true)], args := [d1, d2, d3] }
  | _ => none }
def cipherActsRow : OpenClaim := { program := "ytopnilojhpddiaa", sum := "136f2b3adbb8a2a8d71bafe65acd7fbc597a9e9f7f26acac754b666c65c42f88", func := "sectime/sectimelaw04.CipherActs", spec := "cipherActs", unfollowed := true, recurses := true, apart := false }
def CipherActsSaid : Prop := cipherActsRow.holds Try.pinned (OpenSpec.ofChange cipherActsSpec)

/-- ITS FALSE NEIGHBOUR: 'it returns false'. Refute it at one input. -/
def cipherActsWrong : ChangeSpec := { name := "cipherActs", fn := fun _ => fun
  | [d1, d2, d3] => { results := [.lit (.bool false)], args := [d1, d2, d3] }
  | _ => none }
def CipherActsWrongFalsely : Prop := cipherActsRow.holds Try.pinned (OpenSpec.ofChange cipherActsWrong)

/-- 'sectimelaw04.CipherBytes': WHATEVER THE INPUT: true; the input reads as it did. -/
def cipherBytesSpec : ChangeSpec := { name := "cipherBytes", fn := fun _ => fun
  | [d1, d2, d3] => { results := [.lit (.bool true)], args := [d1, d2, d3] }
  | _ => none }
def cipherBytesRow : OpenClaim := { program := "ytopnilojhpddiaa", sum := "136f2b3adbb8a2a8d71bafe65acd7fbc597a9e9f7f26acac754b666c65c42f88", func := "sectime/sectimelaw04.CipherBytes", spec := "cipherBytes", apart := false }
def CipherBytesSaid : Prop := cipherBytesRow.holds Try.pinned (OpenSpec.ofChange cipherBytesSpec)

/-- ITS FALSE NEIGHBOUR: 'it returns false'. Refute it at one input. -/
def cipherBytesWrong : ChangeSpec := { name := "cipherBytes", fn := fun _ => fun
  | [d1, d2, d3] => { results := [.lit (.bool false)], args := [d1, d2, d3] }
  | _ => none }
def CipherBytesWrongFalsely : Prop := cipherBytesRow.holds Try.pinned (OpenSpec.ofChange cipherBytesWrong)

/-- 'sectimelaw04.CipherUndoes': WHATEVER THE INPUT: true; the input reads as it did. -/
def cipherUndoesSpec : ChangeSpec := { name := "cipherUndoes", fn := fun _ => fun
  | [d1, d2] => { results := [.lit (.bool true)], args := [d1, d2] }
  | _ => none }
def cipherUndoesRow : OpenClaim := { program := "ytopnilojhpddiaa", sum := "136f2b3adbb8a2a8d71bafe65acd7fbc597a9e9f7f26acac754b666c65c42f88", func := "sectime/sectimelaw04.CipherUndoes", spec := "cipherUndoes", unfollowed := true, recurses := true, apart := false }
def CipherUndoesSaid : Prop := cipherUndoesRow.holds Try.pinned (OpenSpec.ofChange cipherUndoesSpec)

/-- ITS FALSE NEIGHBOUR: 'it returns false'. Refute it at one input. -/
def cipherUndoesWrong : ChangeSpec := { name := "cipherUndoes", fn := fun _ => fun
  | [d1, d2] => { results := [.lit (.bool false)], args := [d1, d2] }
  | _ => none }
def CipherUndoesWrongFalsely : Prop := cipherUndoesRow.holds Try.pinned (OpenSpec.ofChange cipherUndoesWrong)

/-- 'sectimelaw04.CipherGoesOn': WHATEVER THE INPUT: true; the input reads as it did. -/
def cipherGoesOnSpec : ChangeSpec := { name := "cipherGoesOn", fn := fun _ => fun
  | [d1, d2, d3, d4] => { results := [.lit (.bool true)], args := [d1, d2, d3, d4] }
  | _ => none }
def cipherGoesOnRow : OpenClaim := { program := "ytopnilojhpddiaa", sum := "136f2b3adbb8a2a8d71bafe65acd7fbc597a9e9f7f26acac754b666c65c42f88", func := "sectime/sectimelaw04.CipherGoesOn", spec := "cipherGoesOn", unfollowed := true, recurses := true, apart := false }
def CipherGoesOnSaid : Prop := cipherGoesOnRow.holds Try.pinned (OpenSpec.ofChange cipherGoesOnSpec)

/-- ITS FALSE NEIGHBOUR: 'it returns false'. Refute it at one input. -/
def cipherGoesOnWrong : ChangeSpec := { name := "cipherGoesOn", fn := fun _ => fun
  | [d1, d2, d3, d4] => { results := [.lit (.bool false)], args := [d1, d2, d3, d4] }
  | _ => none }
def CipherGoesOnWrongFalsely : Prop := cipherGoesOnRow.holds Try.pinned (OpenSpec.ofChange cipherGoesOnWrong)

/-- 'sectimelaw04.CipherPermutes': WHATEVER THE INPUT: true; the input reads as it did. -/
def cipherPermutesSpec : ChangeSpec := { name := "cipherPermutes", fn := fun _ => fun
  | [d1, d2, d3] => { results := [.lit (.bool true)], args := [d1, d2, d3] }
  | _ => none }
def cipherPermutesRow : OpenClaim := { program := "ytopnilojhpddiaa", sum := "136f2b3adbb8a2a8d71bafe65acd7fbc597a9e9f7f26acac754b666c65c42f88", func := "sectime/sectimelaw04.CipherPermutes", spec := "cipherPermutes", apart := false }
def CipherPermutesSaid : Prop := cipherPermutesRow.holds Try.pinned (OpenSpec.ofChange cipherPermutesSpec)

/-- ITS FALSE NEIGHBOUR: 'it returns false'. Refute it at one input. -/
def cipherPermutesWrong : ChangeSpec := { name := "cipherPermutes", fn := fun _ => fun
  | [d1, d2, d3] => { results := [.lit (.bool false)], args := [d1, d2, d3] }
  | _ => none }
def CipherPermutesWrongFalsely : Prop := cipherPermutesRow.holds Try.pinned (OpenSpec.ofChange cipherPermutesWrong)

/- THE SECOND FORM. 'bulk': how many values and letters a reading holds, each counted each time it is reached (what is shared counts as often as it is met; a slice's spare places count too). A statement '..UptoSaid' is the law's where the arguments, and the package variables that the reading takes, are together of bulk at most 1048576: NARROWER than '..Said'. Prove '..Said' where nothing that the law and all that it calls make is longer than what came in: it says more and counts as full. Else prove '..UptoSaid'. A law counts once. -/
mutual
def uptoBulk {H : Type} : DataW H → Nat
  | .lit (.string bytes) => bytes.length + 1
  | .lit _ => 1
  | .nil => 1
  | .ptr d => uptoBulk d + 1
  | .slice elems spare => uptoBulkAll elems + uptoBulkAll spare + 1
  | .agg parts => uptoBulkAll parts + 1
  | .iface _ d => uptoBulk d + 1
  | .map entries => uptoBulkEntries entries + 1
  | .held _ => 1
def uptoBulkAll {H : Type} : List (DataW H) → Nat
  | [] => 0
  | d :: r => uptoBulk d + uptoBulkAll r
def uptoBulkEntries {H : Type} : List (Lit × DataW H) → Nat
  | [] => 0
  | x :: r => uptoBulkEntry x + uptoBulkEntries r
def uptoBulkEntry {H : Type} : Lit × DataW H → Nat
  | (.string bytes, d) => bytes.length + uptoBulk d + 1
  | (_, d) => uptoBulk d + 1
 end
def uptoSmall : (H : Type) → List (DataW H) → Bool := fun _ ds => decide (uptoBulkAll ds ≤ 1048576)
def OpenSpec.upto (s : _root_.Go.ChangeSpec) : _root_.Go.OpenSpec := { _root_.Go.OpenSpec.ofChange s with cond := some uptoSmall }

/-- 'sectimelaw04.CipherActs', WHERE WHAT IT READS IS OF BULK AT MOST 1048576: true; the input reads as it did. -/
def cipherActsUptoRow : OpenClaim := { program := "ytopnilojhpddiaa", sum := "136f2b3adbb8a2a8d71bafe65acd7fbc597a9e9f7f26acac754b666c65c42f88", func := "sectime/sectimelaw04.CipherActs", spec := "cipherActs", unfollowed := true, recurses := true, apart := false, narrowed := true }
def CipherActsUptoSaid : Prop := cipherActsUptoRow.holds Try.pinned (OpenSpec.upto cipherActsSpec)

/-- 'sectimelaw04.CipherBytes', WHERE WHAT IT READS IS OF BULK AT MOST 1048576: true; the input reads as it did. -/
def cipherBytesUptoRow : OpenClaim := { program := "ytopnilojhpddiaa", sum := "136f2b3adbb8a2a8d71bafe65acd7fbc597a9e9f7f26acac754b666c65c42f88", func := "sectime/sectimelaw04.CipherBytes", spec := "cipherBytes", apart := false, narrowed := true }
def CipherBytesUptoSaid : Prop := cipherBytesUptoRow.holds Try.pinned (OpenSpec.upto cipherBytesSpec)

/-- 'sectimelaw04.CipherUndoes', WHERE WHAT IT READS IS OF BULK AT MOST 1048576: true; the input reads as it did. -/
def cipherUndoesUptoRow : OpenClaim := { program := "ytopnilojhpddiaa", sum := "136f2b3adbb8a2a8d71bafe65acd7fbc597a9e9f7f26acac754b666c65c42f88", func := "sectime/sectimelaw04.CipherUndoes", spec := "cipherUndoes", unfollowed := true, recurses := true, apart := false, narrowed := true }
def CipherUndoesUptoSaid : Prop := cipherUndoesUptoRow.holds Try.pinned (OpenSpec.upto cipherUndoesSpec)

/-- 'sectimelaw04.CipherGoesOn', WHERE WHAT IT READS IS OF BULK AT MOST 1048576: true; the input reads as it did. -/
def cipherGoesOnUptoRow : OpenClaim := { program := "ytopnilojhpddiaa", sum := "136f2b3adbb8a2a8d71bafe65acd7fbc597a9e9f7f26acac754b666c65c42f88", func := "sectime/sectimelaw04.CipherGoesOn", spec := "cipherGoesOn", unfollowed := true, recurses := true, apart := false, narrowed := true }
def CipherGoesOnUptoSaid : Prop := cipherGoesOnUptoRow.holds Try.pinned (OpenSpec.upto cipherGoesOnSpec)

/-- 'sectimelaw04.CipherPermutes', WHERE WHAT IT READS IS OF BULK AT MOST 1048576: true; the input reads as it did. -/
def cipherPermutesUptoRow : OpenClaim := { program := "ytopnilojhpddiaa", sum := "136f2b3adbb8a2a8d71bafe65acd7fbc597a9e9f7f26acac754b666c65c42f88", func := "sectime/sectimelaw04.CipherPermutes", spec := "cipherPermutes", apart := false, narrowed := true }
def CipherPermutesUptoSaid : Prop := cipherPermutesUptoRow.holds Try.pinned (OpenSpec.upto cipherPermutesSpec)

end Rows
end Go.Proofs.Ytopnilojhpddiaa
