/-
  No cell of these rows narrows 'for every input' (looked for: loops, veiled, ifaces, maps, wideKeys, modest, calm, conditions, laid).
  DERIVED. THE GIVEN ROWS OF THIS SEAT. 5 by the template 'for every input the law returns true; each argument reads behind the call as it read before'; 0 by the template 'total and deterministic' (their statements: YtibpaciljnfpmaaTotals.lean).
  GIVEN WITH THE SEED: the statements are not yours to turn. If you find one false, say at which input.
  Laid BY PROGRAM, IN A SANDBOX (cutbox-rows.mjs): the forced cells as the released guide's own fill.sh prints them over the translation ce90610c0bac7a8f… (all of the seat's roots in one cut). By AI agents, Wed Nov 11 2026. No macro, syntax, notation, axiom, sorry.
-/
import Derived.Test.YtibpaciljnfpmaaChecked
import GoSem.Claim
import GoSem.ClaimJoined
import GoSem.ClaimMapViews
import Derived.JoinedTies
import Derived.KernelRfl
namespace Go.Proofs.Ytibpaciljnfpmaa
/- THE CELL 'sum', in the pinned program and in every row, IS THE sha256 OF THE DUMP (.gsa) THAT YtibpaciljnfpmaaProg.lean LOADS. Nothing in Lean hashes anything: it is a label: what it is worth is what the hold of that sum in a sandbox is worth. -/
noncomputable def Try.pinned : Pinned := { name := "ytibpaciljnfpmaa", sum := "ce90610c0bac7a8f32aab6b325a79e949a48ca1f741d1a89b1f01c91598c678c", checked := Try.checked }
namespace Rows
def none {H : Type} : Left H := { results := [], args := [] }

/-- 'sectimelaw13.SmearActs': WHATEVER THE INPUT: true; the input reads as it did. -/
def smearActsSpec : ChangeSpec := { name := "smearActs", fn := fun _ => fun
  | [d1, d2, d3, d4] => { results := [.lit (.bool true)], args := [d1, d2, d3, d4] }
  | _ => none }
def smearActsRow : OpenClaim := { program := "ytibpaciljnfpmaa", sum := "ce90610c0bac7a8f32aab6b325a79e949a48ca1f741d1a89b1f01c91598c678c", func := "sectime/sectimelaw13.SmearActs", spec := "smearActs", unfollowed := true, recurses := true, apart := false }
def SmearActsSaid : Prop := smearActsRow.holds Try.pinned (OpenSpec.ofChange smearActsSpec)

/-- ITS FALSE NEIGHBOUR: 'it returns false'. Refute it at one input. -/
def smearActsWrong : ChangeSpec := { name := "smearActs", fn := fun _ => fun
  | [d1, d2, d3, d4] => { results := [.lit (.bool false)], args := [d1, d2, d3, d4] }
  | _ => none }
def SmearActsWrongFalsely : Prop := smearActsRow.holds Try.pinned (OpenSpec.ofChange smearActsWrong)

/-- 'sectimelaw13.SmearNear': WHATEVER THE INPUT: true; the input reads as it did. -/
def smearNearSpec : ChangeSpec := { name := "smearNear", fn := fun _ => fun
  | [d1, d2] => { results := [.lit (.bool true)], args := [d1, d2] }
  | _ => none }
def smearNearRow : OpenClaim := { program := "ytibpaciljnfpmaa", sum := "ce90610c0bac7a8f32aab6b325a79e949a48ca1f741d1a89b1f01c91598c678c", func := "sectime/sectimelaw13.SmearNear", spec := "smearNear", unfollowed := true, recurses := true, apart := false }
def SmearNearSaid : Prop := smearNearRow.holds Try.pinned (OpenSpec.ofChange smearNearSpec)

/-- ITS FALSE NEIGHBOUR: 'it returns false'. Refute it at one input. -/
def smearNearWrong : ChangeSpec := { name := "smearNear", fn := fun _ => fun
  | [d1, d2] => { results := [.lit (.bool false)], args := [d1, d2] }
  | _ => none }
def SmearNearWrongFalsely : Prop := smearNearRow.holds Try.pinned (OpenSpec.ofChange smearNearWrong)

/-- 'sectimelaw13.SmearContains': WHATEVER THE INPUT: true; the input reads as it did. -/
def smearContainsSpec : ChangeSpec := { name := "smearContains", fn := fun _ => fun
  | [d1, d2] => { results := [.lit (.bool true)], args := [d1, d2] }
  | _ => none }
def smearContainsRow : OpenClaim := { program := "ytibpaciljnfpmaa", sum := "ce90610c0bac7a8f32aab6b325a79e949a48ca1f741d1a89b1f01c91598c678c", func := "sectime/sectimelaw13.SmearContains", spec := "smearContains", unfollowed := true, recurses := true, apart := false }
def SmearContainsSaid : Prop := smearContainsRow.holds Try.pinned (OpenSpec.ofChange smearContainsSpec)

/-- ITS FALSE NEIGHBOUR: 'it returns false'. Refute it at one input. -/
def smearContainsWrong : ChangeSpec := { name := "smearContains", fn := fun _ => fun
  | [d1, d2] => { results := [.lit (.bool false)], args := [d1, d2] }
  | _ => none }
def SmearContainsWrongFalsely : Prop := smearContainsRow.holds Try.pinned (OpenSpec.ofChange smearContainsWrong)

/-- 'sectimelaw13.SmearNeverFalls': WHATEVER THE INPUT: true; the input reads as it did. -/
def smearNeverFallsSpec : ChangeSpec := { name := "smearNeverFalls", fn := fun _ => fun
  | [d1, d2, d3] => { results := [.lit (.bool true)], args := [d1, d2, d3] }
  | _ => none }
def smearNeverFallsRow : OpenClaim := { program := "ytibpaciljnfpmaa", sum := "ce90610c0bac7a8f32aab6b325a79e949a48ca1f741d1a89b1f01c91598c678c", func := "sectime/sectimelaw13.SmearNeverFalls", spec := "smearNeverFalls", unfollowed := true, recurses := true, apart := false }
def SmearNeverFallsSaid : Prop := smearNeverFallsRow.holds Try.pinned (OpenSpec.ofChange smearNeverFallsSpec)

/-- ITS FALSE NEIGHBOUR: 'it returns false'. Refute it at one input. -/
def smearNeverFallsWrong : ChangeSpec := { name := "smearNeverFalls", fn := fun _ => fun
  | [d1, d2, d3] => { results := [.lit (.bool false)], args := [d1, d2, d3] }
  | _ => none }
def SmearNeverFallsWrongFalsely : Prop := smearNeverFallsRow.holds Try.pinned (OpenSpec.ofChange smearNeverFallsWrong)

/-- 'sectimelaw13.SmearIsNearUTC': WHATEVER THE INPUT: true; the input reads as it did. -/
def smearIsNearUTCSpec : ChangeSpec := { name := "smearIsNearUTC", fn := fun _ => fun
  | [d1, d2] => { results := [.lit (.bool true)], args := [d1, d2] }
  | _ => none }
def smearIsNearUTCRow : OpenClaim := { program := "ytibpaciljnfpmaa", sum := "ce90610c0bac7a8f32aab6b325a79e949a48ca1f741d1a89b1f01c91598c678c", func := "sectime/sectimelaw13.SmearIsNearUTC", spec := "smearIsNearUTC", unfollowed := true, recurses := true, apart := false }
def SmearIsNearUTCSaid : Prop := smearIsNearUTCRow.holds Try.pinned (OpenSpec.ofChange smearIsNearUTCSpec)

/-- ITS FALSE NEIGHBOUR: 'it returns false'. Refute it at one input. -/
def smearIsNearUTCWrong : ChangeSpec := { name := "smearIsNearUTC", fn := fun _ => fun
  | [d1, d2] => { results := [.lit (.bool false)], args := [d1, d2] }
  | _ => none }
def SmearIsNearUTCWrongFalsely : Prop := smearIsNearUTCRow.holds Try.pinned (OpenSpec.ofChange smearIsNearUTCWrong)

/- THE SECOND FORM. 'bulk': how many values and letters a reading holds, each counted each time it is reached (what is shared counts as often as it is met; a slice's spare places count too). A statement '..UptoSaid' is the law's where the arguments, and the package variables that the reading takes, are together of bulk at most 1048576: NARROWER than '..Said'. Prove '..Said' where nothing that the law and all that it calls make is longer than what came in: it says more and counts as full. Else prove '..UptoSaid'. A law counts once. -/
mutual
def uptoBulk {H : Type} : DataW H → Nat
  | .lit (.string bytes) => bytes.length + 1
  | .lit _ => 1
  | .nil => 1
  | .ptr d => uptoBulk d + 1
  | .slice elems spare => uptoBulkAll elems + uptoBulkAll spare + 1
  | .agg parts => uptoBulkAll parts + 1
  | .iface _ d => uptoBulk d + 1
  | .map entries => uptoBulkEntries entries + 1
  | .held _ => 1
def uptoBulkAll {H : Type} : List (DataW H) → Nat
  | [] => 0
  | d :: r => uptoBulk d + uptoBulkAll r
def uptoBulkEntries {H : Type} : List (Lit × DataW H) → Nat
  | [] => 0
  | x :: r => uptoBulkEntry x + uptoBulkEntries r
def uptoBulkEntry {H : Type} : Lit × DataW H → Nat
  | (.string bytes, d) => bytes.length + uptoBulk d + 1
  | (_, d) => uptoBulk d + 1
 end
def uptoSmall : (H : Type) → List (DataW H) → Bool := fun _ ds => decide (uptoBulkAll ds ≤ 1048576)
def OpenSpec.upto (s : _root_.Go.ChangeSpec) : _root_.Go.OpenSpec := { _root_.Go.OpenSpec.ofChange s with cond := some uptoSmall }

/-- 'sectimelaw13.SmearActs', WHERE WHAT IT READS IS OF BULK AT MOST 1048576: true; the input reads as it did. -/
def smearActsUptoRow : OpenClaim := { program := "ytibpaciljnfpmaa", sum := "ce90610c0bac7a8f32aab6b325a79e949a48ca1f741d1a89b1f01c91598c678c", func := "sectime/sectimelaw13.SmearActs", spec := "smearActs", unfollowed := true, recurses := true, apart := false, narrowed := true }
def SmearActsUptoSaid : Prop := smearActsUptoRow.holds Try.pinned (OpenSpec.upto smearActsSpec)

/-- 'sectimelaw13.SmearNear', WHERE WHAT IT READS IS OF BULK AT MOST 1048576: true; the input reads as it did. -/
def smearNearUptoRow : OpenClaim := { program := "ytibpaciljnfpmaa", sum := "ce90610c0bac7a8f32aab6b325a79e949a48ca1f741d1a89b1f01c91598c678c", func := "sectime/sectimelaw13.SmearNear", spec := "smearNear", unfollowed := true, recurses := true, apart := false, narrowed := true }
def SmearNearUptoSaid : Prop := smearNearUptoRow.holds Try.pinned (OpenSpec.upto smearNearSpec)

/-- 'sectimelaw13.SmearContains', WHERE WHAT IT READS IS OF BULK AT MOST 1048576: true; the input reads as it did. -/
def smearContainsUptoRow : OpenClaim := { program := "ytibpaciljnfpmaa", sum := "ce90610c0bac7a8f32aab6b325a79e949a48ca1f741d1a89b1f01c91598c678c", func := "sectime/sectimelaw13.SmearContains", spec := "smearContains", unfollowed := true, recurses := true, apart := false, narrowed := true }
def SmearContainsUptoSaid : Prop := smearContainsUptoRow.holds Try.pinned (OpenSpec.upto smearContainsSpec)

/-- 'sectimelaw13.SmearNeverFalls', WHERE WHAT IT READS IS OF BULK AT MOST 1048576: true; the input reads as it did. -/
def smearNeverFallsUptoRow : OpenClaim := { program := "ytibpaciljnfpmaa", sum := "ce90610c0bac7a8f32aab6b325a79e949a48ca1f741d1a89b1f01c91598c678c", func := "sectime/sectimelaw13.SmearNeverFalls", spec := "smearNeverFalls", unfollowed := true, recurses := true, apart := false, narrowed := true }
def SmearNeverFallsUptoSaid : Prop := smearNeverFallsUptoRow.holds Try.pinned (OpenSpec.upto smearNeverFallsSpec)

/-- 'sectimelaw13.SmearIsNearUTC', WHERE WHAT IT READS IS OF BULK AT MOST 1048576: true; the input reads as it did. -/
def smearIsNearUTCUptoRow : OpenClaim := { program := "ytibpaciljnfpmaa", sum := "ce90610c0bac7a8f32aab6b325a79e949a48ca1f741d1a89b1f01c91598c678c", func := "sectime/sectimelaw13.SmearIsNearUTC", spec := "smearIsNearUTC", unfollowed := true, recurses := true, apart := false, narrowed := true }
def SmearIsNearUTCUptoSaid : Prop := smearIsNearUTCUptoRow.holds Try.pinned (OpenSpec.upto smearIsNearUTCSpec)

end Rows
end Go.Proofs.Ytibpaciljnfpmaa
