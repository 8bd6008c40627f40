/-
  No cell of these rows narrows 'for every input' (looked for: loops, veiled, ifaces, maps, wideKeys, modest, calm, conditions, laid).
  DERIVED. THE GIVEN ROWS OF THIS SEAT. 4 by the template 'for every input the law returns true; each argument reads behind the call as it read before'; 0 by the template 'total and deterministic' (their statements: YteohdchecapkfaaTotals.lean).
  GIVEN WITH THE SEED: the statements are not yours to turn. If you find one false, say at which input.
  Laid BY PROGRAM, IN A SANDBOX (cutbox-rows.mjs): the forced cells as the released guide's own fill.sh prints them over the translation 74c138bfb1f9b559… (all of the seat's roots in one cut). By AI agents, Wed Nov 11 2026. No macro, syntax, notation, axiom, sorry.
-/
import Derived.Test.YteohdchecapkfaaChecked
import GoSem.Claim
import GoSem.ClaimJoined
import GoSem.ClaimMapViews
import Derived.JoinedTies
import Derived.KernelRfl
namespace Go.Proofs.Yteohdchecapkfaa
/- THE CELL 'sum', in the pinned program and in every row, IS THE sha256 OF THE DUMP (.gsa) THAT YteohdchecapkfaaProg.lean LOADS. Nothing in Lean hashes anything: it is a label: what it is worth is what the hold of that sum in a sandbox is worth. -/
noncomputable def Try.pinned : Pinned := { name := "yteohdchecapkfaa", sum := "74c138bfb1f9b559958142aa2a5f5cb23d1bac97912d48cfbc1f30f971aa8b51", checked := Try.checked }
namespace Rows
def none {H : Type} : Left H := { results := [], args := [] }

/-- 'sectimelaw24.InterleaveTellsTheExchangeBefore': WHATEVER THE INPUT: true; the input reads as it did. -/
def interleaveTellsTheExchangeBeforeSpec : ChangeSpec := { name := "interleaveTellsTheExchangeBefore", fn := fun _ => fun
  | [d1, d2] => { results := [.lit (.bool true)], args := [d1, d2] }
  | _ => none }
def interleaveTellsTheExchangeBeforeRow : OpenClaim := { program := "yteohdchecapkfaa", sum := "74c138bfb1f9b559958142aa2a5f5cb23d1bac97912d48cfbc1f30f971aa8b51", func := "sectime/sectimelaw24.InterleaveTellsTheExchangeBefore", spec := "interleaveTellsTheExchangeBefore", unfollowed := true, recurses := true, apart := false }
def InterleaveTellsTheExchangeBeforeSaid : Prop := interleaveTellsTheExchangeBeforeRow.holds Try.pinned (OpenSpec.ofChange interleaveTellsTheExchangeBeforeSpec)

/-- ITS FALSE NEIGHBOUR: 'it returns false'. Refute it at one input. -/
def interleaveTellsTheExchangeBeforeWrong : ChangeSpec := { name := "interleaveTellsTheExchangeBefore", fn := fun _ => fun
  | [d1, d2] => { results := [.lit (.bool false)], args := [d1, d2] }
  | _ => none }
def InterleaveTellsTheExchangeBeforeWrongFalsely : Prop := interleaveTellsTheExchangeBeforeRow.holds Try.pinned (OpenSpec.ofChange interleaveTellsTheExchangeBeforeWrong)

/-- 'sectimelaw24.InterleaveRefusesStrangers': WHATEVER THE INPUT: true; the input reads as it did. -/
def interleaveRefusesStrangersSpec : ChangeSpec := { name := "interleaveRefusesStrangers", fn := fun _ => fun
  | [d1, d2] => { results := [.lit (.bool true)], args := [d1, d2] }
  | _ => none }
def interleaveRefusesStrangersRow : OpenClaim := { program := "yteohdchecapkfaa", sum := "74c138bfb1f9b559958142aa2a5f5cb23d1bac97912d48cfbc1f30f971aa8b51", func := "sectime/sectimelaw24.InterleaveRefusesStrangers", spec := "interleaveRefusesStrangers", unfollowed := true, recurses := true, apart := false }
def InterleaveRefusesStrangersSaid : Prop := interleaveRefusesStrangersRow.holds Try.pinned (OpenSpec.ofChange interleaveRefusesStrangersSpec)

/-- ITS FALSE NEIGHBOUR: 'it returns false'. Refute it at one input. -/
def interleaveRefusesStrangersWrong : ChangeSpec := { name := "interleaveRefusesStrangers", fn := fun _ => fun
  | [d1, d2] => { results := [.lit (.bool false)], args := [d1, d2] }
  | _ => none }
def InterleaveRefusesStrangersWrongFalsely : Prop := interleaveRefusesStrangersRow.holds Try.pinned (OpenSpec.ofChange interleaveRefusesStrangersWrong)

/-- 'sectimelaw24.InterleaveQuestionsSayNothing': WHATEVER THE INPUT: true; the input reads as it did. -/
def interleaveQuestionsSayNothingSpec : ChangeSpec := { name := "interleaveQuestionsSayNothing", fn := fun _ => fun
  | [d1, d2, d3] => { results := [.lit (.bool true)], args := [d1, d2, d3] }
  | _ => none }
def interleaveQuestionsSayNothingRow : OpenClaim := { program := "yteohdchecapkfaa", sum := "74c138bfb1f9b559958142aa2a5f5cb23d1bac97912d48cfbc1f30f971aa8b51", func := "sectime/sectimelaw24.InterleaveQuestionsSayNothing", spec := "interleaveQuestionsSayNothing", unfollowed := true, recurses := true, apart := false }
def InterleaveQuestionsSayNothingSaid : Prop := interleaveQuestionsSayNothingRow.holds Try.pinned (OpenSpec.ofChange interleaveQuestionsSayNothingSpec)

/-- ITS FALSE NEIGHBOUR: 'it returns false'. Refute it at one input. -/
def interleaveQuestionsSayNothingWrong : ChangeSpec := { name := "interleaveQuestionsSayNothing", fn := fun _ => fun
  | [d1, d2, d3] => { results := [.lit (.bool false)], args := [d1, d2, d3] }
  | _ => none }
def InterleaveQuestionsSayNothingWrongFalsely : Prop := interleaveQuestionsSayNothingRow.holds Try.pinned (OpenSpec.ofChange interleaveQuestionsSayNothingWrong)

/-- 'sectimelaw24.InterleaveForgets': WHATEVER THE INPUT: true; the input reads as it did. -/
def interleaveForgetsSpec : ChangeSpec := { name := "interleaveForgets", fn := fun _ => fun
  | [d1, d2] => { results := [.lit (.bool true)], args := [d1, d2] }
  | _ => none }
def interleaveForgetsRow : OpenClaim := { program := "yteohdchecapkfaa", sum := "74c138bfb1f9b559958142aa2a5f5cb23d1bac97912d48cfbc1f30f971aa8b51", func := "sectime/sectimelaw24.InterleaveForgets", spec := "interleaveForgets", unfollowed := true, recurses := true, apart := false }
def InterleaveForgetsSaid : Prop := interleaveForgetsRow.holds Try.pinned (OpenSpec.ofChange interleaveForgetsSpec)

/-- ITS FALSE NEIGHBOUR: 'it returns false'. Refute it at one input. -/
def interleaveForgetsWrong : ChangeSpec := { name := "interleaveForgets", fn := fun _ => fun
  | [d1, d2] => { results := [.lit (.bool false)], args := [d1, d2] }
  | _ => none }
def InterleaveForgetsWrongFalsely : Prop := interleaveForgetsRow.holds Try.pinned (OpenSpec.ofChange interleaveForgetsWrong)

/- THE SECOND FORM. 'bulk': how many values and letters a reading holds, each counted each time it is reached (what is shared counts as often as it is met; a slice's spare places count too). A statement '..UptoSaid' is the law's where the arguments, and the package variables that the reading takes, are together of bulk at most 1048576: NARROWER than '..Said'. Prove '..Said' where nothing that the law and all that it calls make is longer than what came in: it says more and counts as full. Else prove '..UptoSaid'. A law counts once. -/
mutual
def uptoBulk {H : Type} : DataW H → Nat
  | .lit (.string bytes) => bytes.length + 1
  | .lit _ => 1
  | .nil => 1
  | .ptr d => uptoBulk d + 1
  | .slice elems spare => uptoBulkAll elems + uptoBulkAll spare + 1
  | .agg parts => uptoBulkAll parts + 1
  | .iface _ d => uptoBulk d + 1
  | .map entries => uptoBulkEntries entries + 1
  | .held _ => 1
def uptoBulkAll {H : Type} : List (DataW H) → Nat
  | [] => 0
  | d :: r => uptoBulk d + uptoBulkAll r
def uptoBulkEntries {H : Type} : List (Lit × DataW H) → Nat
  | [] => 0
  | x :: r => uptoBulkEntry x + uptoBulkEntries r
def uptoBulkEntry {H : Type} : Lit × DataW H → Nat
  | (.string bytes, d) => bytes.length + uptoBulk d + 1
  | (_, d) => uptoBulk d + 1
 end
def uptoSmall : (H : Type) → List (DataW H) → Bool := fun _ ds => decide (uptoBulkAll ds ≤ 1048576)
def OpenSpec.upto (s : _root_.Go.ChangeSpec) : _root_.Go.OpenSpec := { _root_.Go.OpenSpec.ofChange s with cond := some uptoSmall }

/-- 'sectimelaw24.InterleaveTellsTheExchangeBefore', WHERE WHAT IT READS IS OF BULK AT MOST 1048576: true; the input reads as it did. -/
def interleaveTellsTheExchangeBeforeUptoRow : OpenClaim := { program := "yteohdchecapkfaa", sum := "74c138bfb1f9b559958142aa2a5f5cb23d1bac97912d48cfbc1f30f971aa8b51", func := "sectime/sectimelaw24.InterleaveTellsTheExchangeBefore", spec := "interleaveTellsTheExchangeBefore", unfollowed := true, recurses := true, apart := false, narrowed := true }
def InterleaveTellsTheExchangeBeforeUptoSaid : Prop := interleaveTellsTheExchangeBeforeUptoRow.holds Try.pinned (OpenSpec.upto interleaveTellsTheExchangeBeforeSpec)

/-- 'sectimelaw24.InterleaveRefusesStrangers', WHERE WHAT IT READS IS OF BULK AT MOST 1048576: true; the input reads as it did. -/
def interleaveRefusesStrangersUptoRow : OpenClaim := { program := "yteohdchecapkfaa", sum := "74c138bfb1f9b559958142aa2a5f5cb23d1bac97912d48cfbc1f30f971aa8b51", func := "sectime/sectimelaw24.InterleaveRefusesStrangers", spec := "interleaveRefusesStrangers", unfollowed := true, recurses := true, apart := false, narrowed := true }
def InterleaveRefusesStrangersUptoSaid : Prop := interleaveRefusesStrangersUptoRow.holds Try.pinned (OpenSpec.upto interleaveRefusesStrangersSpec)

/-- 'sectimelaw24.InterleaveQuestionsSayNothing', WHERE WHAT IT READS IS OF BULK AT MOST 1048576: true; the input reads as it did. -/
def interleaveQuestionsSayNothingUptoRow : OpenClaim := { program := "yteohdchecapkfaa", sum := "74c138bfb1f9b559958142aa2a5f5cb23d1bac97912d48cfbc1f30f971aa8b51", func := "sectime/sectimelaw24.InterleaveQuestionsSayNothing", spec := "interleaveQuestionsSayNothing", unfollowed := true, recurses := true, apart := false, narrowed := true }
def InterleaveQuestionsSayNothingUptoSaid : Prop := interleaveQuestionsSayNothingUptoRow.holds Try.pinned (OpenSpec.upto interleaveQuestionsSayNothingSpec)

/-- 'sectimelaw24.InterleaveForgets', WHERE WHAT IT READS IS OF BULK AT MOST 1048576: true; the input reads as it did. -/
def interleaveForgetsUptoRow : OpenClaim := { program := "yteohdchecapkfaa", sum := "74c138bfb1f9b559958142aa2a5f5cb23d1bac97912d48cfbc1f30f971aa8b51", func := "sectime/sectimelaw24.InterleaveForgets", spec := "interleaveForgets", unfollowed := true, recurses := true, apart := false, narrowed := true }
def InterleaveForgetsUptoSaid : Prop := interleaveForgetsUptoRow.holds Try.pinned (OpenSpec.upto interleaveForgetsSpec)

end Rows
end Go.Proofs.Yteohdchecapkfaa
