/-
  No cell of these rows narrows 'for every input' (looked for: loops, veiled, ifaces, maps, wideKeys, modest, calm, conditions, laid).
  DERIVED. THE GIVEN ROWS OF THIS SEAT. 2 by the template 'for every input the law returns true; each argument reads behind the call as it read before'; 0 by the template 'total and deterministic' (their statements: YtjhaklohdflppaaTotals.lean).
  GIVEN WITH THE SEED: the statements are not yours to turn. If you find one false, say at which input.
  Laid BY PROGRAM, IN A SANDBOX (cutbox-rows.mjs): the forced cells as the released guide's own fill.sh prints them over the translation e8f1e0a48aad948f… (all of the seat's roots in one cut). By AI agents, Wed Nov 11 2026. No macro, syntax, notation, axiom, sorry.
-/
import Derived.Test.YtjhaklohdflppaaChecked
import GoSem.Claim
import GoSem.ClaimJoined
import GoSem.ClaimMapViews
import Derived.JoinedTies
import Derived.KernelRfl
namespace Go.Proofs.Ytjhaklohdflppaa
/- THE CELL 'sum', in the pinned program and in every row, IS THE sha256 OF THE DUMP (.gsa) THAT YtjhaklohdflppaaProg.lean LOADS. Nothing in Lean hashes anything: it is a label: what it is worth is what the hold of that sum in a sandbox is worth. -/
noncomputable def Try.pinned : Pinned := { name := "ytjhaklohdflppaa", sum := "e8f1e0a48aad948f4bf306a868e155d8af367fa469adc2a87e0d91967172bda1", checked := Try.checked }
namespace Rows
def none {H : Type} : Left H := { results := [], args := [] }

/-- 'sectimelaw23.ExchangeHoldsTrueTime': WHATEVER THE INPUT: true; the input reads as it did. -/
def exchangeHoldsTrueTimeSpec : ChangeSpec := { name := "exchangeHoldsTrueTime", fn := fun _ => fun
  | [d1, d2, d3] => { results := [.lit (.bool true)], args := [d1, d2, d3] }
  | _ => none }
def exchangeHoldsTrueTimeRow : OpenClaim := { program := "ytjhaklohdflppaa", sum := "e8f1e0a48aad948f4bf306a868e155d8af367fa469adc2a87e0d91967172bda1", func := "sectime/sectimelaw23.ExchangeHoldsTrueTime", spec := "exchangeHoldsTrueTime", apart := false }
def ExchangeHoldsTrueTimeSaid : Prop := exchangeHoldsTrueTimeRow.holds Try.pinned (OpenSpec.ofChange exchangeHoldsTrueTimeSpec)

/-- ITS FALSE NEIGHBOUR: 'it returns false'. Refute it at one input. -/
def exchangeHoldsTrueTimeWrong : ChangeSpec := { name := "exchangeHoldsTrueTime", fn := fun _ => fun
  | [d1, d2, d3] => { results := [.lit (.bool false)], args := [d1, d2, d3] }
  | _ => none }
def ExchangeHoldsTrueTimeWrongFalsely : Prop := exchangeHoldsTrueTimeRow.holds Try.pinned (OpenSpec.ofChange exchangeHoldsTrueTimeWrong)

/-- 'sectimelaw23.ExchangeWidens': WHATEVER THE INPUT: true; the input reads as it did. -/
def exchangeWidensSpec : ChangeSpec := { name := "exchangeWidens", fn := fun _ => fun
  | [d1, d2, d3, d4, d5] => { results := [.lit (.bool true)], args := [d1, d2, d3, d4, d5] }
  | _ => none }
def exchangeWidensRow : OpenClaim := { program := "ytjhaklohdflppaa", sum := "e8f1e0a48aad948f4bf306a868e155d8af367fa469adc2a87e0d91967172bda1", func := "sectime/sectimelaw23.ExchangeWidens", spec := "exchangeWidens", apart := false }
def ExchangeWidensSaid : Prop := exchangeWidensRow.holds Try.pinned (OpenSpec.ofChange exchangeWidensSpec)

/-- ITS FALSE NEIGHBOUR: 'it returns false'. Refute it at one input. -/
def exchangeWidensWrong : ChangeSpec := { name := "exchangeWidens", fn := fun _ => fun
  | [d1, d2, d3, d4, d5] => { results := [.lit (.bool false)], args := [d1, d2, d3, d4, d5] }
  | _ => none }
def ExchangeWidensWrongFalsely : Prop := exchangeWidensRow.holds Try.pinned (OpenSpec.ofChange exchangeWidensWrong)

/- THE SECOND FORM. 'bulk': how many values and letters a reading holds, each counted each time it is reached (what is shared counts as often as it is met; a slice's spare places count too). A statement '..UptoSaid' is the law's where the arguments, and the package variables that the reading takes, are together of bulk at most 1048576: NARROWER than '..Said'. Prove '..Said' where nothing that the law and all that it calls make is longer than what came in: it says more and counts as full. Else prove '..UptoSaid'. A law counts once. -/
mutual
def uptoBulk {H : Type} : DataW H → Nat
  | .lit (.string bytes) => bytes.length + 1
  | .lit _ => 1
  | .nil => 1
  | .ptr d => uptoBulk d + 1
  | .slice elems spare => uptoBulkAll elems + uptoBulkAll spare + 1
  | .agg parts => uptoBulkAll parts + 1
  | .iface _ d => uptoBulk d + 1
  | .map entries => uptoBulkEntries entries + 1
  | .held _ => 1
def uptoBulkAll {H : Type} : List (DataW H) → Nat
  | [] => 0
  | d :: r => uptoBulk d + uptoBulkAll r
def uptoBulkEntries {H : Type} : List (Lit × DataW H) → Nat
  | [] => 0
  | x :: r => uptoBulkEntry x + uptoBulkEntries r
def uptoBulkEntry {H : Type} : Lit × DataW H → Nat
  | (.string bytes, d) => bytes.length + uptoBulk d + 1
  | (_, d) => uptoBulk d + 1
 end
def uptoSmall : (H : Type) → List (DataW H) → Bool := fun _ ds => decide (uptoBulkAll ds ≤ 1048576)
def OpenSpec.upto (s : _root_.Go.ChangeSpec) : _root_.Go.OpenSpec := { _root_.Go.OpenSpec.ofChange s with cond := some uptoSmall }

/-- 'sectimelaw23.ExchangeHoldsTrueTime', WHERE WHAT IT READS IS OF BULK AT MOST 1048576: true; the input reads as it did. -/
def exchangeHoldsTrueTimeUptoRow : OpenClaim := { program := "ytjhaklohdflppaa", sum := "e8f1e0a48aad948f4bf306a868e155d8af367fa469adc2a87e0d91967172bda1", func := "sectime/sectimelaw23.ExchangeHoldsTrueTime", spec := "exchangeHoldsTrueTime", apart := false, narrowed := true }
def ExchangeHoldsTrueTimeUptoSaid : Prop := exchangeHoldsTrueTimeUptoRow.holds Try.pinned (OpenSpec.upto exchangeHoldsTrueTimeSpec)

/-- 'sectimelaw23.ExchangeWidens', WHERE WHAT IT READS IS OF BULK AT MOST 1048576: true; the input reads as it did. -/
def exchangeWidensUptoRow : OpenClaim := { program := "ytjhaklohdflppaa", sum := "e8f1e0a48aad948f4bf306a868e155d8af367fa469adc2a87e0d91967172bda1", func := "sectime/sectimelaw23.ExchangeWidens", spec := "exchangeWidens", apart := false, narrowed := true }
def ExchangeWidensUptoSaid : Prop := exchangeWidensUptoRow.holds Try.pinned (OpenSpec.upto exchangeWidensSpec)

end Rows
end Go.Proofs.Ytjhaklohdflppaa
