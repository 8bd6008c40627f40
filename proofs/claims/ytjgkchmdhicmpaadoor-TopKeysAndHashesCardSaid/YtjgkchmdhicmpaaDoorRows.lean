/-
  NARROWER THAN 'FOR EVERY INPUT', by the rows' own cells (each row's printed sentence says how): SignerActs: laid · SignerVerifies: laid · SignerSigns: laid · SignerRefuses: laid · SignerPublic: laid · SignerUsesUp: laid · TopBatches: laid · TopKeysAndHashes: laid.
  DERIVED. THE GIVEN ROWS OF THIS SEAT. 8 by the template 'for every input the law returns true; each argument reads behind the call as it read before'; 0 by the template 'total and deterministic' (their statements: YtjgkchmdhicmpaaDoorTotals.lean).
  GIVEN WITH THE SEED: the statements are not yours to turn. If you find one false, say at which input.
  Laid BY PROGRAM, IN A SANDBOX (cutbox-rows.mjs): the forced cells as the released guide's own fill.sh prints them over the translation 8f3415f9a132b61e… (all of the seat's roots in one cut). By AI agents, Wed Nov 11 2026. No macro, syntax, notation, axiom, sorry.
-/
import Derived.Test.YtjgkchmdhicmpaaDoorChecked
import GoSem.Claim
import GoSem.ClaimJoined
import GoSem.ClaimMapViews
import Derived.JoinedTies
import Derived.KernelRfl
namespace Go.Proofs.YtjgkchmdhicmpaaDoor
/- THE CELL 'sum', in the pinned program and in every row, IS THE sha256 OF THE DUMP (.gsa) THAT YtjgkchmdhicmpaaDoorProg.lean LOADS. Nothing in Lean hashes anything: it is a label: what it is worth is what the hold of that sum in a sandbox is worth. -/
noncomputable def Tryd.pinned : Pinned := { name := "ytjgkchmdhicmpaadoor", sum := "8f3415f9a132b61ef807248b7d8aa38ca688b9859484f0620398208ada4047b3", checked := Tryd.checked }
namespace Rows
def none {H : Type} : Left H := { results := [], args := [] }

/- WHAT THE LISTED PACKAGE-LEVEL VARIABLES READ AS WHEN THE CALL BEGINS. Each datum BY PROGRAM (the guide's laid-datum.mjs) off the statement by which the dump's own 'gosem.cut.vars' lays the variable. In a bare row this is a premise. The card (YtjgkchmdhicmpaaDoorCards.lean) ties it to the program's text. -/
def laid_sectime_hash_first {H : Type} : DataW H := .agg [.lit (.int .u32 1779033703), .lit (.int .u32 3144134277), .lit (.int .u32 1013904242), .lit (.int .u32 2773480762), .lit (.int .u32 1359893119), .lit (.int .u32 2600822924), .lit (.int .u32 528734635), .lit (.int .u32 1541459225)]
def laid_sectime_hash_roots {H : Type} : DataW H := .agg [.lit (.int .u32 1116352408), .lit (.int .u32 1899447441), .lit (.int .u32 3049323471), .lit (.int .u32 3921009573), .lit (.int .u32 961987163), .lit (.int .u32 1508970993), .lit (.int .u32 2453635748), .lit (.int .u32 2870763221), .lit (.int .u32 3624381080), .lit (.int .u32 310598401), .lit (.int .u32 607225278), .lit (.int .u32 1426881987), .lit (.int .u32 1925078388), .lit (.int .u32 2162078206), .lit (.int .u32 2614888103), .lit (.int .u32 3248222580), .lit (.int .u32 3835390401), .lit (.int .u32 4022224774), .lit (.int .u32 264347078), .lit (.int .u32 604807628), .lit (.int .u32 770255983), .lit (.int .u32 1249150122), .lit (.int .u32 1555081692), .lit (.int .u32 1996064986), .lit (.int .u32 2554220882), .lit (.int .u32 2821834349), .lit (.int .u32 2952996808), .lit (.int .u32 3210313671), .lit (.int .u32 3336571891), .lit (.int .u32 3584528711), .lit (.int .u32 113926993), .lit (.int .u32 338241895), .lit (.int .u32 666307205), .lit (.int .u32 773529912), .lit (.int .u32 1294757372), .lit (.int .u32 1396182291), .lit (.int .u32 1695183700), .lit (.int .u32 1986661051), .lit (.int .u32 2177026350), .lit (.int .u32 2456956037), .lit (.int .u32 2730485921), .lit (.int .u32 2820302411), .lit (.int .u32 3259730800), .lit (.int .u32 3345764771), .lit (.int .u32 3516065817), .lit (.int .u32 3600352804), .lit (.int .u32 4094571909), .lit (.int .u32 275423344), .lit (.int .u32 430227734), .lit (.int .u32 506948616), .lit (.int .u32 659060556), .lit (.int .u32 883997877), .lit (.int .u32 958139571), .lit (.int .u32 1322822218), .lit (.int .u32 1537002063), .lit (.int .u32 1747873779), .lit (.int .u32 1955562222), .lit (.int .u32 2024104815), .lit (.int .u32 2227730452), .lit (.int .u32 2361852424), .lit (.int .u32 2428436474), .lit (.int .u32 2756734187), .lit (.int .u32 3204031479), .lit (.int .u32 3329325298)]

/-- 'sectimelaw09.SignerActs': WHATEVER THE INPUT: true; the input reads as it did. -/
def signerActsSpec : ChangeSpec := { name := "signerActs", fn := fun _ => fun
  | [d1, d2] => { results := [.lit (.bool true)], args := [d1, d2] }
  | _ => none }
def signerActsRow : OpenClaim := { program := "ytjgkchmdhicmpaadoor", sum := "8f3415f9a132b61ef807248b7d8aa38ca688b9859484f0620398208ada4047b3", func := "sectime/sectimelaw09.SignerActs", spec := "signerActs", unfollowed := true, recurses := true, named := ["sectime/hash.first", "sectime/hash.roots"], apart := false, laid := [("sectime/hash.first", laid_sectime_hash_first), ("sectime/hash.roots", laid_sectime_hash_roots)] }
def SignerActsSaid : Prop := signerActsRow.holds Tryd.pinned (OpenSpec.ofChange signerActsSpec)

/-- ITS FALSE NEIGHBOUR: 'it returns false'. Refute it at one input. -/
def signerActsWrong : ChangeSpec := { name := "signerActs", fn := fun _ => fun
  | [d1, d2] => { results := [.lit (.bool false)], args := [d1, d2] }
  | _ => none }
def SignerActsWrongFalsely : Prop := signerActsRow.holds Tryd.pinned (OpenSpec.ofChange signerActsWrong)

/-- 'sectimelaw09.SignerVerifies': WHATEVER THE INPUT: true; the input reads as it did. -/
def signerVerifiesSpec : ChangeSpec := { name := "signerVerifies", fn := fun _ => fun
  | [d1, d2, d3] => { results := [.lit (.bool true)], args := [d1, d2, d3] }
  | _ => none }
def signerVerifiesRow : OpenClaim := { program := "ytjgkchmdhicmpaadoor", sum := "8f3415f9a132b61ef807248b7d8aa38ca688b9859484f0620398208ada4047b3", func := "sectime/sectimelaw09.SignerVerifies", spec := "signerVerifies", unfollowed := true, recurses := true, named := ["sectime/hash.first", "sectime/hash.roots"], apart := false, laid := [("sectime/hash.first", laid_sectime_hash_first), ("sectime/hash.roots", laid_sectime_hash_roots)] }
def SignerVerifiesSaid : Prop := signerVerifiesRow.holds Tryd.pinned (OpenSpec.ofChange signerVerifiesSpec)

/-- ITS FALSE NEIGHBOUR: 'it returns false'. Refute it at one input. -/
def signerVerifiesWrong : ChangeSpec := { name := "signerVerifies", fn := fun _ => fun
  | [d1, d2, d3] => { results := [.lit (.bool false)], args := [d1, d2, d3] }
  | _ => none }
def SignerVerifiesWrongFalsely : Prop := signerVerifiesRow.holds Tryd.pinned (OpenSpec.ofChange signerVerifiesWrong)

/-- 'sectimelaw09.SignerSigns': WHATEVER THE INPUT: true; the input reads as it did. -/
def signerSignsSpec : ChangeSpec := { name := "signerSigns", fn := fun _ => fun
  | [d1, d2, d3, d4] => { results := [.lit (.bool true)], args := [d1, d2, d3, d4] }
  | _ => none }
def signerSignsRow : OpenClaim := { program := "ytjgkchmdhicmpaadoor", sum := "8f3415f9a132b61ef807248b7d8aa38ca688b9859484f0620398208ada4047b3", func := "sectime/sectimelaw09.SignerSigns", spec := "signerSigns", unfollowed := true, recurses := true, named := ["sectime/hash.first", "sectime/hash.roots"], apart := false, laid := [("sectime/hash.first", laid_sectime_hash_first), ("sectime/hash.roots", laid_sectime_hash_roots)] }
def SignerSignsSaid : Prop := signerSignsRow.holds Tryd.pinned (OpenSpec.ofChange signerSignsSpec)

/-- ITS FALSE NEIGHBOUR: 'it returns false'. Refute it at one input. -/
def signerSignsWrong : ChangeSpec := { name := "signerSigns", fn := fun _ => fun
  | [d1, d2, d3, d4] => { results := [.lit (.bool false)], args := [d1, d2, d3, d4] }
  | _ => none }
def SignerSignsWrongFalsely : Prop := signerSignsRow.holds Tryd.pinned (OpenSpec.ofChange signerSignsWrong)

/-- 'sectimelaw09.SignerRefuses': WHATEVER THE INPUT: true; the input reads as it did. -/
def signerRefusesSpec : ChangeSpec := { name := "signerRefuses", fn := fun _ => fun
  | [d1, d2, d3, d4] => { results := [.lit (.bool true)], args := [d1, d2, d3, d4] }
  | _ => none }
def signerRefusesRow : OpenClaim := { program := "ytjgkchmdhicmpaadoor", sum := "8f3415f9a132b61ef807248b7d8aa38ca688b9859484f0620398208ada4047b3", func := "sectime/sectimelaw09.SignerRefuses", spec := "signerRefuses", unfollowed := true, recurses := true, named := ["sectime/hash.first", "sectime/hash.roots"], apart := false, laid := [("sectime/hash.first", laid_sectime_hash_first), ("sectime/hash.roots", laid_sectime_hash_roots)] }
def SignerRefusesSaid : Prop := signerRefusesRow.holds Tryd.pinned (OpenSpec.ofChange signerRefusesSpec)

/-- ITS FALSE NEIGHBOUR: 'it returns false'. Refute it at one input. -/
def signerRefusesWrong : ChangeSpec := { name := "signerRefuses", fn := fun _ => fun
  | [d1, d2, d3, d4] => { results := [.lit (.bool false)], args := [d1, d2, d3, d4] }
  | _ => none }
def SignerRefusesWrongFalsely : Prop := signerRefusesRow.holds Tryd.pinned (OpenSpec.ofChange signerRefusesWrong)

/-- 'sectimelaw09.SignerPublic': WHATEVER THE INPUT: true; the input reads as it did. -/
def signerPublicSpec : ChangeSpec := { name := "signerPublic", fn := fun _ => fun
  | [d1, d2] => { results := [.lit (.bool true)], args := [d1, d2] }
  | _ => none }
def signerPublicRow : OpenClaim := { program := "ytjgkchmdhicmpaadoor", sum := "8f3415f9a132b61ef807248b7d8aa38ca688b9859484f0620398208ada4047b3", func := "sectime/sectimelaw09.SignerPublic", spec := "signerPublic", unfollowed := true, recurses := true, named := ["sectime/hash.first", "sectime/hash.roots"], apart := false, laid := [("sectime/hash.first", laid_sectime_hash_first), ("sectime/hash.roots", laid_sectime_hash_roots)] }
def SignerPublicSaid : Prop := signerPublicRow.holds Tryd.pinned (OpenSpec.ofChange signerPublicSpec)

/-- ITS FALSE NEIGHBOUR: 'it returns false'. Refute it at one input. -/
def signerPublicWrong : ChangeSpec := { name := "signerPublic", fn := fun _ => fun
  | [d1, d2] => { results := [.lit (.bool false)], args := [d1, d2] }
  | _ => none }
def SignerPublicWrongFalsely : Prop := signerPublicRow.holds Tryd.pinned (OpenSpec.ofChange signerPublicWrong)

/-- 'sectimelaw09.SignerUsesUp': WHATEVER THE INPUT: true; the input reads as it did. -/
def signerUsesUpSpec : ChangeSpec := { name := "signerUsesUp", fn := fun _ => fun
  | [d1, d2] => { results := [.lit (.bool true)], args := [d1, d2] }
  | _ => none }
def signerUsesUpRow : OpenClaim := { program := "ytjgkchmdhicmpaadoor", sum := "8f3415f9a132b61ef807248b7d8aa38ca688b9859484f0620398208ada4047b3", func := "sectime/sectimelaw09.SignerUsesUp", spec := "signerUsesUp", unfollowed := true, recurses := true, named := ["sectime/hash.first", "sectime/hash.roots"], apart := false, laid := [("sectime/hash.first", laid_sectime_hash_first), ("sectime/hash.roots", laid_sectime_hash_roots)] }
def SignerUsesUpSaid : Prop := signerUsesUpRow.holds Tryd.pinned (OpenSpec.ofChange signerUsesUpSpec)

/-- ITS FALSE NEIGHBOUR: 'it returns false'. Refute it at one input. -/
def signerUsesUpWrong : ChangeSpec := { name := "signerUsesUp", fn := fun _ => fun
  | [d1, d2] => { results := [.lit (.bool false)], args := [d1, d2] }
  | _ => none }
def SignerUsesUpWrongFalsely : Prop := signerUsesUpRow.holds Tryd.pinned (OpenSpec.ofChange signerUsesUpWrong)

/-- 'sectimetop.TopBatches': WHATEVER THE INPUT: true; the input reads as it did. -/
def topBatchesSpec : ChangeSpec := { name := "topBatches", fn := fun _ => fun
  | [d1, d2, d3, d4, d5] => { results := [.lit (.bool true)], args := [d1, d2, d3, d4, d5] }
  | _ => none }
def topBatchesRow : OpenClaim := { program := "ytjgkchmdhicmpaadoor", sum := "8f3415f9a132b61ef807248b7d8aa38ca688b9859484f0620398208ada4047b3", func := "sectime/sectimetop.TopBatches", spec := "topBatches", unfollowed := true, recurses := true, named := ["sectime/hash.first", "sectime/hash.roots"], apart := false, laid := [("sectime/hash.first", laid_sectime_hash_first), ("sectime/hash.roots", laid_sectime_hash_roots)] }
def TopBatchesSaid : Prop := topBatchesRow.holds Tryd.pinned (OpenSpec.ofChange topBatchesSpec)

/-- ITS FALSE NEIGHBOUR: 'it returns false'. Refute it at one input. -/
def topBatchesWrong : ChangeSpec := { name := "topBatches", fn := fun _ => fun
  | [d1, d2, d3, d4, d5] => { results := [.lit (.bool false)], args := [d1, d2, d3, d4, d5] }
  | _ => none }
def TopBatchesWrongFalsely : Prop := topBatchesRow.holds Tryd.pinned (OpenSpec.ofChange topBatchesWrong)

/-- 'sectimetop.TopKeysAndHashes': WHATEVER THE INPUT: true; the input reads as it did. -/
def topKeysAndHashesSpec : ChangeSpec := { name := "topKeysAndHashes", fn := fun _ => fun
  | [d1, d2, d3] => { results := [.lit (.bool true)], args := [d1, d2, d3] }
  | _ => none }
def topKeysAndHashesRow : OpenClaim := { program := "ytjgkchmdhicmpaadoor", sum := "8f3415f9a132b61ef807248b7d8aa38ca688b9859484f0620398208ada4047b3", func := "sectime/sectimetop.TopKeysAndHashes", spec := "topKeysAndHashes", unfollowed := true, recurses := true, named := ["sectime/hash.first", "sectime/hash.roots"], apart := false, laid := [("sectime/hash.first", laid_sectime_hash_first), ("sectime/hash.roots", laid_sectime_hash_roots)] }
def TopKeysAndHashesSaid : Prop := topKeysAndHashesRow.holds Tryd.pinned (OpenSpec.ofChange topKeysAndHashesSpec)

/-- ITS FALSE NEIGHBOUR: 'it returns false'. Refute it at one input. -/
def topKeysAndHashesWrong : ChangeSpec := { name := "topKeysAndHashes", fn := fun _ => fun
  | [d1, d2, d3] => { results := [.lit (.bool false)], args := [d1, d2, d3] }
  | _ => none }
def TopKeysAndHashesWrongFalsely : Prop := topKeysAndHashesRow.holds Tryd.pinned (OpenSpec.ofChange topKeysAndHashesWrong)

/- THE SECOND FORM. 'bulk': how many values and letters a reading holds, each counted each time it is reached (what is shared counts as often as it is met; a slice's spare places count too). A statement '..UptoSaid' is the law's where the arguments, and the package variables that the reading takes, are together of bulk at most 1048576: NARROWER than '..Said'. Prove '..Said' where nothing that the law and all that it calls make is longer than what came in: it says more and counts as full. Else prove '..UptoSaid'. A law counts once. -/
mutual
def uptoBulk {H : Type} : DataW H → Nat
  | .lit (.string bytes) => bytes.length + 1
  | .lit _ => 1
  | .nil => 1
  | .ptr d => uptoBulk d + 1
  | .slice elems spare => uptoBulkAll elems + uptoBulkAll spare + 1
  | .agg parts => uptoBulkAll parts + 1
  | .iface _ d => uptoBulk d + 1
  | .map entries => uptoBulkEntries entries + 1
  | .held _ => 1
def uptoBulkAll {H : Type} : List (DataW H) → Nat
  | [] => 0
  | d :: r => uptoBulk d + uptoBulkAll r
def uptoBulkEntries {H : Type} : List (Lit × DataW H) → Nat
  | [] => 0
  | x :: r => uptoBulkEntry x + uptoBulkEntries r
def uptoBulkEntry {H : Type} : Lit × DataW H → Nat
  | (.string bytes, d) => bytes.length + uptoBulk d + 1
  | (_, d) => uptoBulk d + 1
 end
def uptoSmall : (H : Type) → List (DataW H) → Bool := fun _ ds => decide (uptoBulkAll ds ≤ 1048576)
def OpenSpec.upto (s : _root_.Go.ChangeSpec) : _root_.Go.OpenSpec := { _root_.Go.OpenSpec.ofChange s with cond := some uptoSmall }

/-- 'sectimelaw09.SignerActs', WHERE WHAT IT READS IS OF BULK AT MOST 1048576: true; the input reads as it did. -/
def signerActsUptoRow : OpenClaim := { program := "ytjgkchmdhicmpaadoor", sum := "8f3415f9a132b61ef807248b7d8aa38ca688b9859484f0620398208ada4047b3", func := "sectime/sectimelaw09.SignerActs", spec := "signerActs", unfollowed := true, recurses := true, named := ["sectime/hash.first", "sectime/hash.roots"], apart := false, laid := [("sectime/hash.first", laid_sectime_hash_first), ("sectime/hash.roots", laid_sectime_hash_roots)], narrowed := true }
def SignerActsUptoSaid : Prop := signerActsUptoRow.holds Tryd.pinned (OpenSpec.upto signerActsSpec)

/-- 'sectimelaw09.SignerVerifies', WHERE WHAT IT READS IS OF BULK AT MOST 1048576: true; the input reads as it did. -/
def signerVerifiesUptoRow : OpenClaim := { program := "ytjgkchmdhicmpaadoor", sum := "8f3415f9a132b61ef807248b7d8aa38ca688b9859484f0620398208ada4047b3", func := "sectime/sectimelaw09.SignerVerifies", spec := "signerVerifies", unfollowed := true, recurses := true, named := ["sectime/hash.first", "sectime/hash.roots"], apart := false, laid := [("sectime/hash.first", laid_sectime_hash_first), ("sectime/hash.roots", laid_sectime_hash_roots)], narrowed := true }
def SignerVerifiesUptoSaid : Prop := signerVerifiesUptoRow.holds Tryd.pinned (OpenSpec.upto signerVerifiesSpec)

/-- 'sectimelaw09.SignerSigns', WHERE WHAT IT READS IS OF BULK AT MOST 1048576: true; the input reads as it did. -/
def signerSignsUptoRow : OpenClaim := { program := "ytjgkchmdhicmpaadoor", sum := "8f3415f9a132b61ef807248b7d8aa38ca688b9859484f0620398208ada4047b3", func := "sectime/sectimelaw09.SignerSigns", spec := "signerSigns", unfollowed := true, recurses := true, named := ["sectime/hash.first", "sectime/hash.roots"], apart := false, laid := [("sectime/hash.first", laid_sectime_hash_first), ("sectime/hash.roots", laid_sectime_hash_roots)], narrowed := true }
def SignerSignsUptoSaid : Prop := signerSignsUptoRow.holds Tryd.pinned (OpenSpec.upto signerSignsSpec)

/-- 'sectimelaw09.SignerRefuses', WHERE WHAT IT READS IS OF BULK AT MOST 1048576: true; the input reads as it did. -/
def signerRefusesUptoRow : OpenClaim := { program := "ytjgkchmdhicmpaadoor", sum := "8f3415f9a132b61ef807248b7d8aa38ca688b9859484f0620398208ada4047b3", func := "sectime/sectimelaw09.SignerRefuses", spec := "signerRefuses", unfollowed := true, recurses := true, named := ["sectime/hash.first", "sectime/hash.roots"], apart := false, laid := [("sectime/hash.first", laid_sectime_hash_first), ("sectime/hash.roots", laid_sectime_hash_roots)], narrowed := true }
def SignerRefusesUptoSaid : Prop := signerRefusesUptoRow.holds Tryd.pinned (OpenSpec.upto signerRefusesSpec)

/-- 'sectimelaw09.SignerPublic', WHERE WHAT IT READS IS OF BULK AT MOST 1048576: true; the input reads as it did. -/
def signerPublicUptoRow : OpenClaim := { program := "ytjgkchmdhicmpaadoor", sum := "8f3415f9a132b61ef807248b7d8aa38ca688b9859484f0620398208ada4047b3", func := "sectime/sectimelaw09.SignerPublic", spec := "signerPublic", unfollowed := true, recurses := true, named := ["sectime/hash.first", "sectime/hash.roots"], apart := false, laid := [("sectime/hash.first", laid_sectime_hash_first), ("sectime/hash.roots", laid_sectime_hash_roots)], narrowed := true }
def SignerPublicUptoSaid : Prop := signerPublicUptoRow.holds Tryd.pinned (OpenSpec.upto signerPublicSpec)

/-- 'sectimelaw09.SignerUsesUp', WHERE WHAT IT READS IS OF BULK AT MOST 1048576: true; the input reads as it did. -/
def signerUsesUpUptoRow : OpenClaim := { program := "ytjgkchmdhicmpaadoor", sum := "8f3415f9a132b61ef807248b7d8aa38ca688b9859484f0620398208ada4047b3", func := "sectime/sectimelaw09.SignerUsesUp", spec := "signerUsesUp", unfollowed := true, recurses := true, named := ["sectime/hash.first", "sectime/hash.roots"], apart := false, laid := [("sectime/hash.first", laid_sectime_hash_first), ("sectime/hash.roots", laid_sectime_hash_roots)], narrowed := true }
def SignerUsesUpUptoSaid : Prop := signerUsesUpUptoRow.holds Tryd.pinned (OpenSpec.upto signerUsesUpSpec)

/-- 'sectimetop.TopBatches', WHERE WHAT IT READS IS OF BULK AT MOST 1048576: true; the input reads as it did. -/
def topBatchesUptoRow : OpenClaim := { program := "ytjgkchmdhicmpaadoor", sum := "8f3415f9a132b61ef807248b7d8aa38ca688b9859484f0620398208ada4047b3", func := "sectime/sectimetop.TopBatches", spec := "topBatches", unfollowed := true, recurses := true, named := ["sectime/hash.first", "sectime/hash.roots"], apart := false, laid := [("sectime/hash.first", laid_sectime_hash_first), ("sectime/hash.roots", laid_sectime_hash_roots)], narrowed := true }
def TopBatchesUptoSaid : Prop := topBatchesUptoRow.holds Tryd.pinned (OpenSpec.upto topBatchesSpec)

/-- 'sectimetop.TopKeysAndHashes', WHERE WHAT IT READS IS OF BULK AT MOST 1048576: true; the input reads as it did. -/
def topKeysAndHashesUptoRow : OpenClaim := { program := "ytjgkchmdhicmpaadoor", sum := "8f3415f9a132b61ef807248b7d8aa38ca688b9859484f0620398208ada4047b3", func := "sectime/sectimetop.TopKeysAndHashes", spec := "topKeysAndHashes", unfollowed := true, recurses := true, named := ["sectime/hash.first", "sectime/hash.roots"], apart := false, laid := [("sectime/hash.first", laid_sectime_hash_first), ("sectime/hash.roots", laid_sectime_hash_roots)], narrowed := true }
def TopKeysAndHashesUptoSaid : Prop := topKeysAndHashesUptoRow.holds Tryd.pinned (OpenSpec.upto topKeysAndHashesSpec)

end Rows
end Go.Proofs.YtjgkchmdhicmpaaDoor
