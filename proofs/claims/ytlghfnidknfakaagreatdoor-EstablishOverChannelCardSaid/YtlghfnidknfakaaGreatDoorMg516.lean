/- Texts of one's own, merged: from: Layer 17 on data: the program: sizes,bytes. Own work. -/
import Derived.Test.YtlghfnidknfakaaGreatDoorProg
import Derived.Test.YtlghfnidknfakaaGreatDoorMg57
import Derived.Test.YtlghfnidknfakaaGreatDoorMg515
import Derived.Test.YtlghfnidknfakaaGreatDoorMg510
import Derived.Test.YtlghfnidknfakaaGreatDoorMg511
set_option linter.unusedVariables false
set_option linter.unusedSimpArgs false
namespace Go.Proofs.YtlghfnidknfakaaGreatDoor
open Go.RowKit
theorem lU {l:List Fd} {i:Nat} (h:i<l.length):l[i]?=some (l.getD i default):=by
  rw[X6,X3 h]; rfl
theorem FF {l:List Fd} {i:Nat} (h:i<l.length):l.getD i default∈l:=by
  rw[X6,X3 h];exact Yz h
end Go.Proofs.YtlghfnidknfakaaGreatDoor
