/- Texts of one's own, merged: from: Layer 17 on data: the program: sizes,bytes. Own work. -/
import Derived.Test.YtlghfnidknfakaaGreatDoorProg
import Derived.Test.YtlghfnidknfakaaGreatDoorMg37
import Derived.Test.YtlghfnidknfakaaGreatDoorMg315
import Derived.Test.YtlghfnidknfakaaGreatDoorMg310
import Derived.Test.YtlghfnidknfakaaGreatDoorMg311
set_option linter.unusedVariables false
set_option linter.unusedSimpArgs false
namespace Go.Proofs.YtlghfnidknfakaaGreatDoor
open Go.RowKit
theorem me {l:List Fd} {i:Nat} (h:i<l.length):l[i]?=some (l.getD i default):=by
  rw[VS,VQ h]; rfl
theorem Eu {l:List Fd} {i:Nat} (h:i<l.length):l.getD i default∈l:=by
  rw[VS,VQ h];exact Wq h
end Go.Proofs.YtlghfnidknfakaaGreatDoor
