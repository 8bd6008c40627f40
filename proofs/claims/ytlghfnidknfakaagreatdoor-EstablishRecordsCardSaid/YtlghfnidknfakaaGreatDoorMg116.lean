/- Texts of one's own, merged: from: Layer 17 on data: the program: sizes,bytes. Own work. -/
import Derived.Test.YtlghfnidknfakaaGreatDoorProg
import Derived.Test.YtlghfnidknfakaaGreatDoorMg17
import Derived.Test.YtlghfnidknfakaaGreatDoorMg115
import Derived.Test.YtlghfnidknfakaaGreatDoorMg110
import Derived.Test.YtlghfnidknfakaaGreatDoorMg111
set_option linter.unusedVariables false
set_option linter.unusedSimpArgs false
namespace Go.Proofs.YtlghfnidknfakaaGreatDoor
open Go.RowKit
theorem me {l:List Fd} {i:Nat} (h:i<l.length):l[i]?=some (l.getD i default):=by
  rw[WB,Wz h]; rfl
theorem EM {l:List Fd} {i:Nat} (h:i<l.length):l.getD i default∈l:=by
  rw[WB,Wz h];exact W9 h
end Go.Proofs.YtlghfnidknfakaaGreatDoor
