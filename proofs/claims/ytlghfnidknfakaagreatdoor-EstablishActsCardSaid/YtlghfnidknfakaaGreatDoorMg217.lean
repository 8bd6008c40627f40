/- Texts of one's own, merged: from: Layer 17 on data: the program: sizes,bytes. Own work. -/
import Derived.Test.YtlghfnidknfakaaGreatDoorProg
import Derived.Test.YtlghfnidknfakaaGreatDoorMg27
import Derived.Test.YtlghfnidknfakaaGreatDoorMg216
import Derived.Test.YtlghfnidknfakaaGreatDoorMg210
import Derived.Test.YtlghfnidknfakaaGreatDoorMg215
import Derived.Test.YtlghfnidknfakaaGreatDoorMg211
set_option linter.unusedVariables false
set_option linter.unusedSimpArgs false
namespace Go.Proofs.YtlghfnidknfakaaGreatDoor
open Go.RowKit
theorem nG {l:List Fd} {i:Nat} (h:i<l.length):l[i]?=some (l.getD i default):=by
  rw[abb,aa7 h]; rfl
theorem IV {l:List Fd} {i:Nat} (h:i<l.length):l.getD i default∈l:=by
  rw[abb,aa7 h];exact abG h
end Go.Proofs.YtlghfnidknfakaaGreatDoor
