/- Texts of one's own, merged: from: Layer 17 on data: the program: sizes,bytes. Own work. -/
import Derived.Test.YtlghfnidknfakaaGreatDoorProg
import Derived.Test.YtlghfnidknfakaaGreatDoorMg47
import Derived.Test.YtlghfnidknfakaaGreatDoorMg415
import Derived.Test.YtlghfnidknfakaaGreatDoorMg410
import Derived.Test.YtlghfnidknfakaaGreatDoorMg411
set_option linter.unusedVariables false
set_option linter.unusedSimpArgs false
namespace Go.Proofs.YtlghfnidknfakaaGreatDoor
open Go.RowKit
theorem mK {l:List Fd} {i:Nat} (h:i<l.length):l[i]?=some (l.getD i default):=by
  rw[aa0,aaY h]; rfl
theorem HB {l:List Fd} {i:Nat} (h:i<l.length):l.getD i default∈l:=by
  rw[aa0,aaY h];exact aby h
end Go.Proofs.YtlghfnidknfakaaGreatDoor
