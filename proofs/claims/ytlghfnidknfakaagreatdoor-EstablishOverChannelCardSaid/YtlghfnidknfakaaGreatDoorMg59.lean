/- Texts of one's own, merged: from: The plain logic (22): what a seat's laws rest on. Own work. -/
import Derived.Test.YtlghfnidknfakaaGreatDoorRows
import Derived.Test.YtlghfnidknfakaaGreatDoorTie
import Derived.Test.YtlghfnidknfakaaGreatDoorCards
import Derived.SevenTiedAt
import Derived.ProofKit
import Derived.JoinedOf
import Derived.Test.YtlghfnidknfakaaGreatDoorMg58
import Derived.Test.YtlghfnidknfakaaGreatDoorMg57
set_option linter.unusedVariables false
set_option linter.unusedSimpArgs false
namespace Go.Proofs.YtlghfnidknfakaaGreatDoor
theorem own:ownKnob Tryz.prog.godebug=none:=by kernel_rfl
open Go.RowKit
def zD (n:Int):D:=.int .i64 n
theorem P0 (l:List Int):dq 1 (l.map zD)=true:=pF zD (fun _=>rfl) l
end Go.Proofs.YtlghfnidknfakaaGreatDoor
