/- Texts of one's own, merged: from: The plain logic (22): what a seat's laws rest on. Own work. -/
import Derived.Test.YtofonnokanoflaaGreatDoorRows
import Derived.Test.YtofonnokanoflaaGreatDoorTie
import Derived.Test.YtofonnokanoflaaGreatDoorCards
import Derived.SevenTiedAt
import Derived.ProofKit
import Derived.JoinedOf
import Derived.Test.YtofonnokanoflaaGreatDoorMt18
import Derived.Test.YtofonnokanoflaaGreatDoorMt17
set_option linter.unusedVariables false
set_option linter.unusedSimpArgs false
namespace Go.Proofs.YtofonnokanoflaaGreatDoor
theorem own:ownKnob Tryz.prog.godebug=none:=by kernel_rfl
open Go.RowKit
def zD (n:Int):D:=.int .i64 n
theorem Pi (l:List Int):fL 1 (l.map zD)=true:=xz zD (fun _=>rfl) l
end Go.Proofs.YtofonnokanoflaaGreatDoor
