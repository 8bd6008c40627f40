/- Texts of one's own, merged: from: The plain logic (22): what a seat's laws rest on. Own work. -/
import Derived.Test.YtofonnokanoflaaRows
import Derived.ProofKit
import Derived.JoinedOf
import Derived.Test.YtofonnokanoflaaMg18
import Derived.Test.YtofonnokanoflaaMg17
set_option linter.unusedVariables false
set_option linter.unusedSimpArgs false
namespace Go.Proofs.Ytofonnokanoflaa
theorem own:ownKnob Try.prog.godebug=none:=by kernel_rfl
open Go.RowKit
def zD (n:Int):D:=.int .i64 n
theorem IG (l:List Int):cB 1 (l.map zD)=true:=mP zD (fun _=>rfl) l
end Go.Proofs.Ytofonnokanoflaa
