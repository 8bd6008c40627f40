/- Texts of one's own, merged: from: The plain logic (22): what a seat's laws rest on. Own work. -/
import Derived.Test.YtofonnokanoflaaGreatRows
import Derived.ProofKit
import Derived.JoinedOf
import Derived.Test.YtofonnokanoflaaGreatMz28
import Derived.Test.YtofonnokanoflaaGreatMz27
set_option linter.unusedVariables false
set_option linter.unusedSimpArgs false
namespace Go.Proofs.YtofonnokanoflaaGreat
theorem own:ownKnob Tryz.prog.godebug=none:=by kernel_rfl
open Go.RowKit
def zD (n:Int):D:=.int .i64 n
theorem zY (l:List Int):eT 1 (l.map zD)=true:=uk zD (fun _=>rfl) l
end Go.Proofs.YtofonnokanoflaaGreat
