/- Texts of one's own, merged: from: The plain logic (22): what a seat's laws rest on. Own work. -/
import Derived.Test.YtcikhnjfkfigjaaRows
import Derived.ProofKit
import Derived.JoinedOf
import Derived.Test.YtcikhnjfkfigjaaMg38
import Derived.Test.YtcikhnjfkfigjaaMg37
set_option linter.unusedVariables false
set_option linter.unusedSimpArgs false
namespace Go.Proofs.Ytcikhnjfkfigjaa
theorem own:ownKnob Try.prog.godebug=none:=by kernel_rfl
end Go.Proofs.Ytcikhnjfkfigjaa
namespace Go.Proofs.Ytcikhnjfkfigjaa
open Go.RowKit
def zD (n:Int):D:=.int .i64 n
def fitI (n:Int):Prop:=-9223372036854775808≤n∧n≤9223372036854775807
theorem allSz_zs (l:List Int):allSz 1 (l.map zD)=true:=allSz_map zD (fun _=>rfl) l
end Go.Proofs.Ytcikhnjfkfigjaa
