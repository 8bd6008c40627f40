/- The plain logic (22): what a seat's laws rest on. Own work. -/
import Derived.Test.YtjebhdadegfbdaaRows
import Derived.Test.YtjebhdadegfbdaaAlU
import Derived.Test.YtjebhdadegfbdaaAlW
import Derived.ProofKit
import Derived.JoinedOf
set_option linter.unusedVariables false
set_option linter.unusedSimpArgs false
namespace Go.Proofs.Ytjebhdadegfbdaa
theorem own : ownKnob Try.prog.godebug = none := by kernel_rfl
end Go.Proofs.Ytjebhdadegfbdaa
