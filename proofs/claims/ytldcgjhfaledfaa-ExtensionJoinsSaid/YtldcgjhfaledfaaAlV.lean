/- The plain logic (22): what a seat's laws rest on. Own work. -/
import Derived.Test.YtldcgjhfaledfaaRows
import Derived.Test.YtldcgjhfaledfaaAlU
import Derived.Test.YtldcgjhfaledfaaAlW
import Derived.ProofKit
import Derived.JoinedOf
set_option linter.unusedVariables false
set_option linter.unusedSimpArgs false
namespace Go.Proofs.Ytldcgjhfaledfaa
theorem own : ownKnob Try.prog.godebug = none := by kernel_rfl
end Go.Proofs.Ytldcgjhfaledfaa
