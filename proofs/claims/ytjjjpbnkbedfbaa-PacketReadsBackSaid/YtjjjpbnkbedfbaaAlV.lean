/- The plain logic (22): what a seat's laws rest on. Own work. -/
import Derived.Test.YtjjjpbnkbedfbaaRows
import Derived.Test.YtjjjpbnkbedfbaaAlU
import Derived.Test.YtjjjpbnkbedfbaaAlW
import Derived.ProofKit
import Derived.JoinedOf
set_option linter.unusedVariables false
set_option linter.unusedSimpArgs false
namespace Go.Proofs.Ytjjjpbnkbedfbaa
theorem own : ownKnob Try.prog.godebug = none := by kernel_rfl
end Go.Proofs.Ytjjjpbnkbedfbaa
