/- The plain logic (22): what a seat's laws rest on. Own work. -/
import Derived.Test.YtkaaiefeinoocaaDoorRows
import Derived.Test.YtkaaiefeinoocaaDoorTie
import Derived.Test.YtkaaiefeinoocaaDoorCards
import Derived.SevenTiedAt
import Derived.Test.YtkaaiefeinoocaaDoorAlU
import Derived.Test.YtkaaiefeinoocaaDoorAlW
import Derived.ProofKit
import Derived.JoinedOf
set_option linter.unusedVariables false
set_option linter.unusedSimpArgs false
namespace Go.Proofs.YtkaaiefeinoocaaDoor
theorem own : ownKnob Tryd.prog.godebug = none := by kernel_rfl
end Go.Proofs.YtkaaiefeinoocaaDoor
