/- The plain logic (22): what a seat's laws rest on. Own work. -/
import Derived.Test.YtalilcljonkmaaaDoorRows
import Derived.Test.YtalilcljonkmaaaDoorTie
import Derived.Test.YtalilcljonkmaaaDoorCards
import Derived.SevenTiedAt
import Derived.Test.YtalilcljonkmaaaDoorAlU
import Derived.Test.YtalilcljonkmaaaDoorAlW
import Derived.ProofKit
import Derived.JoinedOf
set_option linter.unusedVariables false
set_option linter.unusedSimpArgs false
namespace Go.Proofs.YtalilcljonkmaaaDoor
theorem own : ownKnob Tryd.prog.godebug = none := by kernel_rfl
end Go.Proofs.YtalilcljonkmaaaDoor
