/- The plain logic (22): what a seat's laws rest on. Own work. -/
import Derived.Test.YtgepbpcolddgoaaDoorRows
import Derived.Test.YtgepbpcolddgoaaDoorTie
import Derived.Test.YtgepbpcolddgoaaDoorCards
import Derived.SevenTiedAt
import Derived.Test.YtgepbpcolddgoaaDoorAlU
import Derived.Test.YtgepbpcolddgoaaDoorAlW
import Derived.ProofKit
import Derived.JoinedOf
set_option linter.unusedVariables false
set_option linter.unusedSimpArgs false
namespace Go.Proofs.YtgepbpcolddgoaaDoor
theorem own : ownKnob Tryd.prog.godebug = none := by kernel_rfl
end Go.Proofs.YtgepbpcolddgoaaDoor
