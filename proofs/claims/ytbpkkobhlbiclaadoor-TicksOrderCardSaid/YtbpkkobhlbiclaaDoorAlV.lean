/- The plain logic (22): what a seat's laws rest on. Own work. -/
import Derived.Test.YtbpkkobhlbiclaaDoorRows
import Derived.Test.YtbpkkobhlbiclaaDoorTie
import Derived.Test.YtbpkkobhlbiclaaDoorCards
import Derived.SevenTiedAt
import Derived.Test.YtbpkkobhlbiclaaDoorAlU
import Derived.Test.YtbpkkobhlbiclaaDoorAlW
import Derived.ProofKit
import Derived.JoinedOf
set_option linter.unusedVariables false
set_option linter.unusedSimpArgs false
namespace Go.Proofs.YtbpkkobhlbiclaaDoor
theorem own : ownKnob Tryd.prog.godebug = none := by kernel_rfl
end Go.Proofs.YtbpkkobhlbiclaaDoor
