/- Texts of one's own, merged: from: The plain logic (22): what a seat's laws rest on. Own work. -/
import Derived.Test.YtbkhllchjbjhgaaDoorRows
import Derived.Test.YtbkhllchjbjhgaaDoorTie
import Derived.Test.YtbkhllchjbjhgaaDoorCards
import Derived.SevenTiedAt
import Derived.ProofKit
import Derived.JoinedOf
import Derived.Test.YtbkhllchjbjhgaaDoorMg18
import Derived.Test.YtbkhllchjbjhgaaDoorMg17
set_option linter.unusedVariables false
set_option linter.unusedSimpArgs false
namespace Go.Proofs.YtbkhllchjbjhgaaDoor
theorem own:ownKnob Tryd.prog.godebug=none:=by kernel_rfl
end Go.Proofs.YtbkhllchjbjhgaaDoor
