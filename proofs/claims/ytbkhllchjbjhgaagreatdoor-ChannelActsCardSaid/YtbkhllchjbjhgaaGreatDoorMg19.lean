/- Texts of one's own, merged: from: The plain logic (22): what a seat's laws rest on. Own work. -/
import Derived.Test.YtbkhllchjbjhgaaGreatDoorRows
import Derived.Test.YtbkhllchjbjhgaaGreatDoorTie
import Derived.Test.YtbkhllchjbjhgaaGreatDoorCards
import Derived.SevenTiedAt
import Derived.ProofKit
import Derived.JoinedOf
import Derived.Test.YtbkhllchjbjhgaaGreatDoorMg18
import Derived.Test.YtbkhllchjbjhgaaGreatDoorMg17
set_option linter.unusedVariables false
set_option linter.unusedSimpArgs false
namespace Go.Proofs.YtbkhllchjbjhgaaGreatDoor
theorem own:ownKnob Tryz.prog.godebug=none:=by kernel_rfl
end Go.Proofs.YtbkhllchjbjhgaaGreatDoor
