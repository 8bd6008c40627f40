/- Texts of one's own, merged: from: The plain logic (22): what a seat's laws rest on. Own work. -/
import Derived.Test.YteohdchecapkfaaRows
import Derived.ProofKit
import Derived.JoinedOf
import Derived.Test.YteohdchecapkfaaMg48
import Derived.Test.YteohdchecapkfaaMg47
set_option linter.unusedVariables false
set_option linter.unusedSimpArgs false
namespace Go.Proofs.Yteohdchecapkfaa
theorem own:ownKnob Try.prog.godebug=none:=by kernel_rfl
open Go.RowKit
end Go.Proofs.Yteohdchecapkfaa
