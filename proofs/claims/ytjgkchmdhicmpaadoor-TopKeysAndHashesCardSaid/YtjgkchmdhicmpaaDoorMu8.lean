/- Texts of one's own, merged: from: The plain logic (22): what a seat's laws rest on. Own work. -/
import Derived.Test.YtjgkchmdhicmpaaDoorRows
import Derived.Test.YtjgkchmdhicmpaaDoorTie
import Derived.Test.YtjgkchmdhicmpaaDoorCards
import Derived.SevenTiedAt
import Derived.ProofKit
import Derived.JoinedOf
import Derived.Test.YtjgkchmdhicmpaaDoorMu7
import Derived.Test.YtjgkchmdhicmpaaDoorMu6
set_option linter.unusedVariables false
set_option linter.unusedSimpArgs false
namespace Go.Proofs.YtjgkchmdhicmpaaDoor
theorem own : ownKnob Tryd.prog.godebug = none := by kernel_rfl
end Go.Proofs.YtjgkchmdhicmpaaDoor
