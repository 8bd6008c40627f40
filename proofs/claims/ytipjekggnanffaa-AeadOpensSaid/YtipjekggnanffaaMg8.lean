/- Texts of one's own, merged: from: The plain logic (22): what a seat's laws rest on. Own work. -/
import Derived.Test.YtipjekggnanffaaRows
import Derived.ProofKit
import Derived.JoinedOf
import Derived.Test.YtipjekggnanffaaMg7
import Derived.Test.YtipjekggnanffaaMg6
set_option linter.unusedVariables false
set_option linter.unusedSimpArgs false
namespace Go.Proofs.Ytipjekggnanffaa
theorem own : ownKnob Try.prog.godebug = none := by kernel_rfl
end Go.Proofs.Ytipjekggnanffaa
