/- The plain logic (22): what a seat's laws rest on. Own work. -/
import Derived.Test.YtakkgbpgobbcmaaDoorRows
import Derived.Test.YtakkgbpgobbcmaaDoorTie
import Derived.Test.YtakkgbpgobbcmaaDoorCards
import Derived.SevenTiedAt
import Derived.Test.YtakkgbpgobbcmaaDoorAlU
import Derived.Test.YtakkgbpgobbcmaaDoorAlW
import Derived.ProofKit
import Derived.JoinedOf
set_option linter.unusedVariables false
set_option linter.unusedSimpArgs false
namespace Go.Proofs.YtakkgbpgobbcmaaDoor
theorem own : ownKnob Tryd.prog.godebug = none := by kernel_rfl
end Go.Proofs.YtakkgbpgobbcmaaDoor
