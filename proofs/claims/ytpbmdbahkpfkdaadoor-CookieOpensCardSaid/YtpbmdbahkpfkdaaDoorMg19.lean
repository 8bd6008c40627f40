/- Texts of one's own, merged: from: The plain logic (22): what a seat's laws rest on. Own work. -/
import Derived.Test.YtpbmdbahkpfkdaaDoorRows
import Derived.Test.YtpbmdbahkpfkdaaDoorTie
import Derived.Test.YtpbmdbahkpfkdaaDoorCards
import Derived.SevenTiedAt
import Derived.ProofKit
import Derived.JoinedOf
import Derived.Test.YtpbmdbahkpfkdaaDoorMg18
import Derived.Test.YtpbmdbahkpfkdaaDoorMg17
set_option linter.unusedVariables false
set_option linter.unusedSimpArgs false
namespace Go.Proofs.YtpbmdbahkpfkdaaDoor
theorem own:ownKnob Tryd.prog.godebug=none:=by kernel_rfl
end Go.Proofs.YtpbmdbahkpfkdaaDoor
namespace Go.Proofs.YtpbmdbahkpfkdaaDoor
open Go.RowKit
end Go.Proofs.YtpbmdbahkpfkdaaDoor
