/- Texts of one's own, merged: from: The plain logic (22): what a seat's laws rest on. Own work. -/
import Derived.Test.YtpbmdbahkpfkdaaGreatDoorRows
import Derived.Test.YtpbmdbahkpfkdaaGreatDoorTie
import Derived.Test.YtpbmdbahkpfkdaaGreatDoorCards
import Derived.SevenTiedAt
import Derived.ProofKit
import Derived.JoinedOf
import Derived.Test.YtpbmdbahkpfkdaaGreatDoorMg18
import Derived.Test.YtpbmdbahkpfkdaaGreatDoorMg17
set_option linter.unusedVariables false
set_option linter.unusedSimpArgs false
namespace Go.Proofs.YtpbmdbahkpfkdaaGreatDoor
theorem own:ownKnob Tryz.prog.godebug=none:=by kernel_rfl
end Go.Proofs.YtpbmdbahkpfkdaaGreatDoor
namespace Go.Proofs.YtpbmdbahkpfkdaaGreatDoor
open Go.RowKit
def fitI (n:Int):Prop:=-9223372036854775808≤n∧n≤9223372036854775807
end Go.Proofs.YtpbmdbahkpfkdaaGreatDoor
