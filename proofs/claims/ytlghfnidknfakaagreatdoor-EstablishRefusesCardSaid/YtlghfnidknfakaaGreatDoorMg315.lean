/- Texts of one's own, merged: from: The plain logic (25): calls that change a variable of the caller's: a box of data. Own work. -/
import Derived.Shelf.Abstract
import Derived.Test.YtlghfnidknfakaaGreatDoorMg37
import Derived.Test.YtlghfnidknfakaaGreatDoorMg38
set_option linter.unusedVariables false
set_option linter.unusedSimpArgs false
namespace Go.Proofs.YtlghfnidknfakaaGreatDoor
open Go.RowKit
section
variable {P:Program} {G:ai}
end
section
variable {P:Program} {G:ai}
end
end Go.Proofs.YtlghfnidknfakaaGreatDoor
