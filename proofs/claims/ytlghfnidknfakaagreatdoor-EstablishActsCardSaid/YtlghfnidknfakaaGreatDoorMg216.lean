/- Texts of one's own, merged: from: The plain logic (25): calls that change a variable of the caller's: a box of data. Own work. -/
import Derived.Shelf.Abstract
import Derived.Test.YtlghfnidknfakaaGreatDoorMg27
import Derived.Test.YtlghfnidknfakaaGreatDoorMg28
set_option linter.unusedVariables false
set_option linter.unusedSimpArgs false
namespace Go.Proofs.YtlghfnidknfakaaGreatDoor
open Go.RowKit
section
variable {P:Program} {G:ah}
end
section
variable {P:Program} {G:ah}
end
end Go.Proofs.YtlghfnidknfakaaGreatDoor
