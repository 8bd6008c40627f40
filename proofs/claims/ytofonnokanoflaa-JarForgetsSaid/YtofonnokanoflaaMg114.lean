/- Texts of one's own, merged: from: The plain logic (25): calls that change a variable of the caller's: a box of data. Own work. -/
import Derived.Shelf.Abstract
import Derived.Test.YtofonnokanoflaaMg17
import Derived.Test.YtofonnokanoflaaMg18
set_option linter.unusedVariables false
set_option linter.unusedSimpArgs false
namespace Go.Proofs.Ytofonnokanoflaa
open Go.RowKit
section
variable {P:Program} {G:aj}
end
section
variable {P:Program} {G:aj}
end
end Go.Proofs.Ytofonnokanoflaa
