/- Texts of one's own, merged: from: The plain logic (25): calls that change a variable of the caller's: a box of data. Own work. -/
import Derived.Shelf.Abstract
import Derived.Test.YtbkhllchjbjhgaaDoorMg17
import Derived.Test.YtbkhllchjbjhgaaDoorMg18
set_option linter.unusedVariables false
set_option linter.unusedSimpArgs false
namespace Go.Proofs.YtbkhllchjbjhgaaDoor
open Go.RowKit
section
variable {P:Program} {G:Glob}
end
end Go.Proofs.YtbkhllchjbjhgaaDoor
namespace Go.Proofs.YtbkhllchjbjhgaaDoor
open Go.RowKit
section
variable {P:Program} {G:Glob}
end
end Go.Proofs.YtbkhllchjbjhgaaDoor
