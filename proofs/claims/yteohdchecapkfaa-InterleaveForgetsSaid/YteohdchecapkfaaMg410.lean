/- Texts of one's own, merged: from: The plain logic (25): calls that change a variable of the caller's: a box of data. Own work. -/
import Derived.Shelf.Abstract
import Derived.Test.YteohdchecapkfaaMg47
import Derived.Test.YteohdchecapkfaaMg48
set_option linter.unusedVariables false
set_option linter.unusedSimpArgs false
namespace Go.Proofs.Yteohdchecapkfaa
open Go.RowKit
section
variable {P:Program} {G:au}
end
end Go.Proofs.Yteohdchecapkfaa
