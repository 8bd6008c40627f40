/- The laws of layer 12: the sanity check. Own work. -/
import Derived.Test.YtibpaciljnfpmaaPl7
set_option linter.unusedVariables false
set_option linter.unusedSimpArgs false
namespace Go.Proofs.Ytibpaciljnfpmaa
open Go.RowKit

end Go.Proofs.Ytibpaciljnfpmaa
