/- Layer 2 on data: turning words; the words before any block; the constants. Own work. -/
import Derived.Test.YtgepbpcolddgoaaPh0
set_option linter.unusedVariables false
set_option linter.unusedSimpArgs false
namespace Go.Proofs.Ytgepbpcolddgoaa
open Go.RowKit

theorem orW_comm (x y : UInt32) : orW x y = orW y x := UInt32.or_comm x y
end Go.Proofs.Ytgepbpcolddgoaa
