/- Texts of one's own, merged: from: Layer 17 on data: the program: sizes,bytes. Own work. -/
import Derived.Test.YtbkhllchjbjhgaaDoorProg
import Derived.Test.YtbkhllchjbjhgaaDoorMg17
import Derived.Test.YtbkhllchjbjhgaaDoorMg114
import Derived.Test.YtbkhllchjbjhgaaDoorMg110
import Derived.Test.YtbkhllchjbjhgaaDoorMg115
set_option linter.unusedVariables false
set_option linter.unusedSimpArgs false
namespace Go.Proofs.YtbkhllchjbjhgaaDoor
open Go.RowKit
theorem getF {l:List Fd} {i:Nat} (h:i<l.length):l[i]?=some (l.getD i default):=by
  rw[List.getD_eq_getElem?_getD,List.getElem?_eq_getElem h]; rfl
theorem getF_mem {l:List Fd} {i:Nat} (h:i<l.length):l.getD i default∈l:=by
  rw[List.getD_eq_getElem?_getD,List.getElem?_eq_getElem h]
  exact List.getElem_mem h
end Go.Proofs.YtbkhllchjbjhgaaDoor
