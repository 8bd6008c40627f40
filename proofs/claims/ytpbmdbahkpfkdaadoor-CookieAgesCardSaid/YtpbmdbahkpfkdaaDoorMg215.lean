/- Texts of one's own, merged: from: Layer 17,without code: extension fields,their sizes and bytes,and what is read of bytes. Own work. -/
import Derived.Test.YtpbmdbahkpfkdaaDoorMg210
import Derived.Test.YtpbmdbahkpfkdaaDoorMg29
set_option linter.unusedVariables false
set_option linter.unusedSimpArgs false
namespace Go.Proofs.YtpbmdbahkpfkdaaDoor
open Go.RowKit
structure Fd where
  ty:Int
  da:List UInt8
deriving DecidableEq,Inhabited
def fdD (f:Fd):D:=.agg [.int .i64 f.ty,.sl (f.da.map bD)]
theorem fdD_cells (f:Fd):(fdD f).cells=[.int .i64 f.ty,.sl (f.da.map bD)]:=rfl
theorem allSz_fd (l:List Fd):allSz 2 (l.map fdD)=true:=by
  unfold allSz
  rw[List.all_eq_true]
  intro d hd
  obtain⟨x,_,rfl⟩:=List.mem_map.1 hd
  rfl
theorem take_snoc {l:List Fd} {i:Nat} (h:i<l.length):l.take (i+1)=l.take i++[l.getD i default]:=by
  rw[List.take_add_one,List.getElem?_eq_getElem h,List.getD_eq_getElem?_getD,List.getElem?_eq_getElem h]
  rfl
end Go.Proofs.YtpbmdbahkpfkdaaDoor
