/- ExchangeHoldsTrueTime: the law of layer 23 that the span contains true time holds for every input,and leaves its arguments as they are. Conditions: none. Own work. -/
import Derived.Test.YtjhaklohdflppaaMg114
import Derived.Test.YtjhaklohdflppaaMg19
set_option linter.unusedVariables false
set_option linter.unusedSimpArgs false
namespace Go.Proofs.Ytjhaklohdflppaa
open Go.RowKit
namespace exchangeHoldsTrueTime
set_option maxRecDepth 100000
def ss:List fD:=[.one (.sl [.int .i64]),.one (.int .i64),.one (.int .i64)]
theorem hss:az (iV Try.prog) Try.f3.params.toList=some ss:=by kernel_rfl
def G0:av:=[]
theorem den (xs:List D) (h:aj gW xs ss):bd Try.prog G0 3 xs (.w (.c (.d (.bool true)))):=by
  obtain⟨x0,r0,rfl,h0,h⟩:=lA h;obtain⟨x1,r1,rfl,h1,h⟩:=lA h;obtain⟨x2,r2,rfl,h2,h⟩:=lA h;obtain rfl:=Bi h;obtain⟨l0,rfl,k0,j0⟩:=B5 h0;obtain⟨l1,rfl,k1,j1⟩:=mK h1;obtain⟨l2,rfl,k2,j2⟩:=mK h2;exact Bv G0 l0 k0 j0 l1 k1 j1 l2 k2 j2
theorem lifted (os:Os) (started:os.Started) (H:Type) (enc:TypeId×Value→H) :
    ReturnsInHanded {} Try.checked os 3 .any (Rows.exchangeHoldsTrueTimeSpec.pre6 enc Try.prog Try.f3 Rows.exchangeHoldsTrueTimeRow.domain false) (Rows.exchangeHoldsTrueTimeSpec.post enc Try.prog Try.f3 false true false false):=by
  refine returnsInHanded_of_change (C:=Try.checked) own started (by kernel_rfl) Try.func3
    (ChangeSpec.witness6 (enc:=enc) (C:=Try.checked) false ⟨#[],(ss.map B4).toArray,[]⟩ 8 (by kernel_rfl) (by kernel_rfl) (by kernel_rfl) (by kernel_rfl)) ?_
  intro W base args ds gs before hval hW _ _;exact (Ax (P:=Try.prog) (s:=Rows.exchangeHoldsTrueTimeSpec) rfl hss rfl (by kernel_rfl) (zg (by kernel_rfl)) (tb:=4) (by kernel_rfl) Try.underlying4 (fun ds hd=>by
      match ds,hd with
      | [d0,d1,d2],_=>rfl) (G:=G0) den hval hW (fun p hp=>by cases hp))
theorem row:Rows.ExchangeHoldsTrueTimeSaid :=
  OpenClaim.holds_of_wide 3 Try.f3 rfl rfl rfl rfl rfl rfl rfl ⟨rfl,rfl,rfl,rfl,rfl⟩ rfl rfl rfl rfl rfl (by kernel_rfl) Try.func3 (by kernel_rfl)
    (of_decide_eq_true (by kernel_rfl)) (by unfold Func.isWrapper; first | (rw[if_pos (by decide +kernel)]; kernel_rfl) | (rw[if_neg (by decide +kernel)]; exact⟨rfl,rfl⟩))
    (fun os started H enc _=>lifted os started H enc)
theorem proved:Rows.ExchangeHoldsTrueTimeSaid:=row
end exchangeHoldsTrueTime
end Go.Proofs.Ytjhaklohdflppaa
