/- ExchangeWidens: the law of layer 23 on greater errors and drift bounds is true for every input,and leaves its arguments as they are. Conditions: none. Own work. -/
import Derived.Test.YtjhaklohdflppaaMg114
import Derived.Test.YtjhaklohdflppaaMg19
set_option linter.unusedVariables false
set_option linter.unusedSimpArgs false
namespace Go.Proofs.Ytjhaklohdflppaa
open Go.RowKit
namespace exchangeWidens
set_option maxRecDepth 100000
def ss:List d7:=[.one (.sl [.int .i64]),.one (.int .i64),.one (.int .i64),.one (.int .i64),.one (.int .i64)]
theorem hss:ao (gw Try.prog) Try.f4.params.toList=some ss:=by kernel_rfl
def G0:am:=[]
theorem den (xs:List D) (h:aa fu xs ss):bc Try.prog G0 4 xs (.w (.c (.d (.bool true)))):=by
  obtain⟨x0,r0,rfl,h0,h⟩:=fV h;obtain⟨x1,r1,rfl,h1,h⟩:=fV h;obtain⟨x2,r2,rfl,h2,h⟩:=fV h;obtain⟨x3,r3,rfl,h3,h⟩:=fV h;obtain⟨x4,r4,rfl,h4,h⟩:=fV h;obtain rfl:=yG h;obtain⟨l0,rfl,k0,j0⟩:=zw h0;obtain⟨l1,rfl,k1,j1⟩:=gk h1;obtain⟨l2,rfl,k2,j2⟩:=gk h2;obtain⟨l3,rfl,k3,j3⟩:=gk h3;obtain⟨l4,rfl,k4,j4⟩:=gk h4;exact yU G0 l0 k0 j0 l1 k1 j1 l2 k2 j2 l3 k3 j3 l4 k4 j4
theorem lifted (os:Os) (started:os.Started) (H:Type) (enc:TypeId×Value→H) :
    ReturnsInHanded {} Try.checked os 4 .any (Rows.exchangeWidensSpec.pre6 enc Try.prog Try.f4 Rows.exchangeWidensRow.domain false) (Rows.exchangeWidensSpec.post enc Try.prog Try.f4 false true false false):=by
  refine returnsInHanded_of_change (C:=Try.checked) own started (by kernel_rfl) Try.func4
    (ChangeSpec.witness6 (enc:=enc) (C:=Try.checked) false ⟨#[],(ss.map zu).toArray,[]⟩ 8 (by kernel_rfl) (by kernel_rfl) (by kernel_rfl) (by kernel_rfl)) ?_
  intro W base args ds gs before hval hW _ _;exact (xV (P:=Try.prog) (s:=Rows.exchangeWidensSpec) rfl hss rfl (by kernel_rfl) (wG (by kernel_rfl)) (tb:=4) (by kernel_rfl) Try.underlying4 (fun ds hd=>by
      match ds,hd with
      | [d0,d1,d2,d3,d4],_=>rfl) (G:=G0) den hval hW (fun p hp=>by cases hp))
theorem row:Rows.ExchangeWidensSaid :=
  OpenClaim.holds_of_wide 4 Try.f4 rfl rfl rfl rfl rfl rfl rfl ⟨rfl,rfl,rfl,rfl,rfl⟩ rfl rfl rfl rfl rfl (by kernel_rfl) Try.func4 (by kernel_rfl)
    (of_decide_eq_true (by kernel_rfl)) (by unfold Func.isWrapper; first | (rw[if_pos (by decide +kernel)]; kernel_rfl) | (rw[if_neg (by decide +kernel)]; exact⟨rfl,rfl⟩))
    (fun os started H enc _=>lifted os started H enc)
theorem proved:Rows.ExchangeWidensSaid:=row
end exchangeWidens
end Go.Proofs.Ytjhaklohdflppaa
