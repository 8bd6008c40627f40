/- JarKeepsOrder: the law of layer 22 on the order of cookies is true for all its arguments,and leaves them as they are. Conditions: none. Own work. -/
import Derived.Test.YtofonnokanoflaaMg317
import Derived.Test.YtofonnokanoflaaMg39
set_option linter.unusedVariables false
set_option linter.unusedSimpArgs false
namespace Go.Proofs.Ytofonnokanoflaa
open Go.RowKit
namespace jarKeepsOrder
set_option maxRecDepth 100000
def ss:List iw:=[.one (.int .i64),.one (.int .i64),.one (.int .i64)]
theorem hss:aB (mu Try.prog) Try.f6.params.toList=some ss:=by kernel_rfl
def G0:ak:=[]
theorem den (xs:List D) (h:af kW xs ss):ar Try.prog G0 6 xs (.w (.c (.d (.bool true)))):=by
  obtain⟨x0,r0,rfl,h0,h⟩:=rn h;obtain⟨x1,r1,rfl,h1,h⟩:=rn h;obtain⟨x2,r2,rfl,h2,h⟩:=rn h;obtain rfl:=Ju h;obtain⟨l0,rfl,k0,j0⟩:=tU h0;obtain⟨l1,rfl,k1,j1⟩:=tU h1;obtain⟨l2,rfl,k2,j2⟩:=tU h2;exact Ph G0 l0 k0 j0 l1 k1 j1 l2 k2 j2
theorem lifted (os:Os) (started:os.Started) (H:Type) (enc:TypeId×Value→H) :
    ReturnsInHanded {} Try.checked os 6 .any (Rows.jarKeepsOrderSpec.pre6 enc Try.prog Try.f6 Rows.jarKeepsOrderRow.domain false) (Rows.jarKeepsOrderSpec.post enc Try.prog Try.f6 false true false false):=by
  refine returnsInHanded_of_change (C:=Try.checked) own started (by kernel_rfl) Try.func6
    (ChangeSpec.witness6 (enc:=enc) (C:=Try.checked) false ⟨#[],(ss.map K5).toArray,[]⟩ 8 (by kernel_rfl) (by kernel_rfl) (by kernel_rfl) (by kernel_rfl)) ?_
  intro W base args ds gs before hval hW _ _;exact (Ih (P:=Try.prog) (s:=Rows.jarKeepsOrderSpec) rfl hss rfl (by kernel_rfl) (G2 (by kernel_rfl)) (tb:=4) (by kernel_rfl) Try.underlying4 (fun ds hd=>by
      match ds,hd with
      | [d0,d1,d2],_=>rfl) (G:=G0) den hval hW (fun p hp=>by cases hp))
theorem row:Rows.JarKeepsOrderSaid :=
  OpenClaim.holds_of_wide 6 Try.f6 rfl rfl rfl rfl rfl rfl rfl ⟨rfl,rfl,rfl,rfl,rfl⟩ rfl rfl rfl rfl rfl (by kernel_rfl) Try.func6 (by kernel_rfl)
    (of_decide_eq_true (by kernel_rfl)) (by unfold Func.isWrapper; first | (rw[if_pos (by decide +kernel)]; kernel_rfl) | (rw[if_neg (by decide +kernel)]; exact⟨rfl,rfl⟩))
    (fun os started H enc _=>lifted os started H enc)
theorem proved:Rows.JarKeepsOrderSaid:=row
end jarKeepsOrder
end Go.Proofs.Ytofonnokanoflaa
