/- JarForgets: the law of layer 22 on moves to another network is true for all its arguments,and leaves them as they are. Conditions: none. Own work. -/
import Derived.Test.YtofonnokanoflaaMg117
import Derived.Test.YtofonnokanoflaaMg19
set_option linter.unusedVariables false
set_option linter.unusedSimpArgs false
namespace Go.Proofs.Ytofonnokanoflaa
open Go.RowKit
namespace jarForgets
set_option maxRecDepth 100000
def ss:List hY:=[.one (.int .i64),.one (.int .i64),.one (.int .i64)]
theorem hss:aC (lR Try.prog) Try.f4.params.toList=some ss:=by kernel_rfl
def G0:aj:=[]
theorem den (xs:List D) (h:af ke xs ss):ap Try.prog G0 4 xs (.w (.c (.d (.bool true)))):=by
  obtain⟨x0,r0,rfl,h0,h⟩:=qA h;obtain⟨x1,r1,rfl,h1,h⟩:=qA h;obtain⟨x2,r2,rfl,h2,h⟩:=qA h;obtain rfl:=HW h;obtain⟨l0,rfl,k0,j0⟩:=sZ h0;obtain⟨l1,rfl,k1,j1⟩:=sZ h1;obtain⟨l2,rfl,k2,j2⟩:=sZ h2;exact Nu G0 l0 k0 j0 l1 k1 j1 l2 k2 j2
theorem lifted (os:Os) (started:os.Started) (H:Type) (enc:TypeId×Value→H) :
    ReturnsInHanded {} Try.checked os 4 .any (Rows.jarForgetsSpec.pre6 enc Try.prog Try.f4 Rows.jarForgetsRow.domain false) (Rows.jarForgetsSpec.post enc Try.prog Try.f4 false true false false):=by
  refine returnsInHanded_of_change (C:=Try.checked) own started (by kernel_rfl) Try.func4
    (ChangeSpec.witness6 (enc:=enc) (C:=Try.checked) false ⟨#[],(ss.map Jw).toArray,[]⟩ 8 (by kernel_rfl) (by kernel_rfl) (by kernel_rfl) (by kernel_rfl)) ?_
  intro W base args ds gs before hval hW _ _;exact (GJ (P:=Try.prog) (s:=Rows.jarForgetsSpec) rfl hss rfl (by kernel_rfl) (Fs (by kernel_rfl)) (tb:=4) (by kernel_rfl) Try.underlying4 (fun ds hd=>by
      match ds,hd with
      | [d0,d1,d2],_=>rfl) (G:=G0) den hval hW (fun p hp=>by cases hp))
theorem row:Rows.JarForgetsSaid :=
  OpenClaim.holds_of_wide 4 Try.f4 rfl rfl rfl rfl rfl rfl rfl ⟨rfl,rfl,rfl,rfl,rfl⟩ rfl rfl rfl rfl rfl (by kernel_rfl) Try.func4 (by kernel_rfl)
    (of_decide_eq_true (by kernel_rfl)) (by unfold Func.isWrapper; first | (rw[if_pos (by decide +kernel)]; kernel_rfl) | (rw[if_neg (by decide +kernel)]; exact⟨rfl,rfl⟩))
    (fun os started H enc _=>lifted os started H enc)
theorem proved:Rows.JarForgetsSaid:=row
end jarForgets
end Go.Proofs.Ytofonnokanoflaa
