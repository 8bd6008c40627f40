/- JarRefills: the law of layer 22 on answers that fill a jar is true for all its arguments,and leaves them as they are. Conditions: none. Own work. -/
import Derived.Test.YtofonnokanoflaaGreatMz217
import Derived.Test.YtofonnokanoflaaGreatMz29
set_option linter.unusedVariables false
set_option linter.unusedSimpArgs false
namespace Go.Proofs.YtofonnokanoflaaGreat
open Go.RowKit
namespace jarRefills
set_option maxRecDepth 100000
def ss:List ma:=[.one (.int .i64),.one (.int .i64),.one (.int .i64),.one (.int .i64)]
theorem hss:aX (sU Tryz.prog) Tryz.f4.params.toList=some ss:=by kernel_rfl
def G0:ah:=[]
theorem den (xs:List D) (h:ai pL xs ss):aB Tryz.prog G0 4 xs (.w (.c (.d (.bool true)))):=by
  obtain⟨x0,r0,rfl,h0,h⟩:=uo h;obtain⟨x1,r1,rfl,h1,h⟩:=uo h;obtain⟨x2,r2,rfl,h2,h⟩:=uo h;obtain⟨x3,r3,rfl,h3,h⟩:=uo h;obtain rfl:=SU h;obtain⟨l0,rfl,k0,j0⟩:=wa h0;obtain⟨l1,rfl,k1,j1⟩:=wa h1;obtain⟨l2,rfl,k2,j2⟩:=wa h2;obtain⟨l3,rfl,k3,j3⟩:=wa h3;exact Z5 G0 l0 k0 j0 l1 k1 j1 l2 k2 j2 l3 k3 j3
theorem lifted (os:Os) (started:os.Started) (H:Type) (enc:TypeId×Value→H) :
    ReturnsInHanded {} Tryz.checked os 4 .any (Rows.jarRefillsSpec.pre6 enc Tryz.prog Tryz.f4 Rows.jarRefillsRow.domain false) (Rows.jarRefillsSpec.post enc Tryz.prog Tryz.f4 false true false false):=by
  refine returnsInHanded_of_change (C:=Tryz.checked) own started (by kernel_rfl) Tryz.func4
    (ChangeSpec.witness6 (enc:=enc) (C:=Tryz.checked) false ⟨#[],(ss.map Uz).toArray,[]⟩ 8 (by kernel_rfl) (by kernel_rfl) (by kernel_rfl) (by kernel_rfl)) ?_
  intro W base args ds gs before hval hW _ _;exact (RH (P:=Tryz.prog) (s:=Rows.jarRefillsSpec) rfl hss rfl (by kernel_rfl) (Qr (by kernel_rfl)) (tb:=4) (by kernel_rfl) Tryz.underlying4 (fun ds hd=>by
      match ds,hd with
      | [d0,d1,d2,d3],_=>rfl) (G:=G0) den hval hW (fun p hp=>by cases hp))
theorem row:Rows.JarRefillsSaid :=
  OpenClaim.holds_of_wide 4 Tryz.f4 rfl rfl rfl rfl rfl rfl rfl ⟨rfl,rfl,rfl,rfl,rfl⟩ rfl rfl rfl rfl rfl (by kernel_rfl) Tryz.func4 (by kernel_rfl)
    (of_decide_eq_true (by kernel_rfl)) (by unfold Func.isWrapper; first | (rw[if_pos (by decide +kernel)]; kernel_rfl) | (rw[if_neg (by decide +kernel)]; exact⟨rfl,rfl⟩))
    (fun os started H enc _=>lifted os started H enc)
theorem proved:Rows.JarRefillsSaid:=row
end jarRefills
end Go.Proofs.YtofonnokanoflaaGreat
