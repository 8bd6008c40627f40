/- JarNeverRepeats: the law of layer 22 on takings,puttings and moves is true for all its arguments,and leaves them as they are. Conditions: none. Own work. -/
import Derived.Test.YtofonnokanoflaaMg417
import Derived.Test.YtofonnokanoflaaMg49
set_option linter.unusedVariables false
set_option linter.unusedSimpArgs false
namespace Go.Proofs.Ytofonnokanoflaa
open Go.RowKit
namespace jarNeverRepeats
set_option maxRecDepth 100000
def ss:List iN:=[.one (.int .i64),.one (.sl [.int .i64])]
theorem hss:aF (mK Try.prog) Try.f3.params.toList=some ss:=by kernel_rfl
def G0:ak:=[]
theorem den (xs:List D) (h:af k9 xs ss):ap Try.prog G0 3 xs (.w (.c (.d (.bool true)))):=by
  obtain⟨x0,r0,rfl,h0,h⟩:=yg h;obtain⟨x1,r1,rfl,h1,h⟩:=yg h;obtain rfl:=JH h;obtain⟨l0,rfl,k0,j0⟩:=Ed h0;obtain⟨l1,rfl,k1,j1⟩:=L0 h1;exact Px G0 l0 k0 j0 l1 k1 j1
theorem lifted (os:Os) (started:os.Started) (H:Type) (enc:TypeId×Value→H) :
    ReturnsInHanded {} Try.checked os 3 .any (Rows.jarNeverRepeatsSpec.pre6 enc Try.prog Try.f3 Rows.jarNeverRepeatsRow.domain false) (Rows.jarNeverRepeatsSpec.post enc Try.prog Try.f3 false true false false):=by
  refine returnsInHanded_of_change (C:=Try.checked) own started (by kernel_rfl) Try.func3
    (ChangeSpec.witness6 (enc:=enc) (C:=Try.checked) false ⟨#[],(ss.map Li).toArray,[]⟩ 8 (by kernel_rfl) (by kernel_rfl) (by kernel_rfl) (by kernel_rfl)) ?_
  intro W base args ds gs before hval hW _ _;exact (Iu (P:=Try.prog) (s:=Rows.jarNeverRepeatsSpec) rfl hss rfl (by kernel_rfl) (He (by kernel_rfl)) (tb:=4) (by kernel_rfl) Try.underlying4 (fun ds hd=>by
      match ds,hd with
      | [d0,d1],_=>rfl) (G:=G0) den hval hW (fun p hp=>by cases hp))
theorem row:Rows.JarNeverRepeatsSaid :=
  OpenClaim.holds_of_wide 3 Try.f3 rfl rfl rfl rfl rfl rfl rfl ⟨rfl,rfl,rfl,rfl,rfl⟩ rfl rfl rfl rfl rfl (by kernel_rfl) Try.func3 (by kernel_rfl)
    (of_decide_eq_true (by kernel_rfl)) (by unfold Func.isWrapper; first | (rw[if_pos (by decide +kernel)]; kernel_rfl) | (rw[if_neg (by decide +kernel)]; exact⟨rfl,rfl⟩))
    (fun os started H enc _=>lifted os started H enc)
theorem proved:Rows.JarNeverRepeatsSaid:=row
end jarNeverRepeats
end Go.Proofs.Ytofonnokanoflaa
