/- JarQuestions: the law of layer 22 on what a question is,is true for all its arguments,and leaves them as they are. Conditions: none. Own work. -/
import Derived.Test.YtofonnokanoflaaMg217
import Derived.Test.YtofonnokanoflaaMg29
set_option linter.unusedVariables false
set_option linter.unusedSimpArgs false
namespace Go.Proofs.Ytofonnokanoflaa
open Go.RowKit
namespace jarQuestions
set_option maxRecDepth 100000
def ss:List jt:=[.one (.int .i64),.one (.int .i64),.one (.int .u64),.one (.int .i64),.one (.int .i64)]
theorem hss:aD (ol Try.prog) Try.f5.params.toList=some ss:=by kernel_rfl
def G0:aj:=[]
theorem den (xs:List D) (h:af mg xs ss):ar Try.prog G0 5 xs (.w (.c (.d (.bool true)))):=by
  obtain⟨x0,r0,rfl,h0,h⟩:=nk h;obtain⟨x1,r1,rfl,h1,h⟩:=nk h;obtain⟨x2,r2,rfl,h2,h⟩:=nk h;obtain⟨x3,r3,rfl,h3,h⟩:=nk h;obtain⟨x4,r4,rfl,h4,h⟩:=nk h;obtain rfl:=LR h;obtain⟨l0,rfl,k0,j0⟩:=qX h0;obtain⟨l1,rfl,k1,j1⟩:=qX h1;obtain⟨l2,rfl,k2⟩:=Qv h2;obtain⟨l3,rfl,k3,j3⟩:=qX h3;obtain⟨l4,rfl,k4,j4⟩:=qX h4;exact SV G0 l0 k0 j0 l1 k1 j1 l2 k2 l3 k3 j3 l4 k4 j4
theorem lifted (os:Os) (started:os.Started) (H:Type) (enc:TypeId×Value→H) :
    ReturnsInHanded {} Try.checked os 5 .any (Rows.jarQuestionsSpec.pre6 enc Try.prog Try.f5 Rows.jarQuestionsRow.domain false) (Rows.jarQuestionsSpec.post enc Try.prog Try.f5 false true false false):=by
  refine returnsInHanded_of_change (C:=Try.checked) own started (by kernel_rfl) Try.func5
    (ChangeSpec.witness6 (enc:=enc) (C:=Try.checked) false ⟨#[],(ss.map NO).toArray,[]⟩ 8 (by kernel_rfl) (by kernel_rfl) (by kernel_rfl) (by kernel_rfl)) ?_
  intro W base args ds gs before hval hW _ _;exact (KG (P:=Try.prog) (s:=Rows.jarQuestionsSpec) rfl hss rfl (by kernel_rfl) (Jo (by kernel_rfl)) (tb:=4) (by kernel_rfl) Try.underlying4 (fun ds hd=>by
      match ds,hd with
      | [d0,d1,d2,d3,d4],_=>rfl) (G:=G0) den hval hW (fun p hp=>by cases hp))
theorem row:Rows.JarQuestionsSaid :=
  OpenClaim.holds_of_wide 5 Try.f5 rfl rfl rfl rfl rfl rfl rfl ⟨rfl,rfl,rfl,rfl,rfl⟩ rfl rfl rfl rfl rfl (by kernel_rfl) Try.func5 (by kernel_rfl)
    (of_decide_eq_true (by kernel_rfl)) (by unfold Func.isWrapper; first | (rw[if_pos (by decide +kernel)]; kernel_rfl) | (rw[if_neg (by decide +kernel)]; exact⟨rfl,rfl⟩))
    (fun os started H enc _=>lifted os started H enc)
theorem proved:Rows.JarQuestionsSaid:=row
end jarQuestions
end Go.Proofs.Ytofonnokanoflaa
