/- InterleaveQuestionsSayNothing: the law of layer 24: questions say nothing,is true for every input,and leaves its arguments as they are. Conditions: none. Own work. -/
import Derived.Test.YteohdchecapkfaaMg314
import Derived.Test.YteohdchecapkfaaMg39
set_option linter.unusedVariables false
set_option linter.unusedSimpArgs false
namespace Go.Proofs.Yteohdchecapkfaa
open Go.RowKit
namespace interleaveQuestionsSayNothing
set_option maxRecDepth 100000
def ss:List dP:=[.many [.bool,.bool,.int .u64,.int .i64,.int .i64,.int .i64,.int .u64,.int .u64],.one (.int .u64),.one (.int .i64)]
theorem hss:av (gp Try.prog) Try.f5.params.toList=some ss:=by kernel_rfl
def G0:ap:=[]
theorem den (xs:List D) (h:aa eh xs ss):aW Try.prog G0 5 xs (.w (.c (.d (.bool true)))):=by
  obtain⟨x0,r0,rfl,h0,h⟩:=jl h;obtain⟨x1,r1,rfl,h1,h⟩:=jl h;obtain⟨x2,r2,rfl,h2,h⟩:=jl h;obtain rfl:=xO h;obtain⟨c0,rfl,h0⟩:=yt h0;obtain⟨y0_0,c0,rfl,g0_0,h0⟩:=eb h0;obtain⟨y0_1,c0,rfl,g0_1,h0⟩:=eb h0;obtain⟨y0_2,c0,rfl,g0_2,h0⟩:=eb h0;obtain⟨y0_3,c0,rfl,g0_3,h0⟩:=eb h0;obtain⟨y0_4,c0,rfl,g0_4,h0⟩:=eb h0;obtain⟨y0_5,c0,rfl,g0_5,h0⟩:=eb h0;obtain⟨y0_6,c0,rfl,g0_6,h0⟩:=eb h0;obtain⟨y0_7,c0,rfl,g0_7,h0⟩:=eb h0;obtain rfl:=yu h0;obtain⟨l0_0,rfl⟩:=rm g0_0;obtain⟨l0_1,rfl⟩:=rm g0_1;obtain⟨l0_2,rfl,k0_2⟩:=ie g0_2;obtain⟨l0_3,rfl,k0_3,j0_3⟩:=ic g0_3;obtain⟨l0_4,rfl,k0_4,j0_4⟩:=ic g0_4;obtain⟨l0_5,rfl,k0_5,j0_5⟩:=ic g0_5;obtain⟨l0_6,rfl,k0_6⟩:=ie g0_6;obtain⟨l0_7,rfl,k0_7⟩:=ie g0_7;obtain⟨l1,rfl,k1⟩:=ie h1;obtain⟨l2,rfl,k2,j2⟩:=ic h2;exact xT G0 l0_0 l0_1 l0_2 k0_2 l0_3 k0_3 j0_3 l0_4 k0_4 j0_4 l0_5 k0_5 j0_5 l0_6 k0_6 l0_7 k0_7 l1 k1 l2 k2 j2
theorem lifted (os:Os) (started:os.Started) (H:Type) (enc:TypeId×Value→H) :
    ReturnsInHanded {} Try.checked os 5 .any (Rows.interleaveQuestionsSayNothingSpec.pre6 enc Try.prog Try.f5 Rows.interleaveQuestionsSayNothingRow.domain false) (Rows.interleaveQuestionsSayNothingSpec.post enc Try.prog Try.f5 false true false false):=by
  refine returnsInHanded_of_change (C:=Try.checked) own started (by kernel_rfl) Try.func5
    (ChangeSpec.witness6 (enc:=enc) (C:=Try.checked) false ⟨#[],(ss.map yr).toArray,[]⟩ 8 (by kernel_rfl) (by kernel_rfl) (by kernel_rfl) (by kernel_rfl)) ?_
  intro W base args ds gs before hval hW _ _;exact (w6 (P:=Try.prog) (s:=Rows.interleaveQuestionsSayNothingSpec) rfl hss rfl (by kernel_rfl) (vG (by kernel_rfl)) (tb:=4) (by kernel_rfl) Try.underlying4 (fun ds hd=>by
      match ds,hd with
      | [d0,d1,d2],_=>rfl) (G:=G0) den hval hW (fun p hp=>by cases hp))
theorem row:Rows.InterleaveQuestionsSayNothingSaid :=
  OpenClaim.holds_of_wide 5 Try.f5 rfl rfl rfl rfl rfl rfl rfl ⟨rfl,rfl,rfl,rfl,rfl⟩ rfl rfl rfl rfl rfl (by kernel_rfl) Try.func5 (by kernel_rfl)
    (of_decide_eq_true (by kernel_rfl)) (by unfold Func.isWrapper; first | (rw[if_pos (by decide +kernel)]; kernel_rfl) | (rw[if_neg (by decide +kernel)]; exact⟨rfl,rfl⟩))
    (fun os started H enc _=>lifted os started H enc)
theorem proved:Rows.InterleaveQuestionsSayNothingSaid:=row
end interleaveQuestionsSayNothing
end Go.Proofs.Yteohdchecapkfaa
