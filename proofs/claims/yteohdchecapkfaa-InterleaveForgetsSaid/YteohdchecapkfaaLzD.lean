/- InterleaveForgets: the law of layer 24: how long a server remembers,is true for every input,and leaves its arguments as they are. Conditions: none. Own work. -/
import Derived.Test.YteohdchecapkfaaMg414
import Derived.Test.YteohdchecapkfaaMg49
set_option linter.unusedVariables false
set_option linter.unusedSimpArgs false
namespace Go.Proofs.Yteohdchecapkfaa
open Go.RowKit
namespace interleaveForgets
set_option maxRecDepth 100000
def ss:List dK:=[.one (.int .u8),.one (.int .u64)]
theorem hss:ar (gd Try.prog) Try.f6.params.toList=some ss:=by kernel_rfl
def G0:au:=[]
theorem den (xs:List D) (h:ab fe xs ss):a7 Try.prog G0 6 xs (.w (.c (.d (.bool true)))):=by
  obtain⟨x0,r0,rfl,h0,h⟩:=mC h;obtain⟨x1,r1,rfl,h1,h⟩:=mC h;obtain rfl:=wY h;obtain⟨l0,rfl⟩:=yG h0;obtain⟨l1,rfl,k1⟩:=yi h1;exact w6 G0 l0 l1 k1
theorem lifted (os:Os) (started:os.Started) (H:Type) (enc:TypeId×Value→H) :
    ReturnsInHanded {} Try.checked os 6 .any (Rows.interleaveForgetsSpec.pre6 enc Try.prog Try.f6 Rows.interleaveForgetsRow.domain false) (Rows.interleaveForgetsSpec.post enc Try.prog Try.f6 false true false false):=by
  refine returnsInHanded_of_change (C:=Try.checked) own started (by kernel_rfl) Try.func6
    (ChangeSpec.witness6 (enc:=enc) (C:=Try.checked) false ⟨#[],(ss.map xD).toArray,[]⟩ 8 (by kernel_rfl) (by kernel_rfl) (by kernel_rfl) (by kernel_rfl)) ?_
  intro W base args ds gs before hval hW _ _;exact (v9 (P:=Try.prog) (s:=Rows.interleaveForgetsSpec) rfl hss rfl (by kernel_rfl) (uQ (by kernel_rfl)) (tb:=4) (by kernel_rfl) Try.underlying4 (fun ds hd=>by
      match ds,hd with
      | [d0,d1],_=>rfl) (G:=G0) den hval hW (fun p hp=>by cases hp))
theorem row:Rows.InterleaveForgetsSaid :=
  OpenClaim.holds_of_wide 6 Try.f6 rfl rfl rfl rfl rfl rfl rfl ⟨rfl,rfl,rfl,rfl,rfl⟩ rfl rfl rfl rfl rfl (by kernel_rfl) Try.func6 (by kernel_rfl)
    (of_decide_eq_true (by kernel_rfl)) (by unfold Func.isWrapper; first | (rw[if_pos (by decide +kernel)]; kernel_rfl) | (rw[if_neg (by decide +kernel)]; exact⟨rfl,rfl⟩))
    (fun os started H enc _=>lifted os started H enc)
theorem proved:Rows.InterleaveForgetsSaid:=row
end interleaveForgets
end Go.Proofs.Yteohdchecapkfaa
