/- InterleaveRefusesStrangers: the law of layer 24: an answer of a stranger is refused,is true for every input,and leaves its arguments as they are. Conditions: none. Own work. -/
import Derived.Test.YteohdchecapkfaaMg214
import Derived.Test.YteohdchecapkfaaMg29
set_option linter.unusedVariables false
set_option linter.unusedSimpArgs false
namespace Go.Proofs.Yteohdchecapkfaa
open Go.RowKit
namespace interleaveRefusesStrangers
set_option maxRecDepth 100000
def ss:List dV:=[.one (.sl [.int .i64]),.one (.int .u64)]
theorem hss:ar (gz Try.prog) Try.f4.params.toList=some ss:=by kernel_rfl
def G0:ap:=[]
theorem den (xs:List D) (h:aa fq xs ss):bh Try.prog G0 4 xs (.w (.c (.d (.bool true)))):=by
  obtain⟨x0,r0,rfl,h0,h⟩:=nv h;obtain⟨x1,r1,rfl,h1,h⟩:=nv h;obtain rfl:=yL h;obtain⟨l0,rfl,k0,j0⟩:=zu h0;obtain⟨l1,rfl,k1⟩:=Ab h1;exact yV G0 l0 k0 j0 l1 k1
theorem lifted (os:Os) (started:os.Started) (H:Type) (enc:TypeId×Value→H) :
    ReturnsInHanded {} Try.checked os 4 .any (Rows.interleaveRefusesStrangersSpec.pre6 enc Try.prog Try.f4 Rows.interleaveRefusesStrangersRow.domain false) (Rows.interleaveRefusesStrangersSpec.post enc Try.prog Try.f4 false true false false):=by
  refine returnsInHanded_of_change (C:=Try.checked) own started (by kernel_rfl) Try.func4
    (ChangeSpec.witness6 (enc:=enc) (C:=Try.checked) false ⟨#[],(ss.map zt).toArray,[]⟩ 8 (by kernel_rfl) (by kernel_rfl) (by kernel_rfl) (by kernel_rfl)) ?_
  intro W base args ds gs before hval hW _ _;exact (x5 (P:=Try.prog) (s:=Rows.interleaveRefusesStrangersSpec) rfl hss rfl (by kernel_rfl) (wQ (by kernel_rfl)) (tb:=4) (by kernel_rfl) Try.underlying4 (fun ds hd=>by
      match ds,hd with
      | [d0,d1],_=>rfl) (G:=G0) den hval hW (fun p hp=>by cases hp))
theorem row:Rows.InterleaveRefusesStrangersSaid :=
  OpenClaim.holds_of_wide 4 Try.f4 rfl rfl rfl rfl rfl rfl rfl ⟨rfl,rfl,rfl,rfl,rfl⟩ rfl rfl rfl rfl rfl (by kernel_rfl) Try.func4 (by kernel_rfl)
    (of_decide_eq_true (by kernel_rfl)) (by unfold Func.isWrapper; first | (rw[if_pos (by decide +kernel)]; kernel_rfl) | (rw[if_neg (by decide +kernel)]; exact⟨rfl,rfl⟩))
    (fun os started H enc _=>lifted os started H enc)
theorem proved:Rows.InterleaveRefusesStrangersSaid:=row
end interleaveRefusesStrangers
end Go.Proofs.Yteohdchecapkfaa
