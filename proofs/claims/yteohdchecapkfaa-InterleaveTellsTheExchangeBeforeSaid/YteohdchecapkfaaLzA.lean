/- InterleaveTellsTheExchangeBefore: the law of layer 24: each answer tells the exchange before it,is true for every input,and leaves its arguments as they are. Conditions: none. Own work. -/
import Derived.Test.YteohdchecapkfaaMg114
import Derived.Test.YteohdchecapkfaaMg19
set_option linter.unusedVariables false
set_option linter.unusedSimpArgs false
namespace Go.Proofs.Yteohdchecapkfaa
open Go.RowKit
namespace interleaveTellsTheExchangeBefore
set_option maxRecDepth 100000
def ss:List ez:=[.one (.sl [.int .i64]),.one .bool]
theorem hss:ar (g7 Try.prog) Try.f3.params.toList=some ss:=by kernel_rfl
def G0:ap:=[]
theorem den (xs:List D) (h:ab fY xs ss):br Try.prog G0 3 xs (.w (.c (.d (.bool true)))):=by
  obtain⟨x0,r0,rfl,h0,h⟩:=nU h;obtain⟨x1,r1,rfl,h1,h⟩:=nU h;obtain rfl:=zi h;obtain⟨l0,rfl,k0,j0⟩:=z0 h0;obtain⟨l1,rfl⟩:=zZ h1;exact zq G0 l0 k0 j0 l1
theorem lifted (os:Os) (started:os.Started) (H:Type) (enc:TypeId×Value→H) :
    ReturnsInHanded {} Try.checked os 3 .any (Rows.interleaveTellsTheExchangeBeforeSpec.pre6 enc Try.prog Try.f3 Rows.interleaveTellsTheExchangeBeforeRow.domain false) (Rows.interleaveTellsTheExchangeBeforeSpec.post enc Try.prog Try.f3 false true false false):=by
  refine returnsInHanded_of_change (C:=Try.checked) own started (by kernel_rfl) Try.func3
    (ChangeSpec.witness6 (enc:=enc) (C:=Try.checked) false ⟨#[],(ss.map zY).toArray,[]⟩ 8 (by kernel_rfl) (by kernel_rfl) (by kernel_rfl) (by kernel_rfl)) ?_
  intro W base args ds gs before hval hW _ _;exact (yB (P:=Try.prog) (s:=Rows.interleaveTellsTheExchangeBeforeSpec) rfl hss rfl (by kernel_rfl) (xn (by kernel_rfl)) (tb:=4) (by kernel_rfl) Try.underlying4 (fun ds hd=>by
      match ds,hd with
      | [d0,d1],_=>rfl) (G:=G0) den hval hW (fun p hp=>by cases hp))
theorem row:Rows.InterleaveTellsTheExchangeBeforeSaid :=
  OpenClaim.holds_of_wide 3 Try.f3 rfl rfl rfl rfl rfl rfl rfl ⟨rfl,rfl,rfl,rfl,rfl⟩ rfl rfl rfl rfl rfl (by kernel_rfl) Try.func3 (by kernel_rfl)
    (of_decide_eq_true (by kernel_rfl)) (by unfold Func.isWrapper; first | (rw[if_pos (by decide +kernel)]; kernel_rfl) | (rw[if_neg (by decide +kernel)]; exact⟨rfl,rfl⟩))
    (fun os started H enc _=>lifted os started H enc)
theorem proved:Rows.InterleaveTellsTheExchangeBeforeSaid:=row
end interleaveTellsTheExchangeBefore
end Go.Proofs.Yteohdchecapkfaa
