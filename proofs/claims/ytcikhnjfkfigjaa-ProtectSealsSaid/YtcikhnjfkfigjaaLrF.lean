/- ProtectSeals: the law of layer 18 on the guard is true for all numbers and fields,and leaves its arguments as they are. Conditions: none. Own work. -/
import Derived.Test.YtcikhnjfkfigjaaMg317
import Derived.Test.YtcikhnjfkfigjaaMg39
set_option linter.unusedVariables false
set_option linter.unusedSimpArgs false
namespace Go.Proofs.Ytcikhnjfkfigjaa
open Go.RowKit
namespace protectSeals
set_option maxRecDepth 100000
def ss:List ParSh:=[.one (.int .i64),.one (.sl [.int .i64,.sl [.int .u8]]),.one (.sl [.int .i64,.sl [.int .u8]])]
theorem hss:allSome (parOf Try.prog) Try.f6.params.toList=some ss:=by kernel_rfl
def G0:Glob:=[]
theorem den (xs:List D) (h:All2 HasPar xs ss):Den Try.prog G0 6 xs (.w (.c (.d (.bool true)))):=by
  obtain⟨x0,r0,rfl,h0,h⟩:=all2_cons h
  obtain⟨x1,r1,rfl,h1,h⟩:=all2_cons h
  obtain⟨x2,r2,rfl,h2,h⟩:=all2_cons h
  obtain rfl:=all2_nil h
  obtain⟨l0,rfl,k0,j0⟩:=is_i64 h0
  obtain⟨l1,rfl,k1,j1⟩:=is_fields h1
  obtain⟨l2,rfl,k2,j2⟩:=is_fields h2
  exact pseals_c G0 l0 k0 j0 l1 k1 j1 l2 k2 j2
theorem lifted (os:Os) (started:os.Started) (H:Type) (enc:TypeId×Value→H) :
    ReturnsInHanded {} Try.checked os 6 .any (Rows.protectSealsSpec.pre6 enc Try.prog Try.f6 Rows.protectSealsRow.domain false) (Rows.protectSealsSpec.post enc Try.prog Try.f6 false true false false):=by
  refine returnsInHanded_of_change (C:=Try.checked) own started (by kernel_rfl) Try.func6
    (ChangeSpec.witness6 (enc:=enc) (C:=Try.checked) false ⟨#[],(ss.map zeroPar).toArray,[]⟩ 8 (by kernel_rfl) (by kernel_rfl) (by kernel_rfl) (by kernel_rfl)) ?_
  intro W base args ds gs before hval hW _ _
  exact (law_calls (P:=Try.prog) (s:=Rows.protectSealsSpec) rfl hss rfl (by kernel_rfl) (readable_mk (by kernel_rfl)) (tb:=4) (by kernel_rfl) Try.underlying4 (fun ds hd=>by
      match ds,hd with
      | [d0,d1,d2],_=>rfl) (G:=G0) den hval hW (fun p hp=>by cases hp))
theorem row:Rows.ProtectSealsSaid :=
  OpenClaim.holds_of_wide 6 Try.f6 rfl rfl rfl rfl rfl rfl rfl ⟨rfl,rfl,rfl,rfl,rfl⟩ rfl rfl rfl rfl rfl (by kernel_rfl) Try.func6 (by kernel_rfl)
    (of_decide_eq_true (by kernel_rfl)) (by unfold Func.isWrapper; first | (rw[if_pos (by decide +kernel)]; kernel_rfl) | (rw[if_neg (by decide +kernel)]; exact⟨rfl,rfl⟩))
    (fun os started H enc _=>lifted os started H enc)
theorem proved:Rows.ProtectSealsSaid:=row
end protectSeals
end Go.Proofs.Ytcikhnjfkfigjaa
