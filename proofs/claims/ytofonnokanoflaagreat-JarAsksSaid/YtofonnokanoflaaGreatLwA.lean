/- JarAsks: the law of layer 22 on questions and answers is true for any jar and any bytes,and leaves its arguments as they are. Conditions: none. Own work. -/
import Derived.Test.YtofonnokanoflaaGreatMz117
import Derived.Test.YtofonnokanoflaaGreatMz19
set_option linter.unusedVariables false
set_option linter.unusedSimpArgs false
namespace Go.Proofs.YtofonnokanoflaaGreat
open Go.RowKit
namespace jarAsks
set_option maxRecDepth 100000
def ss:List kZ:=[.many [.sl [.int .u8],.sl [.int .u8],.sl [.sl [.int .u8]],.sl [.int .u8],.int .i64,.int .i64],.one (.int .u64),.one (.sl [.int .u8]),.one (.sl [.int .u8]),.one (.sl [.int .u8])]
theorem hss:aT (qS Tryz.prog) Tryz.f3.params.toList=some ss:=by kernel_rfl
def G0:ah:=[]
theorem den (xs:List D) (h:ai lR xs ss):au Tryz.prog G0 3 xs (.w (.c (.d (.bool true)))):=by
  obtain⟨x0,r0,rfl,h0,h⟩:=pK h;obtain⟨x1,r1,rfl,h1,h⟩:=pK h;obtain⟨x2,r2,rfl,h2,h⟩:=pK h;obtain⟨x3,r3,rfl,h3,h⟩:=pK h;obtain⟨x4,r4,rfl,h4,h⟩:=pK h;obtain rfl:=Qr h;obtain⟨c0,rfl,h0⟩:=Sa h0;obtain⟨y0_0,c0,rfl,g0_0,h0⟩:=nF h0;obtain⟨y0_1,c0,rfl,g0_1,h0⟩:=nF h0;obtain⟨y0_2,c0,rfl,g0_2,h0⟩:=nF h0;obtain⟨y0_3,c0,rfl,g0_3,h0⟩:=nF h0;obtain⟨y0_4,c0,rfl,g0_4,h0⟩:=nF h0;obtain⟨y0_5,c0,rfl,g0_5,h0⟩:=nF h0;obtain rfl:=Sb h0;obtain⟨l0_0,rfl,k0_0⟩:=mw g0_0;obtain⟨l0_1,rfl,k0_1⟩:=mw g0_1;obtain⟨l0_2,rfl,k0_2,j0_2⟩:=Qs g0_2;obtain⟨l0_3,rfl,k0_3⟩:=mw g0_3;obtain⟨l0_4,rfl,k0_4,j0_4⟩:=Ka g0_4;obtain⟨l0_5,rfl,k0_5,j0_5⟩:=Ka g0_5;obtain⟨l1,rfl,k1⟩:=UH h1;obtain⟨l2,rfl,k2⟩:=mw h2;obtain⟨l3,rfl,k3⟩:=mw h3;obtain⟨l4,rfl,k4⟩:=mw h4;exact W4 G0 l0_0 k0_0 l0_1 k0_1 l0_2 k0_2 j0_2 l0_3 k0_3 l0_4 k0_4 j0_4 l0_5 k0_5 j0_5 l1 k1 l2 k2 l3 k3 l4 k4
theorem lifted (os:Os) (started:os.Started) (H:Type) (enc:TypeId×Value→H) :
    ReturnsInHanded {} Tryz.checked os 3 .any (Rows.jarAsksSpec.pre6 enc Tryz.prog Tryz.f3 Rows.jarAsksRow.domain false) (Rows.jarAsksSpec.post enc Tryz.prog Tryz.f3 false true false false):=by
  refine returnsInHanded_of_change (C:=Tryz.checked) own started (by kernel_rfl) Tryz.func3
    (ChangeSpec.witness6 (enc:=enc) (C:=Tryz.checked) false ⟨#[],(ss.map R9).toArray,[]⟩ 8 (by kernel_rfl) (by kernel_rfl) (by kernel_rfl) (by kernel_rfl)) ?_
  intro W base args ds gs before hval hW _ _;exact (Pm (P:=Tryz.prog) (s:=Rows.jarAsksSpec) rfl hss rfl (by kernel_rfl) (NP (by kernel_rfl)) (tb:=4) (by kernel_rfl) Tryz.underlying4 (fun ds hd=>by
      match ds,hd with
      | [d0,d1,d2,d3,d4],_=>rfl) (G:=G0) den hval hW (fun p hp=>by cases hp))
theorem row:Rows.JarAsksSaid :=
  OpenClaim.holds_of_wide 3 Tryz.f3 rfl rfl rfl rfl rfl rfl rfl ⟨rfl,rfl,rfl,rfl,rfl⟩ rfl rfl rfl rfl rfl (by kernel_rfl) Tryz.func3 (by kernel_rfl)
    (of_decide_eq_true (by kernel_rfl)) (by unfold Func.isWrapper; first | (rw[if_pos (by decide +kernel)]; kernel_rfl) | (rw[if_neg (by decide +kernel)]; exact⟨rfl,rfl⟩))
    (fun os started H enc _=>lifted os started H enc)
theorem proved:Rows.JarAsksSaid:=row
end jarAsks
end Go.Proofs.YtofonnokanoflaaGreat
