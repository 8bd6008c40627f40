/- ChannelExports: the law of layer 20 on exported bytes is true for all numbers,labels and bytes,and leaves its arguments as they are. Conditions: none. Own work. -/
import Derived.Test.YtbkhllchjbjhgaaDoorMg114
import Derived.Test.YtbkhllchjbjhgaaDoorMg19
set_option linter.unusedVariables false
set_option linter.unusedSimpArgs false
namespace Go.Proofs.YtbkhllchjbjhgaaDoor
open Go.RowKit
namespace channelExports
set_option maxRecDepth 100000
def ss:List gv:=[.one (.int .i64),.one .str,.one (.sl [.int .u8]),.one (.int .i64),.one (.sl [.int .u8])]
theorem hss:aD (kp Tryd.prog) Tryd.f4.params.toList=some ss:=by kernel_rfl
noncomputable def G0:ak:=(ka Tryd.prog Rows.channelExportsRow.laid).getD []
theorem hG0:ka Tryd.prog Rows.channelExportsRow.laid=some G0:=by kernel_rfl
theorem den (xs:List D) (h:af i8 xs ss):ap Tryd.prog G0 4 xs (.w (.c (.d (.bool true)))):=by
  obtain⟨x0,r0,rfl,h0,h⟩:=jL h;obtain⟨x1,r1,rfl,h1,h⟩:=jL h;obtain⟨x2,r2,rfl,h2,h⟩:=jL h;obtain⟨x3,r3,rfl,h3,h⟩:=jL h;obtain⟨x4,r4,rfl,h4,h⟩:=jL h;obtain rfl:=Fz h;obtain⟨l0,rfl,k0,j0⟩:=Aq h0;obtain⟨l1,rfl,k1⟩:=IG h1;obtain⟨l2,rfl,k2⟩:=wF h2;obtain⟨l3,rfl,k3,j3⟩:=Aq h3;obtain⟨l4,rfl,k4⟩:=wF h4;exact J0 G0 l0 k0 j0 l1 k1 l2 k2 l3 k3 j3 l4 k4 (by kernel_rfl) (by kernel_rfl)
noncomputable def laidWorld (os:Os):World:={ World.holding Tryd.prog os ⟨#[],#[],[]⟩ with heap:=Fy Tryd.prog Rows.channelExportsRow.laid (World.holding Tryd.prog os ⟨#[],#[],[]⟩).heap }
noncomputable def ps0:List MemPlace:=((jS Tryd.prog ((laidWorld default).forCall (fun _ _=>0) ⟨#[],(ss.map yC).toArray,[]⟩).memory 8 (Rows.channelExportsRow.laid.map (·.1))).map (·.2)).getD []
theorem lifted (os:Os) (started:os.Started) (H:Type) (enc:TypeId×Value→H) :
    ReturnsInHanded {} Tryd.checked os 4 .any (fun w args=>(Rows.channelExportsSpec.pre enc Tryd.prog Tryd.f4 Rows.channelExportsRow.domain false w args∧laidMet Tryd.prog Rows.channelExportsRow.laid w)∧sizedMet enc Tryd.prog Tryd.f4 (OpenSpec.ofChange Rows.channelExportsSpec) false w args) (Rows.channelExportsSpec.post enc Tryd.prog Tryd.f4 false true false false):=by
  refine returnsInHanded_of_change_and (C:=Tryd.checked) (X:=fun w _=>laidMet Tryd.prog Rows.channelExportsRow.laid w) (fun _ _ _ hh h=>h.of_heap hh) own started (by kernel_rfl) Tryd.func4
    (ChangeSpec.witness_at (enc:=enc) (C:=Tryd.checked) (os:=os) (X:=fun w _=>laidMet Tryd.prog Rows.channelExportsRow.laid w) false (laidWorld os) (ss.map yC).toArray 8 rfl (by kernel_rfl) (by kernel_rfl) (by kernel_rfl) (by kernel_rfl) (by kernel_rfl) (Dj 8 ps0 (by kernel_rfl) (by kernel_rfl) (by kernel_rfl))) ?_
  intro W base args ds gs before hval hW _ _ hL _;obtain⟨_,hL,_⟩:=hL;exact (Eh (P:=Tryd.prog) (s:=Rows.channelExportsSpec) rfl hss rfl (by kernel_rfl) (CW (by kernel_rfl)) (tb:=4) (by kernel_rfl) Tryd.underlying4 (fun ds hd=>by
      match ds,hd with
      | [d0,d1,d2,d3,d4],_=>rfl) (G:=G0) den hval hW (yB hG0 hL))
theorem row:Rows.ChannelExportsSaid :=
  OpenClaim.holds_of_wide 4 Tryd.f4 rfl rfl rfl rfl rfl rfl rfl ⟨rfl,rfl,rfl,rfl,rfl⟩ rfl rfl rfl rfl rfl (by kernel_rfl) Tryd.func4 (by kernel_rfl)
    (of_decide_eq_true (by kernel_rfl)) (by unfold Func.isWrapper; first | (rw[if_pos (by decide +kernel)]; kernel_rfl) | (rw[if_neg (by decide +kernel)]; exact⟨rfl,rfl⟩))
    (fun os started H enc _=>lifted os started H enc)
theorem proved:Rows.ChannelExportsCardSaid :=
  Claim7.holds_tied_plain_at .later [] [.data, .data] true (true, "0a38cf13a29b026dc0f85d99362a8929205310e10a04505f4bc60bdb2bb0e8ab") false row (fun _ h => by cases h) (by kernel_rfl) (fun _ h => by cases h) channelExports_row_tie rfl ⟨rfl, rfl⟩ (by kernel_rfl) rfl
    (fun f fn hf hfn=>by
      obtain rfl : f = 4 := Option.some.inj ((show Tryd.prog.funcNamed "sectime/sectimelaw20.ChannelExports" = some 4 by kernel_rfl).symm.trans hf) |>.symm
      obtain rfl:fn=Tryd.f4:=(Option.some.inj (Tryd.func4.symm.trans hfn)).symm;exact⟨by kernel_rfl,Ej (by kernel_rfl)⟩)
    (by kernel_rfl)
end channelExports
end Go.Proofs.YtbkhllchjbjhgaaDoor
