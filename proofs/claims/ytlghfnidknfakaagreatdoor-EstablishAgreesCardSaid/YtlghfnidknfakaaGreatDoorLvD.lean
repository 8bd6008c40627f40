/- EstablishAgrees: the law of layer 21 on what both sides agree on is true for all offers,and leaves its arguments as they are. Conditions: none. Own work. -/
import Derived.Test.YtlghfnidknfakaaGreatDoorMg419
import Derived.Test.YtlghfnidknfakaaGreatDoorMg49
set_option linter.unusedVariables false
set_option linter.unusedSimpArgs false
namespace Go.Proofs.YtlghfnidknfakaaGreatDoor
open Go.RowKit
namespace establishAgrees
set_option maxRecDepth 100000
def ss:List kY:=[.one (.int .i64),.one (.sl [.int .i64]),.one (.sl [.int .i64]),.one (.sl [.int .i64]),.one (.sl [.int .i64]),.one (.int .i64)]
theorem hss:aR (rI Tryz.prog) Tryz.f5.params.toList=some ss:=by kernel_rfl
noncomputable def G0:ah:=(rn Tryz.prog Rows.establishAgreesRow.laid).getD []
theorem hG0:rn Tryz.prog Rows.establishAgreesRow.laid=some G0:=by kernel_rfl
theorem den (xs:List D) (h:ai o9 xs ss):am Tryz.prog G0 5 xs (.w (.c (.d (.bool true)))):=by
  obtain⟨x0,r0,rfl,h0,h⟩:=oe h;obtain⟨x1,r1,rfl,h1,h⟩:=oe h;obtain⟨x2,r2,rfl,h2,h⟩:=oe h;obtain⟨x3,r3,rfl,h3,h⟩:=oe h;obtain⟨x4,r4,rfl,h4,h⟩:=oe h;obtain⟨x5,r5,rfl,h5,h⟩:=oe h;obtain rfl:=R1 h;obtain⟨l0,rfl,k0,j0⟩:=Ai h0;obtain⟨l1,rfl,k1,j1⟩:=uk h1;obtain⟨l2,rfl,k2,j2⟩:=uk h2;obtain⟨l3,rfl,k3,j3⟩:=uk h3;obtain⟨l4,rfl,k4,j4⟩:=uk h4;obtain⟨l5,rfl,k5,j5⟩:=Ai h5;exact aaB G0 l0 k0 j0 l1 k1 j1 l2 k2 j2 l3 k3 j3 l4 k4 j4 l5 k5 j5 (by kernel_rfl) (by kernel_rfl)
noncomputable def laidWorld (os:Os):World:={ World.holding Tryz.prog os ⟨#[],#[],[]⟩ with heap:=R0 Tryz.prog Rows.establishAgreesRow.laid (World.holding Tryz.prog os ⟨#[],#[],[]⟩).heap }
noncomputable def ps0:List MemPlace:=((qL Tryz.prog ((laidWorld default).forCall (fun _ _=>0) ⟨#[],(ss.map I5).toArray,[]⟩).memory 8 (Rows.establishAgreesRow.laid.map (·.1))).map (·.2)).getD []
theorem lifted (os:Os) (started:os.Started) (H:Type) (enc:TypeId×Value→H) :
    ReturnsInHanded {} Tryz.checked os 5 .any (fun w args=>(Rows.establishAgreesSpec.pre enc Tryz.prog Tryz.f5 Rows.establishAgreesRow.domain false w args∧laidMet Tryz.prog Rows.establishAgreesRow.laid w)∧sizedMet enc Tryz.prog Tryz.f5 (OpenSpec.ofChange Rows.establishAgreesSpec) false w args) (Rows.establishAgreesSpec.post enc Tryz.prog Tryz.f5 false true false false):=by
  refine returnsInHanded_of_change_and (C:=Tryz.checked) (X:=fun w _=>laidMet Tryz.prog Rows.establishAgreesRow.laid w) (fun _ _ _ hh h=>h.of_heap hh) own started (by kernel_rfl) Tryz.func5
    (ChangeSpec.witness_at (enc:=enc) (C:=Tryz.checked) (os:=os) (X:=fun w _=>laidMet Tryz.prog Rows.establishAgreesRow.laid w) false (laidWorld os) (ss.map I5).toArray 8 rfl (by kernel_rfl) (by kernel_rfl) (by kernel_rfl) (by kernel_rfl) (by kernel_rfl) (Pn 8 ps0 (by kernel_rfl) (by kernel_rfl) (by kernel_rfl))) ?_
  intro W base args ds gs before hval hW _ _ hL _;obtain⟨_,hL,_⟩:=hL;exact (Qo (P:=Tryz.prog) (s:=Rows.establishAgreesSpec) rfl hss rfl (by kernel_rfl) (OU (by kernel_rfl)) (tb:=4) (by kernel_rfl) Tryz.underlying4 (fun ds hd=>by
      match ds,hd with
      | [d0,d1,d2,d3,d4,d5],_=>rfl) (G:=G0) den hval hW (I4 hG0 hL))
theorem row:Rows.EstablishAgreesSaid :=
  OpenClaim.holds_of_wide 5 Tryz.f5 rfl rfl rfl rfl rfl rfl rfl ⟨rfl,rfl,rfl,rfl,rfl⟩ rfl rfl rfl rfl rfl (by kernel_rfl) Tryz.func5 (by kernel_rfl)
    (of_decide_eq_true (by kernel_rfl)) (by unfold Func.isWrapper; first | (rw[if_pos (by decide +kernel)]; kernel_rfl) | (rw[if_neg (by decide +kernel)]; exact⟨rfl,rfl⟩))
    (fun os started H enc _=>lifted os started H enc)
theorem proved:Rows.EstablishAgreesCardSaid :=
  Claim7.holds_tied_plain_at .later [] [.data, .data] true (true, "60949dc78aff2a4848812a02054f79b07d3a5e37af0f4c578753428091775329") false row (fun _ h => by cases h) (by kernel_rfl) (fun _ h => by cases h) establishAgrees_row_tie rfl ⟨rfl, rfl⟩ (by kernel_rfl) rfl
    (fun f fn hf hfn=>by
      obtain rfl : f = 5 := Option.some.inj ((show Tryz.prog.funcNamed "sectime/sectimelaw21.EstablishAgrees" = some 5 by kernel_rfl).symm.trans hf) |>.symm
      obtain rfl:fn=Tryz.f5:=(Option.some.inj (Tryz.func5.symm.trans hfn)).symm;exact⟨by kernel_rfl,Qq (by kernel_rfl)⟩)
    (by kernel_rfl)
end establishAgrees
end Go.Proofs.YtlghfnidknfakaaGreatDoor
