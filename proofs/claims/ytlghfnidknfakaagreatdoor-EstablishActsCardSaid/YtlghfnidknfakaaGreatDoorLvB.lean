/- EstablishActs: the law of layer 21 on keys and both messages is true for both ends of a channel,any policy and any messages,and leaves its arguments as they are. Conditions: none. Own work. -/
import Derived.Test.YtlghfnidknfakaaGreatDoorMg221
import Derived.Test.YtlghfnidknfakaaGreatDoorMg29
set_option linter.unusedVariables false
set_option linter.unusedSimpArgs false
namespace Go.Proofs.YtlghfnidknfakaaGreatDoor
open Go.RowKit
namespace establishActs
set_option maxRecDepth 100000
def ss:List mg:=[.one (.int .i64),.many [.sl [.int .i64],.sl [.int .i64],.str,.int .i64],.one (.sl [.int .u8]),.one (.sl [.int .u8]),.one (.sl [.sl [.int .u8]]),.one (.int .i64),.one (.int .i64)]
theorem hss:a6 (sN Tryz.prog) Tryz.f4.params.toList=some ss:=by kernel_rfl
noncomputable def G0:ah:=(sn Tryz.prog Rows.establishActsRow.laid).getD []
theorem hG0:sn Tryz.prog Rows.establishActsRow.laid=some G0:=by kernel_rfl
theorem den (xs:List D) (h:ar mZ xs ss):aw Tryz.prog G0 4 xs (.w (.c (.d (.bool true)))):=by
  obtain⟨x0,r0,rfl,h0,h⟩:=nQ h;obtain⟨x1,r1,rfl,h1,h⟩:=nQ h;obtain⟨x2,r2,rfl,h2,h⟩:=nQ h;obtain⟨x3,r3,rfl,h3,h⟩:=nQ h;obtain⟨x4,r4,rfl,h4,h⟩:=nQ h;obtain⟨x5,r5,rfl,h5,h⟩:=nQ h;obtain⟨x6,r6,rfl,h6,h⟩:=nQ h;obtain rfl:=Tm h;obtain⟨l0,rfl,k0,j0⟩:=sq h0;obtain⟨c1,rfl,h1⟩:=UZ h1;obtain⟨y1_0,c1,rfl,g1_0,h1⟩:=uF h1;obtain⟨y1_1,c1,rfl,g1_1,h1⟩:=uF h1;obtain⟨y1_2,c1,rfl,g1_2,h1⟩:=uF h1;obtain⟨y1_3,c1,rfl,g1_3,h1⟩:=uF h1;obtain rfl:=U0 h1;obtain⟨l1_0,rfl,k1_0,j1_0⟩:=Kq g1_0;obtain⟨l1_1,rfl,k1_1,j1_1⟩:=Kq g1_1;obtain⟨l1_2,rfl,k1_2⟩:=Xm g1_2;obtain⟨l1_3,rfl,k1_3,j1_3⟩:=sq g1_3;obtain⟨l2,rfl,k2⟩:=zB h2;obtain⟨l3,rfl,k3⟩:=zB h3;obtain⟨l4,rfl,k4,j4⟩:=Tn h4;obtain⟨l5,rfl,k5,j5⟩:=sq h5;obtain⟨l6,rfl,k6,j6⟩:=sq h6;exact Z2 G0 l0 k0 j0 l1_0 k1_0 j1_0 l1_1 k1_1 j1_1 l1_2 k1_2 l1_3 k1_3 j1_3 l2 k2 l3 k3 l4 k4 j4 l5 k5 j5 l6 k6 j6 (by kernel_rfl) (by kernel_rfl)
noncomputable def laidWorld (os:Os):World:={ World.holding Tryz.prog os ⟨#[],#[],[]⟩ with heap:=Tl Tryz.prog Rows.establishActsRow.laid (World.holding Tryz.prog os ⟨#[],#[],[]⟩).heap }
noncomputable def ps0:List MemPlace:=((rz Tryz.prog ((laidWorld default).forCall (fun _ _=>0) ⟨#[],(ss.map Kl).toArray,[]⟩).memory 8 (Rows.establishActsRow.laid.map (·.1))).map (·.2)).getD []
theorem lifted (os:Os) (started:os.Started) (H:Type) (enc:TypeId×Value→H) :
    ReturnsInHanded {} Tryz.checked os 4 .any (fun w args=>(Rows.establishActsSpec.pre enc Tryz.prog Tryz.f4 Rows.establishActsRow.domain false w args∧laidMet Tryz.prog Rows.establishActsRow.laid w)∧sizedMet enc Tryz.prog Tryz.f4 (OpenSpec.ofChange Rows.establishActsSpec) false w args) (Rows.establishActsSpec.post enc Tryz.prog Tryz.f4 false true false false):=by
  refine returnsInHanded_of_change_and (C:=Tryz.checked) (X:=fun w _=>laidMet Tryz.prog Rows.establishActsRow.laid w) (fun _ _ _ hh h=>h.of_heap hh) own started (by kernel_rfl) Tryz.func4
    (ChangeSpec.witness_at (enc:=enc) (C:=Tryz.checked) (os:=os) (X:=fun w _=>laidMet Tryz.prog Rows.establishActsRow.laid w) false (laidWorld os) (ss.map Kl).toArray 8 rfl (by kernel_rfl) (by kernel_rfl) (by kernel_rfl) (by kernel_rfl) (by kernel_rfl) (Q0 8 ps0 (by kernel_rfl) (by kernel_rfl) (by kernel_rfl))) ?_
  intro W base args ds gs before hval hW _ _ hL _;obtain⟨_,hL,_⟩:=hL;exact (R2 (P:=Tryz.prog) (s:=Rows.establishActsSpec) rfl hss rfl (by kernel_rfl) (QC (by kernel_rfl)) (tb:=4) (by kernel_rfl) Tryz.underlying4 (fun ds hd=>by
      match ds,hd with
      | [d0,d1,d2,d3,d4,d5,d6],_=>rfl) (G:=G0) den hval hW (Kk hG0 hL))
theorem row:Rows.EstablishActsSaid :=
  OpenClaim.holds_of_wide 4 Tryz.f4 rfl rfl rfl rfl rfl rfl rfl ⟨rfl,rfl,rfl,rfl,rfl⟩ rfl rfl rfl rfl rfl (by kernel_rfl) Tryz.func4 (by kernel_rfl)
    (of_decide_eq_true (by kernel_rfl)) (by unfold Func.isWrapper; first | (rw[if_pos (by decide +kernel)]; kernel_rfl) | (rw[if_neg (by decide +kernel)]; exact⟨rfl,rfl⟩))
    (fun os started H enc _=>lifted os started H enc)
theorem proved:Rows.EstablishActsCardSaid :=
  Claim7.holds_tied_plain_at .later [] [.data, .data] true (true, "60949dc78aff2a4848812a02054f79b07d3a5e37af0f4c578753428091775329") false row (fun _ h => by cases h) (by kernel_rfl) (fun _ h => by cases h) establishActs_row_tie rfl ⟨rfl, rfl⟩ (by kernel_rfl) rfl
    (fun f fn hf hfn=>by
      obtain rfl : f = 4 := Option.some.inj ((show Tryz.prog.funcNamed "sectime/sectimelaw21.EstablishActs" = some 4 by kernel_rfl).symm.trans hf) |>.symm
      obtain rfl:fn=Tryz.f4:=(Option.some.inj (Tryz.func4.symm.trans hfn)).symm;exact⟨by kernel_rfl,R4 (by kernel_rfl)⟩)
    (by kernel_rfl)
end establishActs
end Go.Proofs.YtlghfnidknfakaaGreatDoor
