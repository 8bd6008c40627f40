/- EstablishRefuses: the law of layer 21 on refusals is true for all numbers and bodies,and leaves its arguments as they are. Conditions: none. Own work. -/
import Derived.Test.YtlghfnidknfakaaGreatDoorMg319
import Derived.Test.YtlghfnidknfakaaGreatDoorMg39
set_option linter.unusedVariables false
set_option linter.unusedSimpArgs false
namespace Go.Proofs.YtlghfnidknfakaaGreatDoor
open Go.RowKit
namespace establishRefuses
set_option maxRecDepth 100000
def ss:List jU:=[.one (.int .i64),.one (.int .i64),.one (.sl [.int .u8]),.one (.int .i64)]
theorem hss:aT (pM Tryz.prog) Tryz.f7.params.toList=some ss:=by kernel_rfl
noncomputable def G0:ai:=(pz Tryz.prog Rows.establishRefusesRow.laid).getD []
theorem hG0:pz Tryz.prog Rows.establishRefusesRow.laid=some G0:=by kernel_rfl
theorem den (xs:List D) (h:aj na xs ss):au Tryz.prog G0 7 xs (.w (.c (.d (.bool true)))):=by
  obtain⟨x0,r0,rfl,h0,h⟩:=qA h;obtain⟨x1,r1,rfl,h1,h⟩:=qA h;obtain⟨x2,r2,rfl,h2,h⟩:=qA h;obtain⟨x3,r3,rfl,h3,h⟩:=qA h;obtain rfl:=Od h;obtain⟨l0,rfl,k0,j0⟩:=xr h0;obtain⟨l1,rfl,k1,j1⟩:=xr h1;obtain⟨l2,rfl,k2⟩:=Oe h2;obtain⟨l3,rfl,k3,j3⟩:=xr h3;exact UH G0 l0 k0 j0 l1 k1 j1 l2 k2 l3 k3 j3 (by kernel_rfl) (by kernel_rfl)
noncomputable def laidWorld (os:Os):World:={ World.holding Tryz.prog os ⟨#[],#[],[]⟩ with heap:=Oc Tryz.prog Rows.establishRefusesRow.laid (World.holding Tryz.prog os ⟨#[],#[],[]⟩).heap }
noncomputable def ps0:List MemPlace:=((oW Tryz.prog ((laidWorld default).forCall (fun _ _=>0) ⟨#[],(ss.map F0).toArray,[]⟩).memory 8 (Rows.establishRefusesRow.laid.map (·.1))).map (·.2)).getD []
theorem lifted (os:Os) (started:os.Started) (H:Type) (enc:TypeId×Value→H) :
    ReturnsInHanded {} Tryz.checked os 7 .any (fun w args=>(Rows.establishRefusesSpec.pre enc Tryz.prog Tryz.f7 Rows.establishRefusesRow.domain false w args∧laidMet Tryz.prog Rows.establishRefusesRow.laid w)∧sizedMet enc Tryz.prog Tryz.f7 (OpenSpec.ofChange Rows.establishRefusesSpec) false w args) (Rows.establishRefusesSpec.post enc Tryz.prog Tryz.f7 false true false false):=by
  refine returnsInHanded_of_change_and (C:=Tryz.checked) (X:=fun w _=>laidMet Tryz.prog Rows.establishRefusesRow.laid w) (fun _ _ _ hh h=>h.of_heap hh) own started (by kernel_rfl) Tryz.func7
    (ChangeSpec.witness_at (enc:=enc) (C:=Tryz.checked) (os:=os) (X:=fun w _=>laidMet Tryz.prog Rows.establishRefusesRow.laid w) false (laidWorld os) (ss.map F0).toArray 8 rfl (by kernel_rfl) (by kernel_rfl) (by kernel_rfl) (by kernel_rfl) (by kernel_rfl) (LW 8 ps0 (by kernel_rfl) (by kernel_rfl) (by kernel_rfl))) ?_
  intro W base args ds gs before hval hW _ _ hL _;obtain⟨_,hL,_⟩:=hL;exact (MR (P:=Tryz.prog) (s:=Rows.establishRefusesSpec) rfl hss rfl (by kernel_rfl) (Lw (by kernel_rfl)) (tb:=4) (by kernel_rfl) Tryz.underlying4 (fun ds hd=>by
      match ds,hd with
      | [d0,d1,d2,d3],_=>rfl) (G:=G0) den hval hW (FZ hG0 hL))
theorem row:Rows.EstablishRefusesSaid :=
  OpenClaim.holds_of_wide 7 Tryz.f7 rfl rfl rfl rfl rfl rfl rfl ⟨rfl,rfl,rfl,rfl,rfl⟩ rfl rfl rfl rfl rfl (by kernel_rfl) Tryz.func7 (by kernel_rfl)
    (of_decide_eq_true (by kernel_rfl)) (by unfold Func.isWrapper; first | (rw[if_pos (by decide +kernel)]; kernel_rfl) | (rw[if_neg (by decide +kernel)]; exact⟨rfl,rfl⟩))
    (fun os started H enc _=>lifted os started H enc)
theorem proved:Rows.EstablishRefusesCardSaid :=
  Claim7.holds_tied_plain_at .later [] [.data, .data] true (true, "60949dc78aff2a4848812a02054f79b07d3a5e37af0f4c578753428091775329") false row (fun _ h => by cases h) (by kernel_rfl) (fun _ h => by cases h) establishRefuses_row_tie rfl ⟨rfl, rfl⟩ (by kernel_rfl) rfl
    (fun f fn hf hfn=>by
      obtain rfl : f = 7 := Option.some.inj ((show Tryz.prog.funcNamed "sectime/sectimelaw21.EstablishRefuses" = some 7 by kernel_rfl).symm.trans hf) |>.symm
      obtain rfl:fn=Tryz.f7:=(Option.some.inj (Tryz.func7.symm.trans hfn)).symm;exact⟨by kernel_rfl,MU (by kernel_rfl)⟩)
    (by kernel_rfl)
end establishRefuses
end Go.Proofs.YtlghfnidknfakaaGreatDoor
