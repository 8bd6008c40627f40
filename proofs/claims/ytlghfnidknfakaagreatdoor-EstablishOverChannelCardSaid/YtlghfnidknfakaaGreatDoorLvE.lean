/- EstablishOverChannel: the law of layer 21 on the agreement over the channel is true for all numbers,and leaves its arguments as they are. Conditions: none. Own work. -/
import Derived.Test.YtlghfnidknfakaaGreatDoorMg519
import Derived.Test.YtlghfnidknfakaaGreatDoorMg59
set_option linter.unusedVariables false
set_option linter.unusedSimpArgs false
namespace Go.Proofs.YtlghfnidknfakaaGreatDoor
open Go.RowKit
namespace establishOverChannel
set_option maxRecDepth 100000
def ss:List kq:=[.one (.int .i64)]
theorem hss:aU (qA Tryz.prog) Tryz.f6.params.toList=some ss:=by kernel_rfl
noncomputable def G0:ah:=(qh Tryz.prog Rows.establishOverChannelRow.laid).getD []
theorem hG0:qh Tryz.prog Rows.establishOverChannelRow.laid=some G0:=by kernel_rfl
theorem den (xs:List D) (h:ai nV xs ss):aj Tryz.prog G0 6 xs (.w (.c (.d (.bool true)))):=by
  obtain⟨x0,r0,rfl,h0,h⟩:=Oz h;obtain rfl:=PW h;obtain⟨l0,rfl,k0,j0⟩:=Ue h0;exact WW G0 l0 k0 j0 (by kernel_rfl) (by kernel_rfl)
noncomputable def laidWorld (os:Os):World:={ World.holding Tryz.prog os ⟨#[],#[],[]⟩ with heap:=PV Tryz.prog Rows.establishOverChannelRow.laid (World.holding Tryz.prog os ⟨#[],#[],[]⟩).heap }
noncomputable def ps0:List MemPlace:=((pN Tryz.prog ((laidWorld default).forCall (fun _ _=>0) ⟨#[],(ss.map G9).toArray,[]⟩).memory 8 (Rows.establishOverChannelRow.laid.map (·.1))).map (·.2)).getD []
theorem lifted (os:Os) (started:os.Started) (H:Type) (enc:TypeId×Value→H) :
    ReturnsInHanded {} Tryz.checked os 6 .any (fun w args=>(Rows.establishOverChannelSpec.pre enc Tryz.prog Tryz.f6 Rows.establishOverChannelRow.domain false w args∧laidMet Tryz.prog Rows.establishOverChannelRow.laid w)∧sizedMet enc Tryz.prog Tryz.f6 (OpenSpec.ofChange Rows.establishOverChannelSpec) false w args) (Rows.establishOverChannelSpec.post enc Tryz.prog Tryz.f6 false true false false):=by
  refine returnsInHanded_of_change_and (C:=Tryz.checked) (X:=fun w _=>laidMet Tryz.prog Rows.establishOverChannelRow.laid w) (fun _ _ _ hh h=>h.of_heap hh) own started (by kernel_rfl) Tryz.func6
    (ChangeSpec.witness_at (enc:=enc) (C:=Tryz.checked) (os:=os) (X:=fun w _=>laidMet Tryz.prog Rows.establishOverChannelRow.laid w) false (laidWorld os) (ss.map G9).toArray 8 rfl (by kernel_rfl) (by kernel_rfl) (by kernel_rfl) (by kernel_rfl) (by kernel_rfl) (Nw 8 ps0 (by kernel_rfl) (by kernel_rfl) (by kernel_rfl))) ?_
  intro W base args ds gs before hval hW _ _ hL _;obtain⟨_,hL,_⟩:=hL;exact (Ow (P:=Tryz.prog) (s:=Rows.establishOverChannelSpec) rfl hss rfl (by kernel_rfl) (M0 (by kernel_rfl)) (tb:=4) (by kernel_rfl) Tryz.underlying4 (fun ds hd=>by
      match ds,hd with
      | [d0],_=>rfl) (G:=G0) den hval hW (G8 hG0 hL))
theorem row:Rows.EstablishOverChannelSaid :=
  OpenClaim.holds_of_wide 6 Tryz.f6 rfl rfl rfl rfl rfl rfl rfl ⟨rfl,rfl,rfl,rfl,rfl⟩ rfl rfl rfl rfl rfl (by kernel_rfl) Tryz.func6 (by kernel_rfl)
    (of_decide_eq_true (by kernel_rfl)) (by unfold Func.isWrapper; first | (rw[if_pos (by decide +kernel)]; kernel_rfl) | (rw[if_neg (by decide +kernel)]; exact⟨rfl,rfl⟩))
    (fun os started H enc _=>lifted os started H enc)
theorem proved:Rows.EstablishOverChannelCardSaid :=
  Claim7.holds_tied_plain_at .later [] [.data, .data] true (true, "60949dc78aff2a4848812a02054f79b07d3a5e37af0f4c578753428091775329") false row (fun _ h => by cases h) (by kernel_rfl) (fun _ h => by cases h) establishOverChannel_row_tie rfl ⟨rfl, rfl⟩ (by kernel_rfl) rfl
    (fun f fn hf hfn=>by
      obtain rfl : f = 6 := Option.some.inj ((show Tryz.prog.funcNamed "sectime/sectimelaw21.EstablishOverChannel" = some 6 by kernel_rfl).symm.trans hf) |>.symm
      obtain rfl:fn=Tryz.f6:=(Option.some.inj (Tryz.func6.symm.trans hfn)).symm;exact⟨by kernel_rfl,Oy (by kernel_rfl)⟩)
    (by kernel_rfl)
end establishOverChannel
end Go.Proofs.YtlghfnidknfakaaGreatDoor
