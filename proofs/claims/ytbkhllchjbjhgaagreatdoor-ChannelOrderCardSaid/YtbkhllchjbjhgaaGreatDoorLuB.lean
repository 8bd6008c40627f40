/- ChannelOrder: the law of layer 20 on records in another order,at the wrong end or with a changed byte is true for all numbers,and leaves its arguments as they are. Conditions: none. Own work. -/
import Derived.Test.YtbkhllchjbjhgaaGreatDoorMg215
import Derived.Test.YtbkhllchjbjhgaaGreatDoorMg29
set_option linter.unusedVariables false
set_option linter.unusedSimpArgs false
namespace Go.Proofs.YtbkhllchjbjhgaaGreatDoor
open Go.RowKit
namespace channelOrder
set_option maxRecDepth 100000
def ss:List ParSh:=[.one (.int .i64),.one (.int .i64),.one (.int .i64),.one (.int .i64)]
theorem hss:allSome (parOf Tryz.prog) Tryz.f4.params.toList=some ss:=by kernel_rfl
noncomputable def G0:Glob:=(globOf Tryz.prog Rows.channelOrderRow.laid).getD []
theorem hG0:globOf Tryz.prog Rows.channelOrderRow.laid=some G0:=by kernel_rfl
theorem den (xs:List D) (h:All2 HasPar xs ss):Den Tryz.prog G0 4 xs (.w (.c (.d (.bool true)))):=by
  obtain⟨x0,r0,rfl,h0,h⟩:=all2_cons h
  obtain⟨x1,r1,rfl,h1,h⟩:=all2_cons h
  obtain⟨x2,r2,rfl,h2,h⟩:=all2_cons h
  obtain⟨x3,r3,rfl,h3,h⟩:=all2_cons h
  obtain rfl:=all2_nil h
  obtain⟨l0,rfl,k0,j0⟩:=is_i64 h0
  obtain⟨l1,rfl,k1,j1⟩:=is_i64 h1
  obtain⟨l2,rfl,k2,j2⟩:=is_i64 h2
  obtain⟨l3,rfl,k3,j3⟩:=is_i64 h3
  exact uord_c G0 l0 k0 j0 l1 k1 j1 l2 k2 j2 l3 k3 j3 (by kernel_rfl) (by kernel_rfl)
noncomputable def laidWorld (os:Os):World:={ World.holding Tryz.prog os ⟨#[],#[],[]⟩ with heap:=laidHeap Tryz.prog Rows.channelOrderRow.laid (World.holding Tryz.prog os ⟨#[],#[],[]⟩).heap }
noncomputable def ps0:List MemPlace:=((readLaid Tryz.prog ((laidWorld default).forCall (fun _ _=>0) ⟨#[],(ss.map zeroPar).toArray,[]⟩).memory 8 (Rows.channelOrderRow.laid.map (·.1))).map (·.2)).getD []
theorem lifted (os:Os) (started:os.Started) (H:Type) (enc:TypeId×Value→H) :
    ReturnsInHanded {} Tryz.checked os 4 .any (fun w args=>(Rows.channelOrderSpec.pre enc Tryz.prog Tryz.f4 Rows.channelOrderRow.domain false w args∧laidMet Tryz.prog Rows.channelOrderRow.laid w)∧sizedMet enc Tryz.prog Tryz.f4 (OpenSpec.ofChange Rows.channelOrderSpec) false w args) (Rows.channelOrderSpec.post enc Tryz.prog Tryz.f4 false true false false):=by
  refine returnsInHanded_of_change_and (C:=Tryz.checked) (X:=fun w _=>laidMet Tryz.prog Rows.channelOrderRow.laid w) (fun _ _ _ hh h=>h.of_heap hh) own started (by kernel_rfl) Tryz.func4
    (ChangeSpec.witness_at (enc:=enc) (C:=Tryz.checked) (os:=os) (X:=fun w _=>laidMet Tryz.prog Rows.channelOrderRow.laid w) false (laidWorld os) (ss.map zeroPar).toArray 8 rfl (by kernel_rfl) (by kernel_rfl) (by kernel_rfl) (by kernel_rfl) (by kernel_rfl) (laidMet_mk 8 ps0 (by kernel_rfl) (by kernel_rfl) (by kernel_rfl))) ?_
  intro W base args ds gs before hval hW _ _ hL _
  obtain⟨_,hL,_⟩:=hL
  exact (law_calls (P:=Tryz.prog) (s:=Rows.channelOrderSpec) rfl hss rfl (by kernel_rfl) (readable_mk (by kernel_rfl)) (tb:=4) (by kernel_rfl) Tryz.underlying4 (fun ds hd=>by
      match ds,hd with
      | [d0,d1,d2,d3],_=>rfl) (G:=G0) den hval hW (glob_ok hG0 hL))
theorem row:Rows.ChannelOrderSaid :=
  OpenClaim.holds_of_wide 4 Tryz.f4 rfl rfl rfl rfl rfl rfl rfl ⟨rfl,rfl,rfl,rfl,rfl⟩ rfl rfl rfl rfl rfl (by kernel_rfl) Tryz.func4 (by kernel_rfl)
    (of_decide_eq_true (by kernel_rfl)) (by unfold Func.isWrapper; first | (rw[if_pos (by decide +kernel)]; kernel_rfl) | (rw[if_neg (by decide +kernel)]; exact⟨rfl,rfl⟩))
    (fun os started H enc _=>lifted os started H enc)
theorem proved:Rows.ChannelOrderCardSaid :=
  Claim7.holds_tied_plain_at .later [] [.data, .data] true (true, "6074137218f80f0bd2890ddf0b40f0a98de6f70576434758f8529fcd6bc40f51") false row (fun _ h => by cases h) (by kernel_rfl) (fun _ h => by cases h) channelOrder_row_tie rfl ⟨rfl, rfl⟩ (by kernel_rfl) rfl
    (fun f fn hf hfn=>by
      obtain rfl : f = 4 := Option.some.inj ((show Tryz.prog.funcNamed "sectime/sectimelaw20.ChannelOrder" = some 4 by kernel_rfl).symm.trans hf) |>.symm
      obtain rfl:fn=Tryz.f4:=(Option.some.inj (Tryz.func4.symm.trans hfn)).symm
      exact⟨by kernel_rfl,noStandIn (by kernel_rfl)⟩)
    (by kernel_rfl)
end channelOrder
end Go.Proofs.YtbkhllchjbjhgaaGreatDoor
