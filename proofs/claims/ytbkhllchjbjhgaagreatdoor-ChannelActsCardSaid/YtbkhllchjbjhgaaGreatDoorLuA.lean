/- ChannelActs: the law of layer 20 on all its functions is true for all channels,numbers and bytes,and leaves its arguments as they are. Conditions: none. Own work. -/
import Derived.Test.YtbkhllchjbjhgaaGreatDoorMg115
import Derived.Test.YtbkhllchjbjhgaaGreatDoorMg19
set_option linter.unusedVariables false
set_option linter.unusedSimpArgs false
namespace Go.Proofs.YtbkhllchjbjhgaaGreatDoor
open Go.RowKit
namespace channelActs
set_option maxRecDepth 100000
def ss:List ParSh:=[.many [.bool,.sl [.int .u8],.sl [.int .u8],.sl [.int .u8],.int .i64,.int .i64],.one .bool,.one (.sl [.int .u8]),.one (.sl [.int .u8]),.one (.int .i64),.one (.int .i64),.one .str]
theorem hss:allSome (parOf Tryz.prog) Tryz.f3.params.toList=some ss:=by kernel_rfl
noncomputable def G0:Glob:=(globOf Tryz.prog Rows.channelActsRow.laid).getD []
theorem hG0:globOf Tryz.prog Rows.channelActsRow.laid=some G0:=by kernel_rfl
theorem den (xs:List D) (h:All2 HasPar xs ss):Den Tryz.prog G0 3 xs (.w (.c (.d (.bool true)))):=by
  obtain⟨x0,r0,rfl,h0,h⟩:=all2_cons h
  obtain⟨x1,r1,rfl,h1,h⟩:=all2_cons h
  obtain⟨x2,r2,rfl,h2,h⟩:=all2_cons h
  obtain⟨x3,r3,rfl,h3,h⟩:=all2_cons h
  obtain⟨x4,r4,rfl,h4,h⟩:=all2_cons h
  obtain⟨x5,r5,rfl,h5,h⟩:=all2_cons h
  obtain⟨x6,r6,rfl,h6,h⟩:=all2_cons h
  obtain rfl:=all2_nil h
  obtain⟨c0,rfl,h0⟩:=is_many h0
  obtain⟨y0_0,c0,rfl,g0_0,h0⟩:=shs_cons h0
  obtain⟨y0_1,c0,rfl,g0_1,h0⟩:=shs_cons h0
  obtain⟨y0_2,c0,rfl,g0_2,h0⟩:=shs_cons h0
  obtain⟨y0_3,c0,rfl,g0_3,h0⟩:=shs_cons h0
  obtain⟨y0_4,c0,rfl,g0_4,h0⟩:=shs_cons h0
  obtain⟨y0_5,c0,rfl,g0_5,h0⟩:=shs_cons h0
  obtain rfl:=shs_nil h0
  obtain⟨l0_0,rfl⟩:=is_bool g0_0
  obtain⟨l0_1,rfl,k0_1⟩:=is_bytes g0_1
  obtain⟨l0_2,rfl,k0_2⟩:=is_bytes g0_2
  obtain⟨l0_3,rfl,k0_3⟩:=is_bytes g0_3
  obtain⟨l0_4,rfl,k0_4,j0_4⟩:=is_i64 g0_4
  obtain⟨l0_5,rfl,k0_5,j0_5⟩:=is_i64 g0_5
  obtain⟨l1,rfl⟩:=is_bool h1
  obtain⟨l2,rfl,k2⟩:=is_bytes h2
  obtain⟨l3,rfl,k3⟩:=is_bytes h3
  obtain⟨l4,rfl,k4,j4⟩:=is_i64 h4
  obtain⟨l5,rfl,k5,j5⟩:=is_i64 h5
  obtain⟨l6,rfl,k6⟩:=is_str h6
  exact uact_c G0 l0_0 l0_1 k0_1 l0_2 k0_2 l0_3 k0_3 l0_4 k0_4 j0_4 l0_5 k0_5 j0_5 l1 l2 k2 l3 k3 l4 k4 j4 l5 k5 j5 l6 k6 (by kernel_rfl) (by kernel_rfl)
noncomputable def laidWorld (os:Os):World:={ World.holding Tryz.prog os ⟨#[],#[],[]⟩ with heap:=laidHeap Tryz.prog Rows.channelActsRow.laid (World.holding Tryz.prog os ⟨#[],#[],[]⟩).heap }
noncomputable def ps0:List MemPlace:=((readLaid Tryz.prog ((laidWorld default).forCall (fun _ _=>0) ⟨#[],(ss.map zeroPar).toArray,[]⟩).memory 8 (Rows.channelActsRow.laid.map (·.1))).map (·.2)).getD []
theorem lifted (os:Os) (started:os.Started) (H:Type) (enc:TypeId×Value→H) :
    ReturnsInHanded {} Tryz.checked os 3 .any (fun w args=>(Rows.channelActsSpec.pre enc Tryz.prog Tryz.f3 Rows.channelActsRow.domain false w args∧laidMet Tryz.prog Rows.channelActsRow.laid w)∧sizedMet enc Tryz.prog Tryz.f3 (OpenSpec.ofChange Rows.channelActsSpec) false w args) (Rows.channelActsSpec.post enc Tryz.prog Tryz.f3 false true false false):=by
  refine returnsInHanded_of_change_and (C:=Tryz.checked) (X:=fun w _=>laidMet Tryz.prog Rows.channelActsRow.laid w) (fun _ _ _ hh h=>h.of_heap hh) own started (by kernel_rfl) Tryz.func3
    (ChangeSpec.witness_at (enc:=enc) (C:=Tryz.checked) (os:=os) (X:=fun w _=>laidMet Tryz.prog Rows.channelActsRow.laid w) false (laidWorld os) (ss.map zeroPar).toArray 8 rfl (by kernel_rfl) (by kernel_rfl) (by kernel_rfl) (by kernel_rfl) (by kernel_rfl) (laidMet_mk 8 ps0 (by kernel_rfl) (by kernel_rfl) (by kernel_rfl))) ?_
  intro W base args ds gs before hval hW _ _ hL _
  obtain⟨_,hL,_⟩:=hL
  exact (law_calls (P:=Tryz.prog) (s:=Rows.channelActsSpec) rfl hss rfl (by kernel_rfl) (readable_mk (by kernel_rfl)) (tb:=4) (by kernel_rfl) Tryz.underlying4 (fun ds hd=>by
      match ds,hd with
      | [d0,d1,d2,d3,d4,d5,d6],_=>rfl) (G:=G0) den hval hW (glob_ok hG0 hL))
theorem row:Rows.ChannelActsSaid :=
  OpenClaim.holds_of_wide 3 Tryz.f3 rfl rfl rfl rfl rfl rfl rfl ⟨rfl,rfl,rfl,rfl,rfl⟩ rfl rfl rfl rfl rfl (by kernel_rfl) Tryz.func3 (by kernel_rfl)
    (of_decide_eq_true (by kernel_rfl)) (by unfold Func.isWrapper; first | (rw[if_pos (by decide +kernel)]; kernel_rfl) | (rw[if_neg (by decide +kernel)]; exact⟨rfl,rfl⟩))
    (fun os started H enc _=>lifted os started H enc)
theorem proved:Rows.ChannelActsCardSaid :=
  Claim7.holds_tied_plain_at .later [] [.data, .data] true (true, "6074137218f80f0bd2890ddf0b40f0a98de6f70576434758f8529fcd6bc40f51") false row (fun _ h => by cases h) (by kernel_rfl) (fun _ h => by cases h) channelActs_row_tie rfl ⟨rfl, rfl⟩ (by kernel_rfl) rfl
    (fun f fn hf hfn=>by
      obtain rfl : f = 3 := Option.some.inj ((show Tryz.prog.funcNamed "sectime/sectimelaw20.ChannelActs" = some 3 by kernel_rfl).symm.trans hf) |>.symm
      obtain rfl:fn=Tryz.f3:=(Option.some.inj (Tryz.func3.symm.trans hfn)).symm
      exact⟨by kernel_rfl,noStandIn (by kernel_rfl)⟩)
    (by kernel_rfl)
end channelActs
end Go.Proofs.YtbkhllchjbjhgaaGreatDoor
