/- ChannelTalks: the law of layer 20 on records to and fro is true for all numbers and steps,and leaves its arguments as they are. Conditions: none. Own work. -/
import Derived.Test.YtbkhllchjbjhgaaDoorMg117
import Derived.Test.YtbkhllchjbjhgaaDoorMg19
set_option linter.unusedVariables false
set_option linter.unusedSimpArgs false
namespace Go.Proofs.YtbkhllchjbjhgaaDoor
open Go.RowKit
namespace channelTalks
set_option maxRecDepth 100000
def ss:List ParSh:=[.one (.int .i64),.one (.sl [.int .i64,.sl [.int .u8]])]
theorem hss:allSome (parOf Tryd.prog) Tryd.f3.params.toList=some ss:=by kernel_rfl
noncomputable def G0:Glob:=(globOf Tryd.prog Rows.channelTalksRow.laid).getD []
theorem hG0:globOf Tryd.prog Rows.channelTalksRow.laid=some G0:=by kernel_rfl
theorem den (xs:List D) (h:All2 HasPar xs ss):Den Tryd.prog G0 3 xs (.w (.c (.d (.bool true)))):=by
  obtain⟨x0,r0,rfl,h0,h⟩:=all2_cons h
  obtain⟨x1,r1,rfl,h1,h⟩:=all2_cons h
  obtain rfl:=all2_nil h
  obtain⟨l0,rfl,k0,j0⟩:=is_i64 h0
  obtain⟨l1,rfl,k1,j1⟩:=is_fields h1
  exact utlk_c G0 l0 k0 j0 l1 k1 j1 (by kernel_rfl) (by kernel_rfl)
noncomputable def laidWorld (os:Os):World:={ World.holding Tryd.prog os ⟨#[],#[],[]⟩ with heap:=laidHeap Tryd.prog Rows.channelTalksRow.laid (World.holding Tryd.prog os ⟨#[],#[],[]⟩).heap }
noncomputable def ps0:List MemPlace:=((readLaid Tryd.prog ((laidWorld default).forCall (fun _ _=>0) ⟨#[],(ss.map zeroPar).toArray,[]⟩).memory 8 (Rows.channelTalksRow.laid.map (·.1))).map (·.2)).getD []
theorem lifted (os:Os) (started:os.Started) (H:Type) (enc:TypeId×Value→H) :
    ReturnsInHanded {} Tryd.checked os 3 .any (fun w args=>(Rows.channelTalksSpec.pre enc Tryd.prog Tryd.f3 Rows.channelTalksRow.domain false w args∧laidMet Tryd.prog Rows.channelTalksRow.laid w)∧sizedMet enc Tryd.prog Tryd.f3 (OpenSpec.ofChange Rows.channelTalksSpec) false w args) (Rows.channelTalksSpec.post enc Tryd.prog Tryd.f3 false true false false):=by
  refine returnsInHanded_of_change_and (C:=Tryd.checked) (X:=fun w _=>laidMet Tryd.prog Rows.channelTalksRow.laid w) (fun _ _ _ hh h=>h.of_heap hh) own started (by kernel_rfl) Tryd.func3
    (ChangeSpec.witness_at (enc:=enc) (C:=Tryd.checked) (os:=os) (X:=fun w _=>laidMet Tryd.prog Rows.channelTalksRow.laid w) false (laidWorld os) (ss.map zeroPar).toArray 8 rfl (by kernel_rfl) (by kernel_rfl) (by kernel_rfl) (by kernel_rfl) (by kernel_rfl) (laidMet_mk 8 ps0 (by kernel_rfl) (by kernel_rfl) (by kernel_rfl))) ?_
  intro W base args ds gs before hval hW _ _ hL _
  obtain⟨_,hL,_⟩:=hL
  exact (law_calls (P:=Tryd.prog) (s:=Rows.channelTalksSpec) rfl hss rfl (by kernel_rfl) (readable_mk (by kernel_rfl)) (tb:=4) (by kernel_rfl) Tryd.underlying4 (fun ds hd=>by
      match ds,hd with
      | [d0,d1],_=>rfl) (G:=G0) den hval hW (glob_ok hG0 hL))
theorem row:Rows.ChannelTalksSaid :=
  OpenClaim.holds_of_wide 3 Tryd.f3 rfl rfl rfl rfl rfl rfl rfl ⟨rfl,rfl,rfl,rfl,rfl⟩ rfl rfl rfl rfl rfl (by kernel_rfl) Tryd.func3 (by kernel_rfl)
    (of_decide_eq_true (by kernel_rfl)) (by unfold Func.isWrapper; first | (rw[if_pos (by decide +kernel)]; kernel_rfl) | (rw[if_neg (by decide +kernel)]; exact⟨rfl,rfl⟩))
    (fun os started H enc _=>lifted os started H enc)
theorem proved:Rows.ChannelTalksCardSaid :=
  Claim7.holds_tied_plain_at .later [] [.data, .data] true (true, "0a38cf13a29b026dc0f85d99362a8929205310e10a04505f4bc60bdb2bb0e8ab") false row (fun _ h => by cases h) (by kernel_rfl) (fun _ h => by cases h) channelTalks_row_tie rfl ⟨rfl, rfl⟩ (by kernel_rfl) rfl
    (fun f fn hf hfn=>by
      obtain rfl : f = 3 := Option.some.inj ((show Tryd.prog.funcNamed "sectime/sectimelaw20.ChannelTalks" = some 3 by kernel_rfl).symm.trans hf) |>.symm
      obtain rfl:fn=Tryd.f3:=(Option.some.inj (Tryd.func3.symm.trans hfn)).symm
      exact⟨by kernel_rfl,noStandIn (by kernel_rfl)⟩)
    (by kernel_rfl)
end channelTalks
end Go.Proofs.YtbkhllchjbjhgaaDoor
