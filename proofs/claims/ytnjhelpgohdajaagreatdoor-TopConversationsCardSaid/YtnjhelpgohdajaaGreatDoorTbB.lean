/- TopConversations: the theorem of stage 22 on any number of questions of one client,answered by servers that keep nothing but a ring which is rotated,is true for all numbers,and leaves its arguments as they are. Conditions: none. Own work. -/
import Derived.Test.YtnjhelpgohdajaaGreatDoorMg119
import Derived.Test.YtnjhelpgohdajaaGreatDoorMg19
set_option linter.unusedVariables false
set_option linter.unusedSimpArgs false
namespace Go.Proofs.YtnjhelpgohdajaaGreatDoor
open Go.RowKit
namespace topConversations
set_option maxRecDepth 100000
def ss:List qH:=[.one (.int .i64),.one (.int .i64),.one (.sl [.int .i64])]
theorem hss:bE (zg Tryz.prog) Tryz.f3.params.toList=some ss:=by kernel_rfl
noncomputable def G0:au:=(yH Tryz.prog Rows.topConversationsRow.laid).getD []
theorem hG0:yH Tryz.prog Rows.topConversationsRow.laid=some G0:=by kernel_rfl
theorem den (xs:List D) (h:aD vL xs ss):aF Tryz.prog G0 3 xs (.w (.c (.d (.bool true)))):=by
  obtain⟨x0,r0,rfl,h0,h⟩:=Ft h;obtain⟨x1,r1,rfl,h1,h⟩:=Ft h;obtain⟨x2,r2,rfl,h2,h⟩:=Ft h;obtain rfl:=aaS h;obtain⟨l0,rfl,k0,j0⟩:=Is h0;obtain⟨l1,rfl,k1,j1⟩:=Is h1;obtain⟨l2,rfl,k2,j2⟩:=adR h2;exact apj G0 l0 k0 j0 l1 k1 j1 l2 k2 j2 (by kernel_rfl) (by kernel_rfl)
noncomputable def laidWorld (os:Os):World:={ World.holding Tryz.prog os ⟨#[],#[],[]⟩ with heap:=aaR Tryz.prog Rows.topConversationsRow.laid (World.holding Tryz.prog os ⟨#[],#[],[]⟩).heap }
noncomputable def ps0:List MemPlace:=((x8 Tryz.prog ((laidWorld default).forCall (fun _ _=>0) ⟨#[],(ss.map PQ).toArray,[]⟩).memory 8 (Rows.topConversationsRow.laid.map (·.1))).map (·.2)).getD []
theorem lifted (os:Os) (started:os.Started) (H:Type) (enc:TypeId×Value→H) :
    ReturnsInHanded {} Tryz.checked os 3 .any (fun w args=>(Rows.topConversationsSpec.pre enc Tryz.prog Tryz.f3 Rows.topConversationsRow.domain false w args∧laidMet Tryz.prog Rows.topConversationsRow.laid w)∧sizedMet enc Tryz.prog Tryz.f3 (OpenSpec.ofChange Rows.topConversationsSpec) false w args) (Rows.topConversationsSpec.post enc Tryz.prog Tryz.f3 false true false false):=by
  refine returnsInHanded_of_change_and (C:=Tryz.checked) (X:=fun w _=>laidMet Tryz.prog Rows.topConversationsRow.laid w) (fun _ _ _ hh h=>h.of_heap hh) own started (by kernel_rfl) Tryz.func3
    (ChangeSpec.witness_at (enc:=enc) (C:=Tryz.checked) (os:=os) (X:=fun w _=>laidMet Tryz.prog Rows.topConversationsRow.laid w) false (laidWorld os) (ss.map PQ).toArray 8 rfl (by kernel_rfl) (by kernel_rfl) (by kernel_rfl) (by kernel_rfl) (by kernel_rfl) (WR 8 ps0 (by kernel_rfl) (by kernel_rfl) (by kernel_rfl))) ?_
  intro W base args ds gs before hval hW _ _ hL _;obtain⟨_,hL,_⟩:=hL;exact (Yo (P:=Tryz.prog) (s:=Rows.topConversationsSpec) rfl hss rfl (by kernel_rfl) (Wd (by kernel_rfl)) (tb:=4) (by kernel_rfl) Tryz.underlying4 (fun ds hd=>by
      match ds,hd with
      | [d0,d1,d2],_=>rfl) (G:=G0) den hval hW (PP hG0 hL))
theorem row:Rows.TopConversationsSaid :=
  OpenClaim.holds_of_wide 3 Tryz.f3 rfl rfl rfl rfl rfl rfl rfl ⟨rfl,rfl,rfl,rfl,rfl⟩ rfl rfl rfl rfl rfl (by kernel_rfl) Tryz.func3 (by kernel_rfl)
    (of_decide_eq_true (by kernel_rfl)) (by unfold Func.isWrapper; first | (rw[if_pos (by decide +kernel)]; kernel_rfl) | (rw[if_neg (by decide +kernel)]; exact⟨rfl,rfl⟩))
    (fun os started H enc _=>lifted os started H enc)
theorem proved:Rows.TopConversationsCardSaid :=
  Claim7.holds_tied_plain_at .later [] [.data, .data] true (true, "d9d8cdba0303ec891bc8e0c1eddf2c5a56521370a6022a431830efd6534338f4") false row (fun _ h => by cases h) (by kernel_rfl) (fun _ h => by cases h) topConversations_row_tie rfl ⟨rfl, rfl⟩ (by kernel_rfl) rfl
    (fun f fn hf hfn=>by
      obtain rfl : f = 3 := Option.some.inj ((show Tryz.prog.funcNamed "sectime/sectimetop.TopConversations" = some 3 by kernel_rfl).symm.trans hf) |>.symm
      obtain rfl:fn=Tryz.f3:=(Option.some.inj (Tryz.func3.symm.trans hfn)).symm;exact⟨by kernel_rfl,Yq (by kernel_rfl)⟩)
    (by kernel_rfl)
end topConversations
end Go.Proofs.YtnjhelpgohdajaaGreatDoor
