/- CookieActs: the law of layer 19 on all its functions is true for all rings,numbers and bytes,and leaves its arguments as they are. Conditions: none. Own work. -/
import Derived.Test.YtpbmdbahkpfkdaaGreatDoorMg120
import Derived.Test.YtpbmdbahkpfkdaaGreatDoorMg19
set_option linter.unusedVariables false
set_option linter.unusedSimpArgs false
namespace Go.Proofs.YtpbmdbahkpfkdaaGreatDoor
open Go.RowKit
namespace cookieActs
set_option maxRecDepth 100000
def ss:List ParSh:=[.many [.sl [.int .i64,.sl [.int .u8]]],.one (.int .i64),.one (.sl [.int .u8]),.one (.int .i64),.many [.sl [.int .u8],.sl [.int .u8]],.one (.sl [.int .u8]),.one (.sl [.int .u8])]
theorem hss:allSome (parOf Tryz.prog) Tryz.f3.params.toList=some ss:=by kernel_rfl
noncomputable def G0:Glob:=(globOf Tryz.prog Rows.cookieActsRow.laid).getD []
theorem hG0:globOf Tryz.prog Rows.cookieActsRow.laid=some G0:=by kernel_rfl
theorem den (xs:List D) (h:All2 HasPar xs ss):Den Tryz.prog G0 3 xs (.w (.c (.d (.bool true)))):=by
  obtain⟨x0,r0,rfl,h0,h⟩:=all2_cons h
  obtain⟨x1,r1,rfl,h1,h⟩:=all2_cons h
  obtain⟨x2,r2,rfl,h2,h⟩:=all2_cons h
  obtain⟨x3,r3,rfl,h3,h⟩:=all2_cons h
  obtain⟨x4,r4,rfl,h4,h⟩:=all2_cons h
  obtain⟨x5,r5,rfl,h5,h⟩:=all2_cons h
  obtain⟨x6,r6,rfl,h6,h⟩:=all2_cons h
  obtain rfl:=all2_nil h
  obtain⟨c0,rfl,h0⟩:=is_many h0
  obtain⟨y0_0,c0,rfl,g0_0,h0⟩:=shs_cons h0
  obtain rfl:=shs_nil h0
  obtain⟨l0_0,rfl,k0_0,j0_0⟩:=is_fields g0_0
  obtain⟨l1,rfl,k1,j1⟩:=is_i64 h1
  obtain⟨l2,rfl,k2⟩:=is_bytes h2
  obtain⟨l3,rfl,k3,j3⟩:=is_i64 h3
  obtain⟨c4,rfl,h4⟩:=is_many h4
  obtain⟨y4_0,c4,rfl,g4_0,h4⟩:=shs_cons h4
  obtain⟨y4_1,c4,rfl,g4_1,h4⟩:=shs_cons h4
  obtain rfl:=shs_nil h4
  obtain⟨l4_0,rfl,k4_0⟩:=is_bytes g4_0
  obtain⟨l4_1,rfl,k4_1⟩:=is_bytes g4_1
  obtain⟨l5,rfl,k5⟩:=is_bytes h5
  obtain⟨l6,rfl,k6⟩:=is_bytes h6
  exact cact_c G0 l0_0 k0_0 j0_0 l1 k1 j1 l2 k2 l3 k3 j3 l4_0 k4_0 l4_1 k4_1 l5 k5 l6 k6 (by kernel_rfl) (by kernel_rfl)
noncomputable def laidWorld (os:Os):World:={ World.holding Tryz.prog os ⟨#[],#[],[]⟩ with heap:=laidHeap Tryz.prog Rows.cookieActsRow.laid (World.holding Tryz.prog os ⟨#[],#[],[]⟩).heap }
noncomputable def ps0:List MemPlace:=((readLaid Tryz.prog ((laidWorld default).forCall (fun _ _=>0) ⟨#[],(ss.map zeroPar).toArray,[]⟩).memory 8 (Rows.cookieActsRow.laid.map (·.1))).map (·.2)).getD []
theorem lifted (os:Os) (started:os.Started) (H:Type) (enc:TypeId×Value→H) :
    ReturnsInHanded {} Tryz.checked os 3 .any (fun w args=>(Rows.cookieActsSpec.pre enc Tryz.prog Tryz.f3 Rows.cookieActsRow.domain false w args∧laidMet Tryz.prog Rows.cookieActsRow.laid w)∧sizedMet enc Tryz.prog Tryz.f3 (OpenSpec.ofChange Rows.cookieActsSpec) false w args) (Rows.cookieActsSpec.post enc Tryz.prog Tryz.f3 false true false false):=by
  refine returnsInHanded_of_change_and (C:=Tryz.checked) (X:=fun w _=>laidMet Tryz.prog Rows.cookieActsRow.laid w) (fun _ _ _ hh h=>h.of_heap hh) own started (by kernel_rfl) Tryz.func3
    (ChangeSpec.witness_at (enc:=enc) (C:=Tryz.checked) (os:=os) (X:=fun w _=>laidMet Tryz.prog Rows.cookieActsRow.laid w) false (laidWorld os) (ss.map zeroPar).toArray 8 rfl (by kernel_rfl) (by kernel_rfl) (by kernel_rfl) (by kernel_rfl) (by kernel_rfl) (laidMet_mk 8 ps0 (by kernel_rfl) (by kernel_rfl) (by kernel_rfl))) ?_
  intro W base args ds gs before hval hW _ _ hL _
  obtain⟨_,hL,_⟩:=hL
  exact (law_calls (P:=Tryz.prog) (s:=Rows.cookieActsSpec) rfl hss rfl (by kernel_rfl) (readable_mk (by kernel_rfl)) (tb:=4) (by kernel_rfl) Tryz.underlying4 (fun ds hd=>by
      match ds,hd with
      | [d0,d1,d2,d3,d4,d5,d6],_=>rfl) (G:=G0) den hval hW (glob_ok hG0 hL))
theorem row:Rows.CookieActsSaid :=
  OpenClaim.holds_of_wide 3 Tryz.f3 rfl rfl rfl rfl rfl rfl rfl ⟨rfl,rfl,rfl,rfl,rfl⟩ rfl rfl rfl rfl rfl (by kernel_rfl) Tryz.func3 (by kernel_rfl)
    (of_decide_eq_true (by kernel_rfl)) (by unfold Func.isWrapper; first | (rw[if_pos (by decide +kernel)]; kernel_rfl) | (rw[if_neg (by decide +kernel)]; exact⟨rfl,rfl⟩))
    (fun os started H enc _=>lifted os started H enc)
theorem proved:Rows.CookieActsCardSaid :=
  Claim7.holds_tied_plain_at .later [] [.data, .data] true (true, "42256da55ddc48f7fc0e6f45a8792967f2f7d82c39c1278f6f327233066c8b5f") false row (fun _ h => by cases h) (by kernel_rfl) (fun _ h => by cases h) cookieActs_row_tie rfl ⟨rfl, rfl⟩ (by kernel_rfl) rfl
    (fun f fn hf hfn=>by
      obtain rfl : f = 3 := Option.some.inj ((show Tryz.prog.funcNamed "sectime/sectimelaw19.CookieActs" = some 3 by kernel_rfl).symm.trans hf) |>.symm
      obtain rfl:fn=Tryz.f3:=(Option.some.inj (Tryz.func3.symm.trans hfn)).symm
      exact⟨by kernel_rfl,noStandIn (by kernel_rfl)⟩)
    (by kernel_rfl)
end cookieActs
end Go.Proofs.YtpbmdbahkpfkdaaGreatDoor
