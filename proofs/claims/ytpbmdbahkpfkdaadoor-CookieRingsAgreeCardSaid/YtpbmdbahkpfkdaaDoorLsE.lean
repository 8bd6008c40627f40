/- CookieRingsAgree: the law of layer 19 on rings of several servers is true for all numbers,and leaves its arguments as they are. Conditions: none. Own work. -/
import Derived.Test.YtpbmdbahkpfkdaaDoorMg319
import Derived.Test.YtpbmdbahkpfkdaaDoorMg39
set_option linter.unusedVariables false
set_option linter.unusedSimpArgs false
namespace Go.Proofs.YtpbmdbahkpfkdaaDoor
open Go.RowKit
namespace cookieRingsAgree
set_option maxRecDepth 100000
def ss:List ParSh:=[.one (.int .i64),.one (.int .i64),.one (.int .i64)]
theorem hss:allSome (parOf Tryd.prog) Tryd.f5.params.toList=some ss:=by kernel_rfl
noncomputable def G0:Glob:=(globOf Tryd.prog Rows.cookieRingsAgreeRow.laid).getD []
theorem hG0:globOf Tryd.prog Rows.cookieRingsAgreeRow.laid=some G0:=by kernel_rfl
theorem den (xs:List D) (h:All2 HasPar xs ss):Den Tryd.prog G0 5 xs (.w (.c (.d (.bool true)))):=by
  obtain⟨x0,r0,rfl,h0,h⟩:=all2_cons h
  obtain⟨x1,r1,rfl,h1,h⟩:=all2_cons h
  obtain⟨x2,r2,rfl,h2,h⟩:=all2_cons h
  obtain rfl:=all2_nil h
  obtain⟨l0,rfl,k0,j0⟩:=is_i64 h0
  obtain⟨l1,rfl,k1,j1⟩:=is_i64 h1
  obtain⟨l2,rfl,k2,j2⟩:=is_i64 h2
  exact cagr_c G0 l0 k0 j0 l1 k1 j1 l2 k2 j2 (by kernel_rfl) (by kernel_rfl)
noncomputable def laidWorld (os:Os):World:={ World.holding Tryd.prog os ⟨#[],#[],[]⟩ with heap:=laidHeap Tryd.prog Rows.cookieRingsAgreeRow.laid (World.holding Tryd.prog os ⟨#[],#[],[]⟩).heap }
noncomputable def ps0:List MemPlace:=((readLaid Tryd.prog ((laidWorld default).forCall (fun _ _=>0) ⟨#[],(ss.map zeroPar).toArray,[]⟩).memory 8 (Rows.cookieRingsAgreeRow.laid.map (·.1))).map (·.2)).getD []
theorem lifted (os:Os) (started:os.Started) (H:Type) (enc:TypeId×Value→H) :
    ReturnsInHanded {} Tryd.checked os 5 .any (fun w args=>(Rows.cookieRingsAgreeSpec.pre enc Tryd.prog Tryd.f5 Rows.cookieRingsAgreeRow.domain false w args∧laidMet Tryd.prog Rows.cookieRingsAgreeRow.laid w)∧sizedMet enc Tryd.prog Tryd.f5 (OpenSpec.ofChange Rows.cookieRingsAgreeSpec) false w args) (Rows.cookieRingsAgreeSpec.post enc Tryd.prog Tryd.f5 false true false false):=by
  refine returnsInHanded_of_change_and (C:=Tryd.checked) (X:=fun w _=>laidMet Tryd.prog Rows.cookieRingsAgreeRow.laid w) (fun _ _ _ hh h=>h.of_heap hh) own started (by kernel_rfl) Tryd.func5
    (ChangeSpec.witness_at (enc:=enc) (C:=Tryd.checked) (os:=os) (X:=fun w _=>laidMet Tryd.prog Rows.cookieRingsAgreeRow.laid w) false (laidWorld os) (ss.map zeroPar).toArray 8 rfl (by kernel_rfl) (by kernel_rfl) (by kernel_rfl) (by kernel_rfl) (by kernel_rfl) (laidMet_mk 8 ps0 (by kernel_rfl) (by kernel_rfl) (by kernel_rfl))) ?_
  intro W base args ds gs before hval hW _ _ hL _
  obtain⟨_,hL,_⟩:=hL
  exact (law_calls (P:=Tryd.prog) (s:=Rows.cookieRingsAgreeSpec) rfl hss rfl (by kernel_rfl) (readable_mk (by kernel_rfl)) (tb:=4) (by kernel_rfl) Tryd.underlying4 (fun ds hd=>by
      match ds,hd with
      | [d0,d1,d2],_=>rfl) (G:=G0) den hval hW (glob_ok hG0 hL))
theorem row:Rows.CookieRingsAgreeSaid :=
  OpenClaim.holds_of_wide 5 Tryd.f5 rfl rfl rfl rfl rfl rfl rfl ⟨rfl,rfl,rfl,rfl,rfl⟩ rfl rfl rfl rfl rfl (by kernel_rfl) Tryd.func5 (by kernel_rfl)
    (of_decide_eq_true (by kernel_rfl)) (by unfold Func.isWrapper; first | (rw[if_pos (by decide +kernel)]; kernel_rfl) | (rw[if_neg (by decide +kernel)]; exact⟨rfl,rfl⟩))
    (fun os started H enc _=>lifted os started H enc)
theorem proved:Rows.CookieRingsAgreeCardSaid :=
  Claim7.holds_tied_plain_at .later [] [.data, .data] true (true, "c7b64284d7a3a05fd59bde36ad1f09d99c092f80054c5a707750de05b882e97b") false row (fun _ h => by cases h) (by kernel_rfl) (fun _ h => by cases h) cookieRingsAgree_row_tie rfl ⟨rfl, rfl⟩ (by kernel_rfl) rfl
    (fun f fn hf hfn=>by
      obtain rfl : f = 5 := Option.some.inj ((show Tryd.prog.funcNamed "sectime/sectimelaw19.CookieRingsAgree" = some 5 by kernel_rfl).symm.trans hf) |>.symm
      obtain rfl:fn=Tryd.f5:=(Option.some.inj (Tryd.func5.symm.trans hfn)).symm
      exact⟨by kernel_rfl,noStandIn (by kernel_rfl)⟩)
    (by kernel_rfl)
end cookieRingsAgree
end Go.Proofs.YtpbmdbahkpfkdaaDoor
