/- TopAnyServer: the theorem of stage 22 on servers with the same ring is true for all numbers,and leaves its arguments as they are. Conditions: none. Own work. -/
import Derived.Test.YtofonnokanoflaaGreatDoorMt119
import Derived.Test.YtofonnokanoflaaGreatDoorMt19
set_option linter.unusedVariables false
set_option linter.unusedSimpArgs false
namespace Go.Proofs.YtofonnokanoflaaGreatDoor
open Go.RowKit
namespace topAnyServer
set_option maxRecDepth 100000
def ss:List qq:=[.one (.int .i64),.one (.int .i64),.one (.int .i64)]
theorem hss:bB (yG Tryz.prog) Tryz.f4.params.toList=some ss:=by kernel_rfl
noncomputable def G0:au:=(ya Tryz.prog Rows.topAnyServerRow.laid).getD []
theorem hG0:ya Tryz.prog Rows.topAnyServerRow.laid=some G0:=by kernel_rfl
theorem den (xs:List D) (h:aD vn xs ss):aF Tryz.prog G0 4 xs (.w (.c (.d (.bool true)))):=by
  obtain⟨x0,r0,rfl,h0,h⟩:=Fg h;obtain⟨x1,r1,rfl,h1,h⟩:=Fg h;obtain⟨x2,r2,rfl,h2,h⟩:=Fg h;obtain rfl:=aco h;obtain⟨l0,rfl,k0,j0⟩:=HS h0;obtain⟨l1,rfl,k1,j1⟩:=HS h1;obtain⟨l2,rfl,k2,j2⟩:=HS h2;exact an3 G0 l0 k0 j0 l1 k1 j1 l2 k2 j2 (by kernel_rfl) (by kernel_rfl)
noncomputable def laidWorld (os:Os):World:={ World.holding Tryz.prog os ⟨#[],#[],[]⟩ with heap:=acn Tryz.prog Rows.topAnyServerRow.laid (World.holding Tryz.prog os ⟨#[],#[],[]⟩).heap }
noncomputable def ps0:List MemPlace:=((xF Tryz.prog ((laidWorld default).forCall (fun _ _=>0) ⟨#[],(ss.map RB).toArray,[]⟩).memory 8 (Rows.topAnyServerRow.laid.map (·.1))).map (·.2)).getD []
theorem lifted (os:Os) (started:os.Started) (H:Type) (enc:TypeId×Value→H) :
    ReturnsInHanded {} Tryz.checked os 4 .any (fun w args=>(Rows.topAnyServerSpec.pre enc Tryz.prog Tryz.f4 Rows.topAnyServerRow.domain false w args∧laidMet Tryz.prog Rows.topAnyServerRow.laid w)∧sizedMet enc Tryz.prog Tryz.f4 (OpenSpec.ofChange Rows.topAnyServerSpec) false w args) (Rows.topAnyServerSpec.post enc Tryz.prog Tryz.f4 false true false false):=by
  refine returnsInHanded_of_change_and (C:=Tryz.checked) (X:=fun w _=>laidMet Tryz.prog Rows.topAnyServerRow.laid w) (fun _ _ _ hh h=>h.of_heap hh) own started (by kernel_rfl) Tryz.func4
    (ChangeSpec.witness_at (enc:=enc) (C:=Tryz.checked) (os:=os) (X:=fun w _=>laidMet Tryz.prog Rows.topAnyServerRow.laid w) false (laidWorld os) (ss.map RB).toArray 8 rfl (by kernel_rfl) (by kernel_rfl) (by kernel_rfl) (by kernel_rfl) (by kernel_rfl) (Z9 8 ps0 (by kernel_rfl) (by kernel_rfl) (by kernel_rfl))) ?_
  intro W base args ds gs before hval hW _ _ hL _;obtain⟨_,hL,_⟩:=hL;exact (aa1 (P:=Tryz.prog) (s:=Rows.topAnyServerSpec) rfl hss rfl (by kernel_rfl) (ZJ (by kernel_rfl)) (tb:=4) (by kernel_rfl) Tryz.underlying4 (fun ds hd=>by
      match ds,hd with
      | [d0,d1,d2],_=>rfl) (G:=G0) den hval hW (RA hG0 hL))
theorem row:Rows.TopAnyServerSaid :=
  OpenClaim.holds_of_wide 4 Tryz.f4 rfl rfl rfl rfl rfl rfl rfl ⟨rfl,rfl,rfl,rfl,rfl⟩ rfl rfl rfl rfl rfl (by kernel_rfl) Tryz.func4 (by kernel_rfl)
    (of_decide_eq_true (by kernel_rfl)) (by unfold Func.isWrapper; first | (rw[if_pos (by decide +kernel)]; kernel_rfl) | (rw[if_neg (by decide +kernel)]; exact⟨rfl,rfl⟩))
    (fun os started H enc _=>lifted os started H enc)
theorem proved:Rows.TopAnyServerCardSaid :=
  Claim7.holds_tied_plain_at .later [] [.data, .data] true (true, "dec38547649b9ff26eb512348b9e9c2474e5b1d5f12100006d4e77028b5f1d75") false row (fun _ h => by cases h) (by kernel_rfl) (fun _ h => by cases h) topAnyServer_row_tie rfl ⟨rfl, rfl⟩ (by kernel_rfl) rfl
    (fun f fn hf hfn=>by
      obtain rfl : f = 4 := Option.some.inj ((show Tryz.prog.funcNamed "sectime/sectimetop.TopAnyServer" = some 4 by kernel_rfl).symm.trans hf) |>.symm
      obtain rfl:fn=Tryz.f4:=(Option.some.inj (Tryz.func4.symm.trans hfn)).symm;exact⟨by kernel_rfl,aa3 (by kernel_rfl)⟩)
    (by kernel_rfl)
end topAnyServer
end Go.Proofs.YtofonnokanoflaaGreatDoor
