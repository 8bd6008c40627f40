/- EstablishRecords: the law of layer 21 on records,numbers and choices is true for all records,bytes and numbers,and leaves its arguments as they are. Conditions: none. Own work. -/
import Derived.Test.YtlghfnidknfakaaGreatDoorMg119
import Derived.Test.YtlghfnidknfakaaGreatDoorMg19
set_option linter.unusedVariables false
set_option linter.unusedSimpArgs false
namespace Go.Proofs.YtlghfnidknfakaaGreatDoor
open Go.RowKit
namespace establishRecords
set_option maxRecDepth 100000
def ss:List jO:=[.one (.sl [.bool,.int .i64,.sl [.int .u8]]),.one (.sl [.int .u8]),.one (.sl [.int .i64]),.one (.sl [.int .i64])]
theorem hss:aU (pH Tryz.prog) Tryz.f3.params.toList=some ss:=by kernel_rfl
noncomputable def G0:ah:=(pu Tryz.prog Rows.establishRecordsRow.laid).getD []
theorem hG0:pu Tryz.prog Rows.establishRecordsRow.laid=some G0:=by kernel_rfl
theorem den (xs:List D) (h:ai na xs ss):ak Tryz.prog G0 3 xs (.w (.c (.d (.bool true)))):=by
  obtain⟨x0,r0,rfl,h0,h⟩:=qz h;obtain⟨x1,r1,rfl,h1,h⟩:=qz h;obtain⟨x2,r2,rfl,h2,h⟩:=qz h;obtain⟨x3,r3,rfl,h3,h⟩:=qz h;obtain rfl:=OD h;obtain⟨l0,rfl,k0,j0⟩:=Qx h0;obtain⟨l1,rfl,k1⟩:=Eb h1;obtain⟨l2,rfl,k2,j2⟩:=Gs h2;obtain⟨l3,rfl,k3,j3⟩:=Gs h3;exact Vd G0 l0 k0 j0 l1 k1 l2 k2 j2 l3 k3 j3 (by kernel_rfl) (by kernel_rfl)
noncomputable def laidWorld (os:Os):World:={ World.holding Tryz.prog os ⟨#[],#[],[]⟩ with heap:=OC Tryz.prog Rows.establishRecordsRow.laid (World.holding Tryz.prog os ⟨#[],#[],[]⟩).heap }
noncomputable def ps0:List MemPlace:=((oU Tryz.prog ((laidWorld default).forCall (fun _ _=>0) ⟨#[],(ss.map Gm).toArray,[]⟩).memory 8 (Rows.establishRecordsRow.laid.map (·.1))).map (·.2)).getD []
theorem lifted (os:Os) (started:os.Started) (H:Type) (enc:TypeId×Value→H) :
    ReturnsInHanded {} Tryz.checked os 3 .any (fun w args=>(Rows.establishRecordsSpec.pre enc Tryz.prog Tryz.f3 Rows.establishRecordsRow.domain false w args∧laidMet Tryz.prog Rows.establishRecordsRow.laid w)∧sizedMet enc Tryz.prog Tryz.f3 (OpenSpec.ofChange Rows.establishRecordsSpec) false w args) (Rows.establishRecordsSpec.post enc Tryz.prog Tryz.f3 false true false false):=by
  refine returnsInHanded_of_change_and (C:=Tryz.checked) (X:=fun w _=>laidMet Tryz.prog Rows.establishRecordsRow.laid w) (fun _ _ _ hh h=>h.of_heap hh) own started (by kernel_rfl) Tryz.func3
    (ChangeSpec.witness_at (enc:=enc) (C:=Tryz.checked) (os:=os) (X:=fun w _=>laidMet Tryz.prog Rows.establishRecordsRow.laid w) false (laidWorld os) (ss.map Gm).toArray 8 rfl (by kernel_rfl) (by kernel_rfl) (by kernel_rfl) (by kernel_rfl) (by kernel_rfl) (Ml 8 ps0 (by kernel_rfl) (by kernel_rfl) (by kernel_rfl))) ?_
  intro W base args ds gs before hval hW _ _ hL _;obtain⟨_,hL,_⟩:=hL;exact (Nh (P:=Tryz.prog) (s:=Rows.establishRecordsSpec) rfl hss rfl (by kernel_rfl) (LU (by kernel_rfl)) (tb:=4) (by kernel_rfl) Tryz.underlying4 (fun ds hd=>by
      match ds,hd with
      | [d0,d1,d2,d3],_=>rfl) (G:=G0) den hval hW (Gl hG0 hL))
theorem row:Rows.EstablishRecordsSaid :=
  OpenClaim.holds_of_wide 3 Tryz.f3 rfl rfl rfl rfl rfl rfl rfl ⟨rfl,rfl,rfl,rfl,rfl⟩ rfl rfl rfl rfl rfl (by kernel_rfl) Tryz.func3 (by kernel_rfl)
    (of_decide_eq_true (by kernel_rfl)) (by unfold Func.isWrapper; first | (rw[if_pos (by decide +kernel)]; kernel_rfl) | (rw[if_neg (by decide +kernel)]; exact⟨rfl,rfl⟩))
    (fun os started H enc _=>lifted os started H enc)
theorem proved:Rows.EstablishRecordsCardSaid :=
  Claim7.holds_tied_plain_at .later [] [.data, .data] true (true, "60949dc78aff2a4848812a02054f79b07d3a5e37af0f4c578753428091775329") false row (fun _ h => by cases h) (by kernel_rfl) (fun _ h => by cases h) establishRecords_row_tie rfl ⟨rfl, rfl⟩ (by kernel_rfl) rfl
    (fun f fn hf hfn=>by
      obtain rfl : f = 3 := Option.some.inj ((show Tryz.prog.funcNamed "sectime/sectimelaw21.EstablishRecords" = some 3 by kernel_rfl).symm.trans hf) |>.symm
      obtain rfl:fn=Tryz.f3:=(Option.some.inj (Tryz.func3.symm.trans hfn)).symm;exact⟨by kernel_rfl,Nj (by kernel_rfl)⟩)
    (by kernel_rfl)
end establishRecords
end Go.Proofs.YtlghfnidknfakaaGreatDoor
