/- ProtectActs: the law of layer 18 on Bare,Protect,Read and Open is true for all keys,packets,nonces and bytes,and leaves its arguments as they are. Conditions: none. Own work. -/
import Derived.Test.YtcikhnjfkfigjaaGreatMg118
import Derived.Test.YtcikhnjfkfigjaaGreatMg19
set_option linter.unusedVariables false
set_option linter.unusedSimpArgs false
namespace Go.Proofs.YtcikhnjfkfigjaaGreat
open Go.RowKit
namespace protectActs
set_option maxRecDepth 100000
def ss:List ParSh:=[.one (.sl [.int .u8]),.many [.int .i64,.int .i64,.int .i64,.int .i64,.int .i64,.int .i64,.int .u32,.int .u32,.int .u32,.int .u64,.int .u64,.int .u64,.int .u64,.sl [.int .i64,.sl [.int .u8]],.sl [.int .i64,.sl [.int .u8]],.bool],.one (.sl [.int .u8]),.one (.sl [.int .u8])]
theorem hss:allSome (parOf Tryz.prog) Tryz.f3.params.toList=some ss:=by kernel_rfl
def G0:Glob:=[]
theorem den (xs:List D) (h:All2 HasPar xs ss):Den Tryz.prog G0 3 xs (.w (.c (.d (.bool true)))):=by
  obtain⟨x0,r0,rfl,h0,h⟩:=all2_cons h
  obtain⟨x1,r1,rfl,h1,h⟩:=all2_cons h
  obtain⟨x2,r2,rfl,h2,h⟩:=all2_cons h
  obtain⟨x3,r3,rfl,h3,h⟩:=all2_cons h
  obtain rfl:=all2_nil h
  obtain⟨l0,rfl,k0⟩:=is_bytes h0
  obtain⟨c1,rfl,h1⟩:=is_many h1
  obtain⟨y1_0,c1,rfl,g1_0,h1⟩:=shs_cons h1
  obtain⟨y1_1,c1,rfl,g1_1,h1⟩:=shs_cons h1
  obtain⟨y1_2,c1,rfl,g1_2,h1⟩:=shs_cons h1
  obtain⟨y1_3,c1,rfl,g1_3,h1⟩:=shs_cons h1
  obtain⟨y1_4,c1,rfl,g1_4,h1⟩:=shs_cons h1
  obtain⟨y1_5,c1,rfl,g1_5,h1⟩:=shs_cons h1
  obtain⟨y1_6,c1,rfl,g1_6,h1⟩:=shs_cons h1
  obtain⟨y1_7,c1,rfl,g1_7,h1⟩:=shs_cons h1
  obtain⟨y1_8,c1,rfl,g1_8,h1⟩:=shs_cons h1
  obtain⟨y1_9,c1,rfl,g1_9,h1⟩:=shs_cons h1
  obtain⟨y1_10,c1,rfl,g1_10,h1⟩:=shs_cons h1
  obtain⟨y1_11,c1,rfl,g1_11,h1⟩:=shs_cons h1
  obtain⟨y1_12,c1,rfl,g1_12,h1⟩:=shs_cons h1
  obtain⟨y1_13,c1,rfl,g1_13,h1⟩:=shs_cons h1
  obtain⟨y1_14,c1,rfl,g1_14,h1⟩:=shs_cons h1
  obtain⟨y1_15,c1,rfl,g1_15,h1⟩:=shs_cons h1
  obtain rfl:=shs_nil h1
  obtain⟨l1_0,rfl,k1_0,j1_0⟩:=is_i64 g1_0
  obtain⟨l1_1,rfl,k1_1,j1_1⟩:=is_i64 g1_1
  obtain⟨l1_2,rfl,k1_2,j1_2⟩:=is_i64 g1_2
  obtain⟨l1_3,rfl,k1_3,j1_3⟩:=is_i64 g1_3
  obtain⟨l1_4,rfl,k1_4,j1_4⟩:=is_i64 g1_4
  obtain⟨l1_5,rfl,k1_5,j1_5⟩:=is_i64 g1_5
  obtain⟨l1_6,rfl⟩:=is_u32 g1_6
  obtain⟨l1_7,rfl⟩:=is_u32 g1_7
  obtain⟨l1_8,rfl⟩:=is_u32 g1_8
  obtain⟨l1_9,rfl,k1_9⟩:=is_u64 g1_9
  obtain⟨l1_10,rfl,k1_10⟩:=is_u64 g1_10
  obtain⟨l1_11,rfl,k1_11⟩:=is_u64 g1_11
  obtain⟨l1_12,rfl,k1_12⟩:=is_u64 g1_12
  obtain⟨l1_13,rfl,k1_13,j1_13⟩:=is_fields g1_13
  obtain⟨l1_14,rfl,k1_14,j1_14⟩:=is_fields g1_14
  obtain⟨l1_15,rfl⟩:=is_bool g1_15
  obtain⟨l2,rfl,k2⟩:=is_bytes h2
  obtain⟨l3,rfl,k3⟩:=is_bytes h3
  exact pacts_c G0 l0 k0 l1_0 k1_0 j1_0 l1_1 k1_1 j1_1 l1_2 k1_2 j1_2 l1_3 k1_3 j1_3 l1_4 k1_4 j1_4 l1_5 k1_5 j1_5 l1_6 l1_7 l1_8 l1_9 k1_9 l1_10 k1_10 l1_11 k1_11 l1_12 k1_12 l1_13 k1_13 j1_13 l1_14 k1_14 j1_14 l1_15 l2 k2 l3 k3
theorem lifted (os:Os) (started:os.Started) (H:Type) (enc:TypeId×Value→H) :
    ReturnsInHanded {} Tryz.checked os 3 .any (Rows.protectActsSpec.pre6 enc Tryz.prog Tryz.f3 Rows.protectActsRow.domain false) (Rows.protectActsSpec.post enc Tryz.prog Tryz.f3 false true false false):=by
  refine returnsInHanded_of_change (C:=Tryz.checked) own started (by kernel_rfl) Tryz.func3
    (ChangeSpec.witness6 (enc:=enc) (C:=Tryz.checked) false ⟨#[],(ss.map zeroPar).toArray,[]⟩ 8 (by kernel_rfl) (by kernel_rfl) (by kernel_rfl) (by kernel_rfl)) ?_
  intro W base args ds gs before hval hW _ _
  exact (law_calls (P:=Tryz.prog) (s:=Rows.protectActsSpec) rfl hss rfl (by kernel_rfl) (readable_mk (by kernel_rfl)) (tb:=4) (by kernel_rfl) Tryz.underlying4 (fun ds hd=>by
      match ds,hd with
      | [d0,d1,d2,d3],_=>rfl) (G:=G0) den hval hW (fun p hp=>by cases hp))
theorem row:Rows.ProtectActsSaid :=
  OpenClaim.holds_of_wide 3 Tryz.f3 rfl rfl rfl rfl rfl rfl rfl ⟨rfl,rfl,rfl,rfl,rfl⟩ rfl rfl rfl rfl rfl (by kernel_rfl) Tryz.func3 (by kernel_rfl)
    (of_decide_eq_true (by kernel_rfl)) (by unfold Func.isWrapper; first | (rw[if_pos (by decide +kernel)]; kernel_rfl) | (rw[if_neg (by decide +kernel)]; exact⟨rfl,rfl⟩))
    (fun os started H enc _=>lifted os started H enc)
theorem proved:Rows.ProtectActsSaid:=row
end protectActs
end Go.Proofs.YtcikhnjfkfigjaaGreat
