/- Texts of one's own, merged: from: Layer 4 on data: blocks,which is ranged over: by the kit's walk. Own work. -/
import Derived.RangeFuncBox
import Derived.RangeFuncLeaves
import Derived.Shelf.Abstract
import Derived.OwnWalkIn
import Derived.TacticsInMore
import Derived.LoopNIn
import Derived.LoopIn
import Derived.Test.YtofonnokanoflaaGreatDoorMt110
set_option linter.unusedVariables false
set_option linter.unusedSimpArgs false
namespace Go.Proofs.YtofonnokanoflaaGreatDoor
open Go.RowKit IntWalk
attribute [local go_sem] Oper.semAt_some
def mc (b:List UInt8) (i:Nat):List UInt8:=(b.drop (16*i)).take 16
def qa (b:List UInt8):List (List UInt8):=(List.range ((b.length+15) / 16)).map (mc b)
theorem zL (b:List UInt8):(qa b).length=(b.length+15) / 16:=by unfold qa; rw[aox,apG]
theorem Lb {b:List UInt8} {i:Nat} (h:16*i<b.length):(qa b)[i]?=some (mc b i):=by
  unfold qa; rw[apk,apZ (by omega)]; rfl
def Sc:aK:=⟨1,4,ae [cW 1 0,oO 2 (.mv .u)] (ae [oO 3 (.clos 180 [(.t 1)]),oM 2 3] .ret),[(2,none)]⟩
theorem afh:aI Tryz.prog {} Tryz.f170=some Sc:=by kernel_rfl
theorem aiR (G:au) (b:List UInt8):aF Tryz.prog G 170 [.sl (b.map bD)] (.w (.c (.d (.fn 180 [.ref [.sl (b.map bD)]])))):=by
  refine aT Tryz.func170 afh rfl rfl ?_;simp only[Sc,ai,af,seval];exact aZ
theorem Vq {n n':Nat} {P:Program} {l:Nat} {f:FuncId} {tmps:Array Value} {assign body:Code} {w:World} {R:Ending→World→Prop} (h:RoundIn Fence.wide n P l f tmps assign body w R):RoundIn Fence.wide n' P l f tmps assign body w R :=
  ⟨h.1,fun c cs _=>h.2 c cs (room_wide _)⟩
theorem MQ {S:aR} {w:World} {vb vo:Nat} {b:List UInt8} (h:fJ S w ⟨vb,vo,none⟩ 1 (b.map bD)) {i n c:Nat} (h1:i+n≤b.length) (hn:n≤c) (hc:c≤maxLen) :
    Reads S w (.slice (some ((⟨vb,vo,none⟩:Addr).add i)) n c) (.sl (((b.drop i).take n).map bD)):=by
  have hl:(((b.drop i).take n).map bD).length=n:=by rw[aox,aow,aoB]; omega
  have hrow:fJ S w ((⟨vb,vo,none⟩:Addr).add i) 1 (((b.drop i).take n).map bD):=by
    intro j hj;have hj':j<n:=by omega
    have e:(((b.drop i).take n).map bD)[j]=(b.map bD)[i+j]'(by rw[aox]; omega):=by simp
    rw[e];obtain⟨k1,k2⟩:=h (i+j) (by rw[aox]; omega);refine⟨k1,?_⟩;rw[ie];have:vo+(i+j)*1=vo+i+j*1:=by omega
    simp only at k2 ⊢;rw[this] at k2;exact k2
  have:=Reads.of_row (cap:=c) hrow (by omega) hc;rw[hl] at this;exact this
theorem ada (G:au) (b:List UInt8) (hb:b.length≤140737488355328):J6 Tryz.prog G 180 [.ref [.sl (b.map bD)]] ((qa b).map fun l=>[D.sl (l.map bD)]):=by
  refine⟨enters_of Tryz.func180 (by kernel_rfl) rfl,?_⟩;intro n w S lb hS hG hlb l J Jx hkeep hgrow hxgrow hround h0;obtain⟨p,rfl,hp⟩:∃ p,lb=[p]∧Reads S w p (.ref [.sl (b.map bD)]):=by
    cases hlb with
    | cons h1 h2=>cases h2; exact⟨_,rfl,h1⟩
  obtain⟨ad,rfl,hcells⟩:=hp.cellsAt;obtain⟨sv,hSad,hcell,hsv⟩:=hcells 0 (by simp);simp only[aqt,apL] at hSad hcell hsv;refine callsIn_of_wp Tryz.func180 rfl trivial ?_;simp only[Tryz.ntmps180,List.size_toArray,apj,ap1,Nat.reduceAdd,Nat.reduceSub,Array.replicate_succ,Array.replicate_zero,List.push_toArray,List.append_toArray,apa,ape];obtain⟨ab,ao,asp⟩:=ad;have hcellW:∀ k W,J k W→W.cell? ⟨ab,ao,asp⟩=some sv:=fun k W hj=>(hkeep k W hj).1.at hSad hcell
  have hcell0:=hcellW 0 w h0
  gi_wp2
  rcases hsv.row with ⟨rfl,hnil⟩ | ⟨av,cap,sz,rfl,hcap,hmax,hrow⟩
  ·gi_loopw [3] (fun i wr=>i=.int .i64 0∧J 0 wr) (fun i _=>0)
   case atStart=>exact⟨rfl,h0⟩
   case round =>
     obtain⟨rfl,hJs⟩:=hrel;have hc:=hcellW 0 wr hJs
     gi_wp2
     go_end0
     have hb0:b=[]:=by simpa using hnil
     subst hb0;exact⟨⟨_,rfl⟩,.inl hJs⟩
  ·have hlen:(b.map bD).length=b.length:=aox _;rw[hlen] at hcap hcellW hcell0;obtain⟨vb,vo,vs⟩:=av
   gi_loopw [3] (fun i wr=>∃ k:Nat,16*k<b.length+16∧i=.int .i64 ((16*k:Nat):Int)∧J k wr) (fun i _=>b.length+16-(intOf i).toNat)
   case atStart=>exact⟨0,by omega,rfl,h0⟩
   case round =>
     obtain⟨k,hk,rfl,hJs⟩:=hrel;have hc:=hcellW k wr hJs;by_cases hlt:16*k<b.length
     ·have hb1:0<b.length:=by omega
      obtain⟨c1,c2⟩:=hrow 0 (by rw[hlen]; exact hb1);obtain rfl:sz=1:=by rw[← c1,aoT]; rfl
      have hvs:vs=none:=by
        obtain⟨v,_,c3,_⟩:=c2 0 (by rw[aoT]; exact Nat.one_pos);exact cell_spot c3
      subst hvs;have hrowW:=hrow.keep (hkeep k wr hJs).1;have hget:((qa b).map fun l=>[D.sl (l.map bD)])[k]?=some [D.sl ((mc b k).map bD)]:=by
        rw[apk,Lb hlt]; rfl
      by_cases hfull:16*k+16≤b.length
      ·obtain⟨fn,tmps,assign,body,hy,hR⟩:=hround k _ wr [.slice (some ⟨vb,vo+16*k,none⟩) 16 (cap-16*k)] hget hJs (by
         rw[← ie];exact .cons (MQ hrowW (by omega) (by omega) (by omega)) .nil)
       have hy:(Instr.yield l #[.slice (some ⟨vb,vo+16*k,none⟩) 16 (cap-16*k)]).run Tryz.prog wr=.ok (.round l fn tmps assign body) wr:=hy
       gi_wp2
       refine⟨fun h=>(by cases h),(Vq hR).mono ?_⟩;rintro e W3 (⟨rfl,hJ3⟩ | ⟨rfl,hJx3⟩)
       ·gi_wp2
        go_roundw
        case rel=>exact⟨k+1,by omega,by simp; omega,hJ3⟩
        case measure=>simp[intOf]; omega
       ·gi_wp2
        refine bodyPost_ret (results_none rfl _ _ _) rfl ?_;exact⟨⟨_,rfl⟩,.inr hJx3⟩
      ·obtain⟨fn,tmps,assign,body,hy,hR⟩:=hround k _ wr [.slice (some ⟨vb,vo+16*k,none⟩) (b.length-16*k) (cap-16*k)] hget hJs (by
         have e:mc b k=(b.drop (16*k)).take (b.length-16*k):=by
           unfold mc;rw[aot (by rw[aoB]; omega),aot (by rw[aoB]; omega)]
         rw[e,← ie];exact .cons (MQ hrowW (by omega) (by omega) (by omega)) .nil)
       have hy:(Instr.yield l #[.slice (some ⟨vb,vo+16*k,none⟩) (b.length-16*k) (cap-16*k)]).run Tryz.prog wr=.ok (.round l fn tmps assign body) wr:=hy
       gi_wp2
       refine⟨fun h=>(by cases h),(Vq hR).mono ?_⟩;rintro e W3 (⟨rfl,hJ3⟩ | ⟨rfl,hJx3⟩)
       ·gi_wp2
        go_roundw
        case rel=>exact⟨k+1,by omega,by simp; omega,hJ3⟩
        case measure=>simp[intOf]; omega
       ·gi_wp2
        refine bodyPost_ret (results_none rfl _ _ _) rfl ?_;exact⟨⟨_,rfl⟩,.inr hJx3⟩
     ·gi_wp2
      go_end0
      have e:((qa b).map fun l=>[D.sl (l.map bD)]).length=k:=by
        rw[aox,zL]; omega
      rw[e];exact⟨⟨_,rfl⟩,.inl hJs⟩
end Go.Proofs.YtofonnokanoflaaGreatDoor
namespace Go.Proofs.YtofonnokanoflaaGreatDoor
open Go.RowKit IntWalk
def qG:List (Nat×V):=[(4,.w (.c (.ptr 1 1 0 0))),(8,.w (.c (.ptr 2 1 0 0))),(9,.w (.c (.ptr 3 1 0 0)))]
def aoa:Nat→V:=bz qG
def Ki (key c b:List UInt8) (k:Nat):aL×(Nat→Bool):=(hL [(1,.box [.d (.sl ((jf c k).map bD))]),(2,.box ((bF key).map bC)),(3,.box [.own 4 1 0 (oT (bF key) c b (16*k)).length]),(4,.row 1 ((oT (bF key) c b (16*k)).map bD))],uL [1,2,3,4])
def Jb (key c b:List UInt8) (k i:Nat):St:=⟨bz [(4,.w (.c (.ptr 1 1 0 0))),(8,.w (.c (.ptr 2 1 0 0))),(9,.w (.c (.ptr 3 1 0 0))),(11,.w (.c (.pa 5 1))),(34,.w (.c (.d (.sl ((mc b k).map bD))))),(35,.w (.c (.d (.int .i64 ((mc b k).length:Int))))),(36,.w (.c (.d (.int .i64 (i:Int)))))],
  hL [(1,.box [.d (.sl ((jf c k).map bD))]),(2,.box ((bF key).map bC)),(3,.box [.own 4 1 0 (oT (bF key) c b (16*k+i)).length]),(4,.row 1 ((oT (bF key) c b (16*k+i)).map bD)),(5,.row 1 ((ip (bF key) (jf c k)).map bD))],uL [1,2,3,4,5]⟩
theorem aad {b:List UInt8} (k:Nat):(mc b k).length=min 16 (b.length-16*k):=by unfold mc; rw[aow,aoB]
theorem aae {b:List UInt8} {k i:Nat} (hi:i<16) (h:16*k+i<b.length):(mc b k)[i]?=some (b.getD (16*k+i) 0):=by
  unfold mc; rw[aoY,if_pos hi,apo]; exact iC h
theorem aiS {l:List (Nat×V)} {ts:List Nat} (h:ts.all (fun t=>!(l.map (·.1)).contains t)=true):∀ t∈ts,bz l t=.undef:=by
  intro t ht;have h1:=aoE.1 h t ht;have h2:t∉l.map (·.1):=by simpa using h1
  clear h h1 ht
  induction l with
  | nil=>rfl
  | cons p l ih =>
    simp only[aos,aoK,not_or] at h2
    show upd (bz l) p.1 p.2 t=_
    unfold upd;rw[if_neg h2.1];exact ih h2.2
def Ga:bq := ae [aU .lss 37 36 35] (.seq (aw 37 .skip (.exit 2)) (.seq (.block 3 (ae [oM 38 36,bW 39 1 34 36,aA 40 39,oM 12 38,oM 13 40] (.reg [aA 41 9,oM 42 13,oM 43 12,oO 44 (.idxPa 1 16 (.t 11) (.t 43)),aA 45 44,aU .xor 46 42 45,oO 47 (.bldSl false 1 1 aj [(0,(.t 46))]),oO 48 (.app false 1 1 (.t 41) (.t 47)),ei 9 48]))) (.reg [am .add 49 36 1,oM 36 49])))
def Pz:bq := .reg [oM 10 30]
def PC:bq := .block 1 (ae [bn 31 176 8,aA 32 4,cd 33 171 31 32,oO 11 (.allocArr [aj,aj,aj,aj,aj,aj,aj,aj,aj,aj,aj,aj,aj,aj,aj,aj]),aS 16 11 33] (.seq (ae [oM 34 10,bc 35 34,ak 36 0] (.block 2 (.loop Ga))) (.reg [aA 50 4,aW 51 172 50,ei 4 51])))
def yb:aK:=⟨3,53,ae [oO 4 (.box .ownBox (.t 1)),aM 6,ak 7 0] (.seq (ae [oM 14 0,bc 15 14,am .neq 16 15 16] (aw 16 (ae [aM 6,ak 7 5] .ret) .skip)) (.seq (ae [aA 17 4,bc 18 17,am .neq 19 18 16] (aw 19 (ae [aM 6,ak 7 3] .ret) .skip)) (.seq (ae [oM 20 2,bc 21 20,am .gtr 22 21 65535] (aw 22 (ae [aM 6,ak 7 2] .ret) .skip)) (ae [oM 23 0,aW 24 169 23,oO 8 (.alloc (cT 176 (.d aj))),aS 176 8 24] (ae [oM 25 2,bc 26 25,oO 27 (.make true 1 1 aj (kI 0) (.t 26)),oO 9 (.alloc [.nil]),ei 9 27] (.seq (ae [oM 28 2,aW 29 170 28] (.block 0 (.rangeF (.t 29) [30] Pz PC))) (ae [aA 52 9,oM 6 52,ak 7 0] .ret))))))),[(6,none),(7,none)]⟩
theorem aiT:aI Tryz.prog { own:=[4] } Tryz.f154=some yb:=by kernel_rfl
set_option maxRecDepth 20000 in
set_option maxHeartbeats 3200000 in
theorem amg (G:au) (key c b:List UInt8) (hk:key.length≤9223372036854775807) (hc:c.length≤9223372036854775807) (hb:b.length≤9223372036854775807):aF Tryz.prog G 154 [.sl (key.map bD),.sl (c.map bD),.sl (b.map bD)] (.tup [.c (.fr 1 ((C0 key c b).map bD)),.c (.d (.int .i64 (pf key c b)))]):=by
  refine aT Tryz.func154 aiT rfl rfl ?_;by_cases h:key.length=16
  ·by_cases h2:c.length=16
   ·by_cases h3:b.length≤65535
    ·have hrk:=GY h;have r4:List.drop 176 (cT 176 (0:UInt8))=[]:=apA (by rw[eR]; omega);rw[ac8 h h2 h3,ac9 h h2 h3];simp only[yb,ai,af,seval,iteOmega,h,h2,Ry];refine sC (Vj G key h) ?_;simp only[nO,hrk,eR,yF,oH,r4,aoF,af,aa,seval,iteOmega,toNatUp];refine sD (aiR G b) ?_;refine ack aoa (f1:=bz qG) rfl (Ki key c b) rfl (ada G b (by omega)) ?_ ?_ ?_ ?_ ?_
     ·intro r hr;obtain⟨l,_,rfl⟩:=aoN.1 hr;rfl
     ·refine aV (fun i=>if i=1 then 32 else if i=2 then 64 else if i=3 then 72 else 216) ?_ ?_ rfl (by simp[qG,V.ids,W.ids,C.ids,Ob.ids,lH]) <;> simp only[qG,wx,aH,seval,vm,oT0] <;> rfl
     ·exact aiS (by rfl)
     ·intro k r hr;obtain⟨hk1,rfl⟩:16*k<b.length∧r=[D.sl ((mc b k).map bD)]:=by
        rw[apk] at hr;rcases aoP (16*k) b.length with hlt | hge
        ·rw[Lb hlt] at hr;exact⟨hlt,by simpa using hr.symm⟩
        ·rw[api (by rw[zL]; omega)] at hr;cases hr
      have hel:=nJ (bF key) (jf c k);have t176:(bF key).take 176=bF key:=aot (by omega);simp only[Pz,PC,Ki,qG,vK,af,seval,hrk,t176,xP];refine sC (Vk G (bF key) (jf c k) hrk (G6 h2 k)) ?_;simp only[hel,mz,eR,af,aa,seval];refine bQ (Jb key c b k) (fun i=>16-i) (fun i=>i≤16∧16*k+i≤b.length) 0 ⟨by omega,by omega⟩ ?_ ?_
      ·refine aV (fun i=>if i=5 then 88 else i) ?_ ?_ rfl (by simp[V.ids,W.ids,C.ids,Ob.ids,lH]) <;> simp only[wx,aH,seval,vm,apL]
      ·rintro i ⟨hi16,hib⟩;have hbl:=aad (b:=b) k;have hTk:=Vp (bF key) c b (16*k+i);have hTk1:=Vp (bF key) c b (16*k+i+1);by_cases hgo:i<16∧16*k+i<b.length
       ·obtain⟨hk2,hk3⟩:=hgo;have g1:=aae (b:=b) hk2 hk3;have g2:(ip (bF key) (jf c k))[i]?=some ((ip (bF key) (jf c k)).getD i 0):=iC (by omega);have x1:=lD (b.getD (16*k+i) 0) ((ip (bF key) (jf c k)).getD i 0);have ho:=afg (bF key) c b hk2 hk3;simp only[Ga,Jb,af,aa,seval,iteOmega,toNatUp,ba,g1,g2,x1,cG];refine bA (i+1) (by omega) ⟨by omega,by omega⟩ (aV (fun i=>if i=4 then 384 else i) ?_ ?_ rfl (by simp[V.ids,W.ids,C.ids,Ob.ids,lH])) <;> simp only[wx,aH,aY,seval,vm];refine⟨?_,?_⟩
        ·rw[show 16*k+(i+1)=16*k+i+1 from rfl,hTk,hTk1,show min (16*k+i) b.length+1=min (16*k+i+1) b.length by omega]
        ·rw[← aqA,← ho,aoH]; rfl
       ·have e:oT (bF key) c b (16*k+i)=oT (bF key) c b (16*(k+1)):=by
          by_cases h16:i=16
          ·rw[h16,show 16*k+16=16*(k+1) by omega]
          ·rw[Bc _ _ _ (by omega),Bc _ _ _ (by omega)]
        have hx:=amf G (jf c k) (by rw[G6 h2]; omega);rw[ac7 h2] at hx;have hnl:¬ i<(mc b k).length:=by omega
        simp only[Ga,Jb,e,af,seval,iteOmega];refine sD (hx) ?_;refine acl (f1:=bz qG) rfl ?_;refine aV (fun i=>i) ?_ ?_ rfl (by simp[qG,V.ids,W.ids,C.ids,Ob.ids,lH]) <;> simp only[qG,wx,aH,seval,vm]
     ·have e:oT (bF key) c b (16*((qa b).map fun l=>[D.sl (l.map bD)]).length)=jK (bF key) c b:=Bc _ _ _ (by rw[aox,zL]; omega);have hl:=z6 (bF key) c b;have ht:(jK (bF key) c b).take b.length=jK (bF key) c b:=aot (by omega);simp only[Ki,qG,af,seval];have e:oT (bF key) c b (16*(qa b).length)=jK (bF key) c b:=Bc _ _ _ (by rw[zL]; omega);exact HR (by simp only[af,seval,po,e,hl]) (by simp only[af,seval])
    ·rw[aac h h2 (by omega),F9 (by omega)];simp only[yb,ai,af,seval,iteOmega,h,h2];exact dZ
   ·rw[abn b h h2,F9 (by omega)];simp only[yb,ai,af,seval,iteOmega,h];exact dZ
  ·rw[abm c b h,F9 (by omega)];simp only[yb,ai,af,seval,iteOmega];exact dZ
end Go.Proofs.YtofonnokanoflaaGreatDoor
