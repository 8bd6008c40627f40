/- Texts of one's own, merged: from: Layer 4 on data: blocks,which is ranged over: by the kit's walk. Own work. -/
import Derived.RangeFuncBox
import Derived.RangeFuncLeaves
import Derived.Shelf.Abstract
import Derived.OwnWalkIn
import Derived.TacticsInMore
import Derived.LoopNIn
import Derived.LoopIn
import Derived.Test.YtnjhelpgohdajaaGreatDoorMg110
set_option linter.unusedVariables false
set_option linter.unusedSimpArgs false
namespace Go.Proofs.YtnjhelpgohdajaaGreatDoor
open Go.RowKit IntWalk
attribute [local go_sem] Oper.semAt_some
def mw (b:List UInt8) (i:Nat):List UInt8:=(b.drop (16*i)).take 16
def qo (b:List UInt8):List (List UInt8):=(List.range ((b.length+15) / 16)).map (mw b)
theorem Ai (b:List UInt8):(qo b).length=(b.length+15) / 16:=by unfold qo; rw[ap1,aqV]
theorem LG {b:List UInt8} {i:Nat} (h:16*i<b.length):(qo b)[i]?=some (mw b i):=by
  unfold qo; rw[aqH,arp (by omega)]; rfl
def Ql:aO:=⟨1,4,ae [cX 1 0,oO 2 (.mv .u)] (ae [oO 3 (.clos 170 [(.t 1)]),oM 2 3] .ret),[(2,none)]⟩
theorem aeB:aM Tryz.prog {} Tryz.f158=some Ql:=by kernel_rfl
theorem ajz (G:au) (b:List UInt8):aF Tryz.prog G 158 [.sl (b.map bD)] (.w (.c (.d (.fn 170 [.ref [.sl (b.map bD)]])))):=by
  refine aX Tryz.func158 aeB rfl rfl ?_;simp only[Ql,ai,af,seval];exact aZ
theorem Sc {n n':Nat} {P:Program} {l:Nat} {f:FuncId} {tmps:Array Value} {assign body:Code} {w:World} {R:Ending→World→Prop} (h:RoundIn Fence.wide n P l f tmps assign body w R):RoundIn Fence.wide n' P l f tmps assign body w R :=
  ⟨h.1,fun c cs _=>h.2 c cs (room_wide _)⟩
theorem MQ {S:aT} {w:World} {vb vo:Nat} {b:List UInt8} (h:fJ S w ⟨vb,vo,none⟩ 1 (b.map bD)) {i n c:Nat} (h1:i+n≤b.length) (hn:n≤c) (hc:c≤maxLen) :
    Reads S w (.slice (some ((⟨vb,vo,none⟩:Addr).add i)) n c) (.sl (((b.drop i).take n).map bD)):=by
  have hl:(((b.drop i).take n).map bD).length=n:=by rw[ap1,ap0,ap5]; omega
  have hrow:fJ S w ((⟨vb,vo,none⟩:Addr).add i) 1 (((b.drop i).take n).map bD):=by
    intro j hj;have hj':j<n:=by omega
    have e:(((b.drop i).take n).map bD)[j]=(b.map bD)[i+j]'(by rw[ap1]; omega):=by simp
    rw[e];obtain⟨k1,k2⟩:=h (i+j) (by rw[ap1]; omega);refine⟨k1,?_⟩;rw[il];have:vo+(i+j)*1=vo+i+j*1:=by omega
    simp only at k2 ⊢;rw[this] at k2;exact k2
  have:=Reads.of_row (cap:=c) hrow (by omega) hc;rw[hl] at this;exact this
theorem abD (G:au) (b:List UInt8) (hb:b.length≤140737488355328):KD Tryz.prog G 170 [.ref [.sl (b.map bD)]] ((qo b).map fun l=>[D.sl (l.map bD)]):=by
  refine⟨enters_of Tryz.func170 (by kernel_rfl) rfl,?_⟩;intro n w S lb hS hG hlb l J Jx hkeep hgrow hxgrow hround h0;obtain⟨p,rfl,hp⟩:∃ p,lb=[p]∧Reads S w p (.ref [.sl (b.map bD)]):=by
    cases hlb with
    | cons h1 h2=>cases h2; exact⟨_,rfl,h1⟩
  obtain⟨ad,rfl,hcells⟩:=hp.cellsAt;obtain⟨sv,hSad,hcell,hsv⟩:=hcells 0 (by simp);simp only[arV,ark] at hSad hcell hsv;refine callsIn_of_wp Tryz.func170 rfl trivial ?_;simp only[Tryz.ntmps170,List.size_toArray,aqx,aqZ,Nat.reduceAdd,Nat.reduceSub,Array.replicate_succ,Array.replicate_zero,List.push_toArray,List.append_toArray,aqz,aqE];obtain⟨ab,ao,asp⟩:=ad;have hcellW:∀ k W,J k W→W.cell? ⟨ab,ao,asp⟩=some sv:=fun k W hj=>(hkeep k W hj).1.at hSad hcell
  have hcell0:=hcellW 0 w h0
  gi_wp2
  rcases hsv.row with ⟨rfl,hnil⟩ | ⟨av,cap,sz,rfl,hcap,hmax,hrow⟩
  ·gi_loopw [3] (fun i wr=>i=.int .i64 0∧J 0 wr) (fun i _=>0)
   case atStart=>exact⟨rfl,h0⟩
   case round =>
     obtain⟨rfl,hJs⟩:=hrel;have hc:=hcellW 0 wr hJs
     gi_wp2
     go_end0
     have hb0:b=[]:=by simpa using hnil
     subst hb0;exact⟨⟨_,rfl⟩,.inl hJs⟩
  ·have hlen:(b.map bD).length=b.length:=ap1 _;rw[hlen] at hcap hcellW hcell0;obtain⟨vb,vo,vs⟩:=av
   gi_loopw [3] (fun i wr=>∃ k:Nat,16*k<b.length+16∧i=.int .i64 ((16*k:Nat):Int)∧J k wr) (fun i _=>b.length+16-(intOf i).toNat)
   case atStart=>exact⟨0,by omega,rfl,h0⟩
   case round =>
     obtain⟨k,hk,rfl,hJs⟩:=hrel;have hc:=hcellW k wr hJs;by_cases hlt:16*k<b.length
     ·have hb1:0<b.length:=by omega
      obtain⟨c1,c2⟩:=hrow 0 (by rw[hlen]; exact hb1);obtain rfl:sz=1:=by rw[← c1,aqn]; rfl
      have hvs:vs=none:=by
        obtain⟨v,_,c3,_⟩:=c2 0 (by rw[aqn]; exact Nat.one_pos);exact cell_spot c3
      subst hvs;have hrowW:=hrow.keep (hkeep k wr hJs).1;have hget:((qo b).map fun l=>[D.sl (l.map bD)])[k]?=some [D.sl ((mw b k).map bD)]:=by
        rw[aqH,LG hlt]; rfl
      by_cases hfull:16*k+16≤b.length
      ·obtain⟨fn,tmps,assign,body,hy,hR⟩:=hround k _ wr [.slice (some ⟨vb,vo+16*k,none⟩) 16 (cap-16*k)] hget hJs (by
         rw[← il];exact .cons (MQ hrowW (by omega) (by omega) (by omega)) .nil)
       have hy:(Instr.yield l #[.slice (some ⟨vb,vo+16*k,none⟩) 16 (cap-16*k)]).run Tryz.prog wr=.ok (.round l fn tmps assign body) wr:=hy
       gi_wp2
       refine⟨fun h=>(by cases h),(Sc hR).mono ?_⟩;rintro e W3 (⟨rfl,hJ3⟩ | ⟨rfl,hJx3⟩)
       ·gi_wp2
        go_roundw
        case rel=>exact⟨k+1,by omega,by simp; omega,hJ3⟩
        case measure=>simp[intOf]; omega
       ·gi_wp2
        refine bodyPost_ret (results_none rfl _ _ _) rfl ?_;exact⟨⟨_,rfl⟩,.inr hJx3⟩
      ·obtain⟨fn,tmps,assign,body,hy,hR⟩:=hround k _ wr [.slice (some ⟨vb,vo+16*k,none⟩) (b.length-16*k) (cap-16*k)] hget hJs (by
         have e:mw b k=(b.drop (16*k)).take (b.length-16*k):=by
           unfold mw;rw[apX (by rw[ap5]; omega),apX (by rw[ap5]; omega)]
         rw[e,← il];exact .cons (MQ hrowW (by omega) (by omega) (by omega)) .nil)
       have hy:(Instr.yield l #[.slice (some ⟨vb,vo+16*k,none⟩) (b.length-16*k) (cap-16*k)]).run Tryz.prog wr=.ok (.round l fn tmps assign body) wr:=hy
       gi_wp2
       refine⟨fun h=>(by cases h),(Sc hR).mono ?_⟩;rintro e W3 (⟨rfl,hJ3⟩ | ⟨rfl,hJx3⟩)
       ·gi_wp2
        go_roundw
        case rel=>exact⟨k+1,by omega,by simp; omega,hJ3⟩
        case measure=>simp[intOf]; omega
       ·gi_wp2
        refine bodyPost_ret (results_none rfl _ _ _) rfl ?_;exact⟨⟨_,rfl⟩,.inr hJx3⟩
     ·gi_wp2
      go_end0
      have e:((qo b).map fun l=>[D.sl (l.map bD)]).length=k:=by
        rw[ap1,Ai]; omega
      rw[e];exact⟨⟨_,rfl⟩,.inl hJs⟩
end Go.Proofs.YtnjhelpgohdajaaGreatDoor
namespace Go.Proofs.YtnjhelpgohdajaaGreatDoor
open Go.RowKit IntWalk
def qV:List (Nat×V):=[(4,.w (.c (.ptr 1 1 0 0))),(8,.w (.c (.ptr 2 1 0 0))),(9,.w (.c (.ptr 3 1 0 0)))]
def apC:Nat→V:=bw qV
def KR (key c b:List UInt8) (k:Nat):aI×(Nat→Bool):=(hL [(1,.box [.d (.sl ((jn c k).map bD))]),(2,.box ((bF key).map bC)),(3,.box [.own 4 1 0 (oT (bF key) c b (16*k)).length]),(4,.row 1 ((oT (bF key) c b (16*k)).map bD))],uL [1,2,3,4])
def JP (key c b:List UInt8) (k i:Nat):St:=⟨bw [(4,.w (.c (.ptr 1 1 0 0))),(8,.w (.c (.ptr 2 1 0 0))),(9,.w (.c (.ptr 3 1 0 0))),(11,.w (.c (.pa 5 1))),(34,.w (.c (.d (.sl ((mw b k).map bD))))),(35,.w (.c (.d (.int .i64 ((mw b k).length:Int))))),(36,.w (.c (.d (.int .i64 (i:Int)))))],
  hL [(1,.box [.d (.sl ((jn c k).map bD))]),(2,.box ((bF key).map bC)),(3,.box [.own 4 1 0 (oT (bF key) c b (16*k+i)).length]),(4,.row 1 ((oT (bF key) c b (16*k+i)).map bD)),(5,.row 1 ((iv (bF key) (jn c k)).map bD))],uL [1,2,3,4,5]⟩
theorem WV {b:List UInt8} (k:Nat):(mw b k).length=min 16 (b.length-16*k):=by unfold mw; rw[ap0,ap5]
theorem WW {b:List UInt8} {k i:Nat} (hi:i<16) (h:16*k+i<b.length):(mw b k)[i]?=some (b.getD (16*k+i) 0):=by
  unfold mw; rw[aq5,if_pos hi,aq7]; exact iI h
theorem ajA {l:List (Nat×V)} {ts:List Nat} (h:ts.all (fun t=>!(l.map (·.1)).contains t)=true):∀ t∈ts,bw l t=.undef:=by
  intro t ht;have h1:=ap9.1 h t ht;have h2:t∉l.map (·.1):=by simpa using h1
  clear h h1 ht
  induction l with
  | nil=>rfl
  | cons p l ih =>
    simp only[apW,aqh,not_or] at h2
    show upd (bw l) p.1 p.2 t=_
    unfold upd;rw[if_neg h2.1];exact ih h2.2
def Gu:bp := ae [aU .lss 37 36 35] (.seq (ar 37 .skip (.exit 2)) (.seq (.block 3 (ae [oM 38 36,bU 39 1 34 36,aA 40 39,oM 12 38,oM 13 40] (.reg [aA 41 9,oM 42 13,oM 43 12,oO 44 (.idxPa 1 16 (.t 11) (.t 43)),aA 45 44,aU .xor 46 42 45,oO 47 (.bldSl false 1 1 aj [(0,(.t 46))]),oO 48 (.app false 1 1 (.t 41) (.t 47)),d6 9 48]))) (.reg [ak .add 49 36 1,oM 36 49])))
def Ov:bp := .reg [oM 10 30]
def Ow:bp := .block 1 (ae [bn 31 176 8,aA 32 4,ct 33 159 31 32,oO 11 (.allocArr [aj,aj,aj,aj,aj,aj,aj,aj,aj,aj,aj,aj,aj,aj,aj,aj]),aS 16 11 33] (.seq (ae [oM 34 10,bd 35 34,am 36 0] (.block 2 (.loop Gu))) (.reg [aA 50 4,aY 51 160 50,d6 4 51])))
def yI:aO:=⟨3,53,ae [oO 4 (.box .ownBox (.t 1)),aQ 6,am 7 0] (.seq (ae [oM 14 0,bd 15 14,ak .neq 16 15 16] (ar 16 (ae [aQ 6,am 7 5] .ret) .skip)) (.seq (ae [aA 17 4,bd 18 17,ak .neq 19 18 16] (ar 19 (ae [aQ 6,am 7 3] .ret) .skip)) (.seq (ae [oM 20 2,bd 21 20,ak .gtr 22 21 65535] (ar 22 (ae [aQ 6,am 7 2] .ret) .skip)) (ae [oM 23 0,aY 24 157 23,oO 8 (.alloc (cG 176 (.d aj))),aS 176 8 24] (ae [oM 25 2,bd 26 25,oO 27 (.make true 1 1 aj (kI 0) (.t 26)),oO 9 (.alloc [.nil]),d6 9 27] (.seq (ae [oM 28 2,aY 29 158 28] (.block 0 (.rangeF (.t 29) [30] Ov Ow))) (ae [aA 52 9,oM 6 52,am 7 0] .ret))))))),[(6,none),(7,none)]⟩
theorem ajB:aM Tryz.prog { own:=[4] } Tryz.f139=some yI:=by kernel_rfl
set_option maxRecDepth 20000 in
set_option maxHeartbeats 3200000 in
theorem anv (G:au) (key c b:List UInt8) (hk:key.length≤9223372036854775807) (hc:c.length≤9223372036854775807) (hb:b.length≤9223372036854775807):aF Tryz.prog G 139 [.sl (key.map bD),.sl (c.map bD),.sl (b.map bD)] (.tup [.c (.fr 1 ((C7 key c b).map bD)),.c (.d (.int .i64 (px key c b)))]):=by
  refine aX Tryz.func139 ajB rfl rfl ?_;by_cases h:key.length=16
  ·by_cases h2:c.length=16
   ·by_cases h3:b.length≤65535
    ·have hrk:=Hm h;have r4:List.drop 176 (cG 176 (0:UInt8))=[]:=aqY (by rw[eL]; omega);rw[abB h h2 h3,abC h h2 h3];simp only[yI,ai,af,seval,iteOmega,h,h2,PM];refine sC (R5 G key h) ?_;simp only[oY,hrk,eL,zf,qi,r4,ap7,af,aa,seval,iteOmega,toNatUp];refine sD (ajz G b) ?_;refine aaL apC (f1:=bw qV) rfl (KR key c b) rfl (abD G b (by omega)) ?_ ?_ ?_ ?_ ?_
     ·intro r hr;obtain⟨l,_,rfl⟩:=aqa.1 hr;rfl
     ·refine aR (fun i=>if i=1 then 32 else if i=2 then 64 else if i=3 then 72 else 216) ?_ ?_ rfl (by simp[qV,V.ids,W.ids,C.ids,Ob.ids,lT]) <;> simp only[qV,wx,aH,seval,vK,oT0] <;> rfl
     ·exact ajA (by rfl)
     ·intro k r hr;obtain⟨hk1,rfl⟩:16*k<b.length∧r=[D.sl ((mw b k).map bD)]:=by
        rw[aqH] at hr;rcases aqk (16*k) b.length with hlt | hge
        ·rw[LG hlt] at hr;exact⟨hlt,by simpa using hr.symm⟩
        ·rw[aqI (by rw[Ai]; omega)] at hr;cases hr
      have hel:=nR (bF key) (jn c k);have t176:(bF key).take 176=bF key:=apX (by omega);simp only[Ov,Ow,KR,qV,v8,af,seval,hrk,t176,yn];refine sC (R6 G (bF key) (jn c k) hrk (Ht h2 k)) ?_;simp only[hel,mT,eL,af,aa,seval];refine bO (JP key c b k) (fun i=>16-i) (fun i=>i≤16∧16*k+i≤b.length) 0 ⟨by omega,by omega⟩ ?_ ?_
      ·refine aR (fun i=>if i=5 then 88 else i) ?_ ?_ rfl (by simp[V.ids,W.ids,C.ids,Ob.ids,lT]) <;> simp only[wx,aH,seval,vK,ark]
      ·rintro i ⟨hi16,hib⟩;have hbl:=WV (b:=b) k;have hTk:=Sb (bF key) c b (16*k+i);have hTk1:=Sb (bF key) c b (16*k+i+1);by_cases hgo:i<16∧16*k+i<b.length
       ·obtain⟨hk2,hk3⟩:=hgo;have g1:=WW (b:=b) hk2 hk3;have g2:(iv (bF key) (jn c k))[i]?=some ((iv (bF key) (jn c k)).getD i 0):=iI (by omega);have x1:=mo (b.getD (16*k+i) 0) ((iv (bF key) (jn c k)).getD i 0);have ho:=aeA (bF key) c b hk2 hk3;simp only[Gu,JP,af,aa,seval,iteOmega,toNatUp,bc,g1,g2,x1,cg];refine bA (i+1) (by omega) ⟨by omega,by omega⟩ (aR (fun i=>if i=4 then 384 else i) ?_ ?_ rfl (by simp[V.ids,W.ids,C.ids,Ob.ids,lT])) <;> simp only[wx,aH,aV,seval,vK];refine⟨?_,?_⟩
        ·rw[show 16*k+(i+1)=16*k+i+1 from rfl,hTk,hTk1,show min (16*k+i) b.length+1=min (16*k+i+1) b.length by omega]
        ·rw[← arO,← ho,ap8]; rfl
       ·have e:oT (bF key) c b (16*k+i)=oT (bF key) c b (16*(k+1)):=by
          by_cases h16:i=16
          ·rw[h16,show 16*k+16=16*(k+1) by omega]
          ·rw[BF _ _ _ (by omega),BF _ _ _ (by omega)]
        have hx:=anu G (jn c k) (by rw[Ht h2]; omega);rw[abA h2] at hx;have hnl:¬ i<(mw b k).length:=by omega
        simp only[Gu,JP,e,af,seval,iteOmega];refine sD (hx) ?_;refine aaM (f1:=bw qV) rfl ?_;refine aR (fun i=>i) ?_ ?_ rfl (by simp[qV,V.ids,W.ids,C.ids,Ob.ids,lT]) <;> simp only[qV,wx,aH,seval,vK]
     ·have e:oT (bF key) c b (16*((qo b).map fun l=>[D.sl (l.map bD)]).length)=jV (bF key) c b:=BF _ _ _ (by rw[ap1,Ai]; omega);have hl:=AA (bF key) c b;have ht:(jV (bF key) c b).take b.length=jV (bF key) c b:=apX (by omega);simp only[KR,qV,af,seval];have e:oT (bF key) c b (16*(qo b).length)=jV (bF key) c b:=BF _ _ _ (by rw[Ai]; omega);exact Ir (by simp only[af,seval,pI,e,hl]) (by simp only[af,seval])
    ·rw[WU h h2 (by omega),Gt (by omega)];simp only[yI,ai,af,seval,iteOmega,h,h2];exact d7
   ·rw[YK b h h2,Gt (by omega)];simp only[yI,ai,af,seval,iteOmega,h];exact d7
  ·rw[YJ c b h,Gt (by omega)];simp only[yI,ai,af,seval,iteOmega];exact d7
end Go.Proofs.YtnjhelpgohdajaaGreatDoor
