/- Texts of one's own, merged: from: Layer 4 on data: blocks,which is ranged over: by the kit's walk. Own work. -/
import Derived.RangeFuncBox
import Derived.RangeFuncLeaves
import Derived.Shelf.Abstract
import Derived.OwnWalkIn
import Derived.TacticsInMore
import Derived.LoopNIn
import Derived.LoopIn
import Derived.Test.YtlghfnidknfakaaGreatDoorMg410
set_option linter.unusedVariables false
set_option linter.unusedSimpArgs false
namespace Go.Proofs.YtlghfnidknfakaaGreatDoor
open Go.RowKit IntWalk
attribute [local go_sem] Oper.semAt_some
def ij (b:List UInt8) (i:Nat):List UInt8:=(b.drop (16*i)).take 16
def kO (b:List UInt8):List (List UInt8):=(List.range ((b.length+15) / 16)).map (ij b)
theorem sN (b:List UInt8):(kO b).length=(b.length+15) / 16:=by unfold kO; rw[aa7,acF]
theorem C7 {b:List UInt8} {i:Nat} (h:16*i<b.length):(kO b)[i]?=some (ij b i):=by
  unfold kO; rw[abK,acr (by omega)]; rfl
def Jq:aD:=⟨1,4,.seq (.reg [oO 1 (.box .roBox (.t 0)),oO 2 (.mv .u)]) (.seq (.reg [oO 3 (.clos 164 [(.t 1)]),oM 2 3]) (.ret)),[(2,none)]⟩
theorem UC:aB Tryz.prog { own:=[],comp:=[],frz:=[],nils:=[] } Tryz.f149=some Jq:=by kernel_rfl
theorem W9 (G:ah) (b:List UInt8):am Tryz.prog G 149 [.sl (b.map bD)] (.w (.c (.d (.fn 164 [.ref [.sl (b.map bD)]])))):=by
  refine aE Tryz.func149 UC rfl rfl ?_;simp only[Jq,af,ae,aa,seval,iteOmega,toNatUp];exact aF
theorem LE {n n':Nat} {P:Program} {l:Nat} {f:FuncId} {tmps:Array Value} {assign body:Code} {w:World} {R:Ending→World→Prop} (h:RoundIn Fence.wide n P l f tmps assign body w R):RoundIn Fence.wide n' P l f tmps assign body w R :=
  ⟨h.1,fun c cs _=>h.2 c cs (room_wide _)⟩
theorem EM {S:aj} {w:World} {vb vo:Nat} {b:List UInt8} (h:dz S w ⟨vb,vo,none⟩ 1 (b.map bD)) {i n c:Nat} (h1:i+n≤b.length) (hn:n≤c) (hc:c≤maxLen) :
    Reads S w (.slice (some ((⟨vb,vo,none⟩:Addr).add i)) n c) (.sl (((b.drop i).take n).map bD)):=by
  have hl:(((b.drop i).take n).map bD).length=n:=by rw[aa7,aa4,aa9]; omega
  have hrow:dz S w ((⟨vb,vo,none⟩:Addr).add i) 1 (((b.drop i).take n).map bD):=by
    intro j hj;have hj':j<n:=by omega
    have e:(((b.drop i).take n).map bD)[j]=(b.map bD)[i+j]'(by rw[aa7]; omega):=by simp
    rw[e];obtain⟨k1,k2⟩:=h (i+j) (by rw[aa7]; omega);refine⟨k1,?_⟩;rw[ej];have:vo+(i+j)*1=vo+i+j*1:=by omega
    simp only at k2 ⊢;rw[this] at k2;exact k2
  have:=Reads.of_row (cap:=c) hrow (by omega) hc;rw[hl] at this;exact this
theorem SK (G:ah) (b:List UInt8) (hb:b.length≤140737488355328):BU Tryz.prog G 164 [.ref [.sl (b.map bD)]] ((kO b).map fun l=>[D.sl (l.map bD)]):=by
  refine⟨enters_of Tryz.func164 (by kernel_rfl) rfl,?_⟩;intro n w S lb hS hG hlb l J Jx hkeep hgrow hxgrow hround h0;obtain⟨p,rfl,hp⟩:∃ p,lb=[p]∧Reads S w p (.ref [.sl (b.map bD)]):=by
    cases hlb with
    | cons h1 h2=>cases h2; exact⟨_,rfl,h1⟩
  obtain⟨ad,rfl,hcells⟩:=hp.cellsAt;obtain⟨sv,hSad,hcell,hsv⟩:=hcells 0 (by simp);simp only[acR,acg] at hSad hcell hsv;refine callsIn_of_wp Tryz.func164 rfl trivial ?_;simp only[Tryz.ntmps164,List.size_toArray,abR,acu,Nat.reduceAdd,Nat.reduceSub,Array.replicate_succ,Array.replicate_zero,List.push_toArray,List.append_toArray,abS,abT];obtain⟨ab,ao,asp⟩:=ad;have hcellW:∀ k W,J k W→W.cell? ⟨ab,ao,asp⟩=some sv:=fun k W hj=>(hkeep k W hj).1.at hSad hcell
  have hcell0:=hcellW 0 w h0
  gi_wp2
  rcases hsv.row with ⟨rfl,hnil⟩ | ⟨av,cap,sz,rfl,hcap,hmax,hrow⟩
  ·gi_loopw [3] (fun i wr=>i=.int .i64 0∧J 0 wr) (fun i _=>0)
   case atStart=>exact⟨rfl,h0⟩
   case round =>
     obtain⟨rfl,hJs⟩:=hrel;have hc:=hcellW 0 wr hJs
     gi_wp2
     go_end0
     have hb0:b=[]:=by simpa using hnil
     subst hb0;exact⟨⟨_,rfl⟩,.inl hJs⟩
  ·have hlen:(b.map bD).length=b.length:=aa7 _;rw[hlen] at hcap hcellW hcell0;obtain⟨vb,vo,vs⟩:=av
   gi_loopw [3] (fun i wr=>∃ k:Nat,16*k<b.length+16∧i=.int .i64 ((16*k:Nat):Int)∧J k wr) (fun i _=>b.length+16-(intOf i).toNat)
   case atStart=>exact⟨0,by omega,rfl,h0⟩
   case round =>
     obtain⟨k,hk,rfl,hJs⟩:=hrel;have hc:=hcellW k wr hJs;by_cases hlt:16*k<b.length
     ·have hb1:0<b.length:=by omega
      obtain⟨c1,c2⟩:=hrow 0 (by rw[hlen]; exact hb1);obtain rfl:sz=1:=by rw[← c1,abw]; rfl
      have hvs:vs=none:=by
        obtain⟨v,_,c3,_⟩:=c2 0 (by rw[abw]; exact Nat.one_pos);exact cell_spot c3
      subst hvs;have hrowW:=hrow.keep (hkeep k wr hJs).1;have hget:((kO b).map fun l=>[D.sl (l.map bD)])[k]?=some [D.sl ((ij b k).map bD)]:=by
        rw[abK,C7 hlt]; rfl
      by_cases hfull:16*k+16≤b.length
      ·obtain⟨fn,tmps,assign,body,hy,hR⟩:=hround k _ wr [.slice (some ⟨vb,vo+16*k,none⟩) 16 (cap-16*k)] hget hJs (by
         rw[← ej];exact .cons (EM hrowW (by omega) (by omega) (by omega)) .nil)
       have hy:(Instr.yield l #[.slice (some ⟨vb,vo+16*k,none⟩) 16 (cap-16*k)]).run Tryz.prog wr=.ok (.round l fn tmps assign body) wr:=hy
       gi_wp2
       refine⟨fun h=>(by cases h),(LE hR).mono ?_⟩;rintro e W3 (⟨rfl,hJ3⟩ | ⟨rfl,hJx3⟩)
       ·gi_wp2
        go_roundw
        case rel=>exact⟨k+1,by omega,by simp; omega,hJ3⟩
        case measure=>simp[intOf]; omega
       ·gi_wp2
        refine bodyPost_ret (results_none rfl _ _ _) rfl ?_;exact⟨⟨_,rfl⟩,.inr hJx3⟩
      ·obtain⟨fn,tmps,assign,body,hy,hR⟩:=hround k _ wr [.slice (some ⟨vb,vo+16*k,none⟩) (b.length-16*k) (cap-16*k)] hget hJs (by
         have e:ij b k=(b.drop (16*k)).take (b.length-16*k):=by
           unfold ij;rw[aa2 (by rw[aa9]; omega),aa2 (by rw[aa9]; omega)]
         rw[e,← ej];exact .cons (EM hrowW (by omega) (by omega) (by omega)) .nil)
       have hy:(Instr.yield l #[.slice (some ⟨vb,vo+16*k,none⟩) (b.length-16*k) (cap-16*k)]).run Tryz.prog wr=.ok (.round l fn tmps assign body) wr:=hy
       gi_wp2
       refine⟨fun h=>(by cases h),(LE hR).mono ?_⟩;rintro e W3 (⟨rfl,hJ3⟩ | ⟨rfl,hJx3⟩)
       ·gi_wp2
        go_roundw
        case rel=>exact⟨k+1,by omega,by simp; omega,hJ3⟩
        case measure=>simp[intOf]; omega
       ·gi_wp2
        refine bodyPost_ret (results_none rfl _ _ _) rfl ?_;exact⟨⟨_,rfl⟩,.inr hJx3⟩
     ·gi_wp2
      go_end0
      have e:((kO b).map fun l=>[D.sl (l.map bD)]).length=k:=by
        rw[aa7,sN]; omega
      rw[e];exact⟨⟨_,rfl⟩,.inl hJs⟩
end Go.Proofs.YtlghfnidknfakaaGreatDoor
namespace Go.Proofs.YtlghfnidknfakaaGreatDoor
open Go.RowKit IntWalk
def lr:List (Nat×V):=[(4,.w (.c (.ptr 1 1 0 0))),(8,.w (.c (.ptr 2 1 0 0))),(9,.w (.c (.ptr 3 1 0 0)))]
def aaI:Nat→V:=aT lr
def Cc (key c b:List UInt8) (k:Nat):au×(Nat→Bool):=(hL [(1,.box [.d (.sl ((fo c k).map bD))]),(2,.box ((aP key).map bC)),(3,.box [.own 4 1 0 (oT (aP key) c b (16*k)).length]),(4,.row 1 ((oT (aP key) c b (16*k)).map bD))],uL [1,2,3,4])
def Bn (key c b:List UInt8) (k i:Nat):St:=⟨aT [(4,.w (.c (.ptr 1 1 0 0))),(8,.w (.c (.ptr 2 1 0 0))),(9,.w (.c (.ptr 3 1 0 0))),(11,.w (.c (.pa 5 1))),(34,.w (.c (.d (.sl ((ij b k).map bD))))),(35,.w (.c (.d (.int .i64 ((ij b k).length:Int))))),(36,.w (.c (.d (.int .i64 (i:Int)))))],
  hL [(1,.box [.d (.sl ((fo c k).map bD))]),(2,.box ((aP key).map bC)),(3,.box [.own 4 1 0 (oT (aP key) c b (16*k+i)).length]),(4,.row 1 ((oT (aP key) c b (16*k+i)).map bD)),(5,.row 1 ((eD (aP key) (fo c k)).map bD))],uL [1,2,3,4,5]⟩
theorem Pr {b:List UInt8} (k:Nat):(ij b k).length=min 16 (b.length-16*k):=by unfold ij; rw[aa4,aa9]
theorem Ps {b:List UInt8} {k i:Nat} (hi:i<16) (h:16*k+i<b.length):(ij b k)[i]?=some (b.getD (16*k+i) 0):=by
  unfold ij; rw[abv,if_pos hi,abP]; exact eN h
theorem Xa {l:List (Nat×V)} {ts:List Nat} (h:ts.all (fun t=>!(l.map (·.1)).contains t)=true):∀ t∈ts,aT l t=.undef:=by
  intro t ht;have h1:=abi.1 h t ht;have h2:t∉l.map (·.1):=by simpa using h1
  clear h h1 ht
  induction l with
  | nil=>rfl
  | cons p l ih =>
    simp only[aa5,abk,not_or] at h2
    show upd (aT l) p.1 p.2 t=_
    unfold upd;rw[if_neg h2.1];exact ih h2.2
def yW:aL := .seq (.reg [oO 37 (.bin .lss (.t 36) (.t 35))]) (.seq (.cond (.t 37) (.skip) (.exit 2)) (.seq (.block 3 (.seq (.reg [oM 38 36,oO 39 (.idxSl 1 (.t 34) (.t 36)),oO 40 (.load .sc (.t 39)),oM 12 38,oM 13 40]) (.reg [oO 41 (.load .sc (.t 9)),oM 42 13,oM 43 12,oO 44 (.idxPa 1 16 (.t 11) (.t 43)),oO 45 (.load .sc (.t 44)),oO 46 (.bin .xor (.t 42) (.t 45)),oO 47 (.bldSl false 1 1 (.int .u8 0) [(0,(.t 46))]),oO 48 (.app false 1 1 (.t 41) (.t 47)),oN (.store .sc (.t 9) (.t 48))]))) (.reg [oO 49 (.bin .add (.t 36) (kI 1)),oM 36 49])))
def Hi:aL := .reg [oM 10 30]
def Hj:aL := .block 1 (.seq (.reg [oO 31 (.load (.ag 176) (.t 8)),oO 32 (.load .sc (.t 4)),oO 33 (.call 150 [(.t 31),(.t 32)] none),oO 11 (.allocArr [(.int .u8 0),(.int .u8 0),(.int .u8 0),(.int .u8 0),(.int .u8 0),(.int .u8 0),(.int .u8 0),(.int .u8 0),(.int .u8 0),(.int .u8 0),(.int .u8 0),(.int .u8 0),(.int .u8 0),(.int .u8 0),(.int .u8 0),(.int .u8 0)]),oN (.store (.ag 16) (.t 11) (.t 33))]) (.seq (.seq (.reg [oM 34 10,oO 35 (.len (.t 34)),oO 36 (.mv (kI 0))]) (.block 2 (.loop yW))) (.reg [oO 50 (.load .sc (.t 4)),oO 51 (.call 151 [(.t 50)] none),oN (.store .sc (.t 4) (.t 51))])))
def rq:aD:=⟨3,53,.seq (.reg [oO 4 (.box .ownBox (.t 1)),oO 6 (.mv (.k (.c .nil))),oO 7 (.mv (kI 0))]) (.seq (.seq (.reg [oM 14 0,oO 15 (.len (.t 14)),oO 16 (.bin .neq (.t 15) (kI 16))]) (.cond (.t 16) (.seq (.reg [oO 6 (.mv (.k (.c .nil))),oO 7 (.mv (kI 5))]) (.ret)) (.skip))) (.seq (.seq (.reg [oO 17 (.load .sc (.t 4)),oO 18 (.len (.t 17)),oO 19 (.bin .neq (.t 18) (kI 16))]) (.cond (.t 19) (.seq (.reg [oO 6 (.mv (.k (.c .nil))),oO 7 (.mv (kI 3))]) (.ret)) (.skip))) (.seq (.seq (.reg [oM 20 2,oO 21 (.len (.t 20)),oO 22 (.bin .gtr (.t 21) (kI 65535))]) (.cond (.t 22) (.seq (.reg [oO 6 (.mv (.k (.c .nil))),oO 7 (.mv (kI 2))]) (.ret)) (.skip))) (.seq (.reg [oM 23 0,oO 24 (.call 148 [(.t 23)] none),oO 8 (.alloc (bI 176 (.d (.int .u8 0)))),oN (.store (.ag 176) (.t 8) (.t 24))]) (.seq (.reg [oM 25 2,
 oO 26 (.len (.t 25)),oO 27 (.make true 1 1 (.int .u8 0) (kI 0) (.t 26)),oO 9 (.alloc [.nil]),oN (.store .sc (.t 9) (.t 27))]) (.seq (.seq (.reg [oM 28 2,oO 29 (.call 149 [(.t 28)] none)]) (.block 0 (.rangeF (.t 29) [30] Hi Hj))) (.seq (.reg [oO 52 (.load .sc (.t 9)),oM 6 52,oO 7 (.mv (kI 0))]) (.ret)))))))),[(6,none),(7,none)]⟩
theorem Xb:aB Tryz.prog { own:=[4],comp:=[],frz:=[],nils:=[] } Tryz.f136=some rq:=by kernel_rfl
set_option maxRecDepth 20000 in
set_option maxHeartbeats 3200000 in
theorem Zv (G:ah) (key c b:List UInt8) (hk:key.length≤9223372036854775807) (hc:c.length≤9223372036854775807) (hb:b.length≤9223372036854775807):am Tryz.prog G 136 [.sl (key.map bD),.sl (c.map bD),.sl (b.map bD)] (.tup [.c (.fr 1 ((vN key c b).map bD)),.c (.d (.int .i64 (j7 key c b)))]):=by
  refine aE Tryz.func136 Xb rfl rfl ?_;by_cases h:key.length=16
  ·by_cases h2:c.length=16
   ·by_cases h3:b.length≤65535
    ·have hrk:=zF h;have r4:List.drop 176 (bI 176 (0:UInt8))=[]:=ab4 (by rw[cW]; omega);rw[SI h h2 h3,SJ h h2 h3];simp only[rq,af,ae,aa,seval,iteOmega,toNatUp,h,h2,I2];refine sC (Lx G key h) ?_;simp only[jm,hrk,cW,rH,jO,kM,r4,abj,ae,aa,seval,iteOmega,toNatUp];refine sD (W9 G b) ?_;refine RX aaI (f1:=aT lr) rfl (Cc key c b) rfl (SK G b (by omega)) ?_ ?_ ?_ ?_ ?_
     ·intro r hr;obtain⟨l,_,rfl⟩:=abo.1 hr;rfl
     ·refine aA (fun i=>if i=1 then 32 else if i=2 then 64 else if i=3 then 72 else 216) ?_ ?_ rfl (by simp[lr,V.ids,W.ids,C.ids,Ob.ids,gS]) <;> simp only[lr,wx,aw,aG,aa,seval,iteOmega,toNatUp,o8,gS,Nat.mul_zero,oT0,acu,abr] <;> rfl
     ·exact Xa (by rfl)
     ·intro k r hr;obtain⟨hk1,rfl⟩:16*k<b.length∧r=[D.sl ((ij b k).map bD)]:=by
        rw[abK] at hr;rcases abD (16*k) b.length with hlt | hge
        ·rw[C7 hlt] at hr;exact⟨hlt,by simpa using hr.symm⟩
        ·rw[abM (by rw[sN]; omega)] at hr;cases hr
      have hel:=jj (aP key) (fo c k);have t176:(aP key).take 176=aP key:=aa2 (by omega);simp only[Hi,Hj,Cc,lr,px,ae,aa,seval,iteOmega,toNatUp,jm,hrk,fI,t176,qX];refine sC (Ly G (aP key) (fo c k) hrk (zM h2 k)) ?_;simp only[hel,iF,cW,ae,aa,seval,iteOmega,toNatUp];refine be (Bn key c b k) (fun i=>16-i) (fun i=>i≤16∧16*k+i≤b.length) 0 ⟨by omega,by omega⟩ ?_ ?_
      ·refine aA (fun i=>if i=5 then 88 else i) ?_ ?_ rfl (by simp[V.ids,W.ids,C.ids,Ob.ids,gS]) <;> simp only[wx,aw,aG,aa,seval,iteOmega,toNatUp,o8,gS,acg]
      ·rintro i ⟨hi16,hib⟩;have hbl:=Pr (b:=b) k;have hTk:=LD (aP key) c b (16*k+i);have hTk1:=LD (aP key) c b (16*k+i+1);by_cases hgo:i<16∧16*k+i<b.length
       ·obtain⟨hk2,hk3⟩:=hgo;have g1:=Ps (b:=b) hk2 hk3;have g2:(eD (aP key) (fo c k))[i]?=some ((eD (aP key) (fo c k)).getD i 0):=eN (by omega);have x1:=gR (b.getD (16*k+i) 0) ((eD (aP key) (fo c k)).getD i 0);have ho:=UB (aP key) c b hk2 hk3;simp only[yW,Bn,ae,aa,seval,iteOmega,toNatUp,aJ,g1,g2,x1,hel,bP];refine aV (i+1) (by omega) ⟨by omega,by omega⟩ (aA (fun i=>if i=4 then 384 else i) ?_ ?_ rfl (by simp[V.ids,W.ids,C.ids,Ob.ids,gS])) <;> simp only[wx,aw,aG,aa,seval,iteOmega,toNatUp,o8,gS];refine⟨?_,?_⟩
        ·rw[show 16*k+(i+1)=16*k+i+1 from rfl,hTk,hTk1,show min (16*k+i) b.length+1=min (16*k+i+1) b.length by omega]
        ·rw[← acZ,← ho,abn]; rfl
       ·have e:oT (aP key) c b (16*k+i)=oT (aP key) c b (16*(k+1)):=by
          by_cases h16:i=16
          ·rw[h16,show 16*k+16=16*(k+1) by omega]
          ·rw[uu _ _ _ (by omega),uu _ _ _ (by omega)]
        have hx:=Zt G (fo c k) (by rw[zM h2]; omega);rw[SH h2] at hx;have hnl:¬ i<(ij b k).length:=by omega
        simp only[yW,Bn,e,ae,aa,seval,iteOmega,toNatUp];refine sD (hx) ?_;refine RY (f1:=aT lr) rfl ?_;refine aA (fun i=>i) ?_ ?_ rfl (by simp[lr,V.ids,W.ids,C.ids,Ob.ids,gS]) <;> simp only[lr,wx,aw,aG,aa,seval,iteOmega,toNatUp,o8,gS]
     ·have e:oT (aP key) c b (16*((kO b).map fun l=>[D.sl (l.map bD)]).length)=fO (aP key) c b:=uu _ _ _ (by rw[aa7,sN]; omega);have hl:=s7 (aP key) c b;have ht:(fO (aP key) c b).take b.length=fO (aP key) c b:=aa2 (by omega);simp only[Cc,lr,e,ae,aa,seval,iteOmega,toNatUp,hl];have e:oT (aP key) c b (16*(kO b).length)=fO (aP key) c b:=uu _ _ _ (by rw[sN]; omega);exact Ah (by simp only[ae,aa,seval,iteOmega,toNatUp,iY,jm,e,hl,fI,ht]) (by simp only[ae,aa,seval,iteOmega,toNatUp])
    ·rw[Pq h h2 (by omega),yV (by omega)];simp only[rq,af,ae,aa,seval,iteOmega,toNatUp,h,h2];exact dQ
   ·rw[QK b h h2,yV (by omega)];simp only[rq,af,ae,aa,seval,iteOmega,toNatUp,h];exact dQ
  ·rw[QJ c b h,yV (by omega)];simp only[rq,af,ae,aa,seval,iteOmega,toNatUp];exact dQ
end Go.Proofs.YtlghfnidknfakaaGreatDoor
