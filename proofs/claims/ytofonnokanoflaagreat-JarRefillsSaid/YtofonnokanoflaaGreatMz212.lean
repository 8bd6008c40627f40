/- Texts of one's own, merged: from: Layer 4 on data: blocks,which is ranged over: by the kit's walk. Own work. -/
import Derived.RangeFuncBox
import Derived.RangeFuncLeaves
import Derived.Shelf.Abstract
import Derived.OwnWalkIn
import Derived.TacticsInMore
import Derived.LoopNIn
import Derived.LoopIn
import Derived.Test.YtofonnokanoflaaGreatMz210
set_option linter.unusedVariables false
set_option linter.unusedSimpArgs false
namespace Go.Proofs.YtofonnokanoflaaGreat
open Go.RowKit IntWalk
attribute [local go_sem] Oper.semAt_some
def ja (b:List UInt8) (i:Nat):List UInt8:=(b.drop (16*i)).take 16
def lR (b:List UInt8):List (List UInt8):=(List.range ((b.length+15) / 16)).map (ja b)
theorem t5 (b:List UInt8):(lR b).length=(b.length+15) / 16:=by unfold lR; rw[abY,acV]
theorem DY {b:List UInt8} {i:Nat} (h:16*i<b.length):(lR b)[i]?=some (ja b i):=by
  unfold lR; rw[acG,adr (by omega)]; rfl
def Ke:aG:=⟨1,4,.seq (.reg [oO 1 (.box .roBox (.t 0)),oO 2 (.mv .u)]) (.seq (.reg [oO 3 (.clos 137 [(.t 1)]),oM 2 3]) (.ret)),[(2,none)]⟩
theorem Vn:aF Tryz.prog { own:=[],comp:=[],frz:=[],nils:=[] } Tryz.f123=some Ke:=by kernel_rfl
theorem XW (G:ah) (b:List UInt8):aB Tryz.prog G 123 [.sl (b.map bD)] (.w (.c (.d (.fn 137 [.ref [.sl (b.map bD)]])))):=by
  refine aI Tryz.func123 Vn rfl rfl ?_;simp only[Ke,af,ae,aa,seval,iteOmega,toNatUp];exact aM
theorem MU {n n':Nat} {P:Program} {l:Nat} {f:FuncId} {tmps:Array Value} {assign body:Code} {w:World} {R:Ending→World→Prop} (h:RoundIn Fence.wide n P l f tmps assign body w R):RoundIn Fence.wide n' P l f tmps assign body w R :=
  ⟨h.1,fun c cs _=>h.2 c cs (room_wide _)⟩
theorem FF {S:aw} {w:World} {vb vo:Nat} {b:List UInt8} (h:ep S w ⟨vb,vo,none⟩ 1 (b.map bD)) {i n c:Nat} (h1:i+n≤b.length) (hn:n≤c) (hc:c≤maxLen) :
    Reads S w (.slice (some ((⟨vb,vo,none⟩:Addr).add i)) n c) (.sl (((b.drop i).take n).map bD)):=by
  have hl:(((b.drop i).take n).map bD).length=n:=by rw[abY,abN,abO]; omega
  have hrow:ep S w ((⟨vb,vo,none⟩:Addr).add i) 1 (((b.drop i).take n).map bD):=by
    intro j hj;have hj':j<n:=by omega
    have e:(((b.drop i).take n).map bD)[j]=(b.map bD)[i+j]'(by rw[abY]; omega):=by simp
    rw[e];obtain⟨k1,k2⟩:=h (i+j) (by rw[abY]; omega);refine⟨k1,?_⟩;rw[fo];have:vo+(i+j)*1=vo+i+j*1:=by omega
    simp only at k2 ⊢;rw[this] at k2;exact k2
  have:=Reads.of_row (cap:=c) hrow (by omega) hc;rw[hl] at this;exact this
theorem TD (G:ah) (b:List UInt8) (hb:b.length≤140737488355328):CQ Tryz.prog G 137 [.ref [.sl (b.map bD)]] ((lR b).map fun l=>[D.sl (l.map bD)]):=by
  refine⟨enters_of Tryz.func137 (by kernel_rfl) rfl,?_⟩;intro n w S lb hS hG hlb l J Jx hkeep hgrow hxgrow hround h0;obtain⟨p,rfl,hp⟩:∃ p,lb=[p]∧Reads S w p (.ref [.sl (b.map bD)]):=by
    cases hlb with
    | cons h1 h2=>cases h2; exact⟨_,rfl,h1⟩
  obtain⟨ad,rfl,hcells⟩:=hp.cellsAt;obtain⟨sv,hSad,hcell,hsv⟩:=hcells 0 (by simp);simp only[adt,acD] at hSad hcell hsv;refine callsIn_of_wp Tryz.func137 rfl trivial ?_;simp only[Tryz.ntmps137,List.size_toArray,ada,adh,Nat.reduceAdd,Nat.reduceSub,Array.replicate_succ,Array.replicate_zero,List.push_toArray,List.append_toArray,acE,acF];obtain⟨ab,ao,asp⟩:=ad;have hcellW:∀ k W,J k W→W.cell? ⟨ab,ao,asp⟩=some sv:=fun k W hj=>(hkeep k W hj).1.at hSad hcell
  have hcell0:=hcellW 0 w h0
  gi_wp2
  rcases hsv.row with ⟨rfl,hnil⟩ | ⟨av,cap,sz,rfl,hcap,hmax,hrow⟩
  ·gi_loopw [3] (fun i wr=>i=.int .i64 0∧J 0 wr) (fun i _=>0)
   case atStart=>exact⟨rfl,h0⟩
   case round =>
     obtain⟨rfl,hJs⟩:=hrel;have hc:=hcellW 0 wr hJs
     gi_wp2
     go_end0
     have hb0:b=[]:=by simpa using hnil
     subst hb0;exact⟨⟨_,rfl⟩,.inl hJs⟩
  ·have hlen:(b.map bD).length=b.length:=abY _;rw[hlen] at hcap hcellW hcell0;obtain⟨vb,vo,vs⟩:=av
   gi_loopw [3] (fun i wr=>∃ k:Nat,16*k<b.length+16∧i=.int .i64 ((16*k:Nat):Int)∧J k wr) (fun i _=>b.length+16-(intOf i).toNat)
   case atStart=>exact⟨0,by omega,rfl,h0⟩
   case round =>
     obtain⟨k,hk,rfl,hJs⟩:=hrel;have hc:=hcellW k wr hJs;by_cases hlt:16*k<b.length
     ·have hb1:0<b.length:=by omega
      obtain⟨c1,c2⟩:=hrow 0 (by rw[hlen]; exact hb1);obtain rfl:sz=1:=by rw[← c1,ab7]; rfl
      have hvs:vs=none:=by
        obtain⟨v,_,c3,_⟩:=c2 0 (by rw[ab7]; exact Nat.one_pos);exact cell_spot c3
      subst hvs;have hrowW:=hrow.keep (hkeep k wr hJs).1;have hget:((lR b).map fun l=>[D.sl (l.map bD)])[k]?=some [D.sl ((ja b k).map bD)]:=by
        rw[acG,DY hlt]; rfl
      by_cases hfull:16*k+16≤b.length
      ·obtain⟨fn,tmps,assign,body,hy,hR⟩:=hround k _ wr [.slice (some ⟨vb,vo+16*k,none⟩) 16 (cap-16*k)] hget hJs (by
         rw[← fo];exact .cons (FF hrowW (by omega) (by omega) (by omega)) .nil)
       have hy:(Instr.yield l #[.slice (some ⟨vb,vo+16*k,none⟩) 16 (cap-16*k)]).run Tryz.prog wr=.ok (.round l fn tmps assign body) wr:=hy
       gi_wp2
       refine⟨fun h=>(by cases h),(MU hR).mono ?_⟩;rintro e W3 (⟨rfl,hJ3⟩ | ⟨rfl,hJx3⟩)
       ·gi_wp2
        go_roundw
        case rel=>exact⟨k+1,by omega,by simp; omega,hJ3⟩
        case measure=>simp[intOf]; omega
       ·gi_wp2
        refine bodyPost_ret (results_none rfl _ _ _) rfl ?_;exact⟨⟨_,rfl⟩,.inr hJx3⟩
      ·obtain⟨fn,tmps,assign,body,hy,hR⟩:=hround k _ wr [.slice (some ⟨vb,vo+16*k,none⟩) (b.length-16*k) (cap-16*k)] hget hJs (by
         have e:ja b k=(b.drop (16*k)).take (b.length-16*k):=by
           unfold ja;rw[abH (by rw[abO]; omega),abH (by rw[abO]; omega)]
         rw[e,← fo];exact .cons (FF hrowW (by omega) (by omega) (by omega)) .nil)
       have hy:(Instr.yield l #[.slice (some ⟨vb,vo+16*k,none⟩) (b.length-16*k) (cap-16*k)]).run Tryz.prog wr=.ok (.round l fn tmps assign body) wr:=hy
       gi_wp2
       refine⟨fun h=>(by cases h),(MU hR).mono ?_⟩;rintro e W3 (⟨rfl,hJ3⟩ | ⟨rfl,hJx3⟩)
       ·gi_wp2
        go_roundw
        case rel=>exact⟨k+1,by omega,by simp; omega,hJ3⟩
        case measure=>simp[intOf]; omega
       ·gi_wp2
        refine bodyPost_ret (results_none rfl _ _ _) rfl ?_;exact⟨⟨_,rfl⟩,.inr hJx3⟩
     ·gi_wp2
      go_end0
      have e:((lR b).map fun l=>[D.sl (l.map bD)]).length=k:=by
        rw[abY,t5]; omega
      rw[e];exact⟨⟨_,rfl⟩,.inl hJs⟩
end Go.Proofs.YtofonnokanoflaaGreat
namespace Go.Proofs.YtofonnokanoflaaGreat
open Go.RowKit IntWalk
def ml:List (Nat×V):=[(4,.w (.c (.ptr 1 1 0 0))),(8,.w (.c (.ptr 2 1 0 0))),(9,.w (.c (.ptr 3 1 0 0)))]
def abw:Nat→V:=aT ml
def C2 (key c b:List UInt8) (k:Nat):aA×(Nat→Bool):=(hL [(1,.box [.d (.sl ((dI c k).map bD))]),(2,.box ((am key).map bC)),(3,.box [.own 4 1 0 (oT (am key) c b (16*k)).length]),(4,.row 1 ((oT (am key) c b (16*k)).map bD))],uL [1,2,3,4])
def Cj (key c b:List UInt8) (k i:Nat):St:=⟨aT [(4,.w (.c (.ptr 1 1 0 0))),(8,.w (.c (.ptr 2 1 0 0))),(9,.w (.c (.ptr 3 1 0 0))),(11,.w (.c (.pa 5 1))),(34,.w (.c (.d (.sl ((ja b k).map bD))))),(35,.w (.c (.d (.int .i64 ((ja b k).length:Int))))),(36,.w (.c (.d (.int .i64 (i:Int)))))],
  hL [(1,.box [.d (.sl ((dI c k).map bD))]),(2,.box ((am key).map bC)),(3,.box [.own 4 1 0 (oT (am key) c b (16*k+i)).length]),(4,.row 1 ((oT (am key) c b (16*k+i)).map bD)),(5,.row 1 ((dt (am key) (dI c k)).map bD))],uL [1,2,3,4,5]⟩
theorem QU {b:List UInt8} (k:Nat):(ja b k).length=min 16 (b.length-16*k):=by unfold ja; rw[abN,abO]
theorem QV {b:List UInt8} {k i:Nat} (hi:i<16) (h:16*k+i<b.length):(ja b k)[i]?=some (b.getD (16*k+i) 0):=by
  unfold ja; rw[ab6,if_pos hi,ach]; exact db h
theorem XX {l:List (Nat×V)} {ts:List Nat} (h:ts.all (fun t=>!(l.map (·.1)).contains t)=true):∀ t∈ts,aT l t=.undef:=by
  intro t ht;have h1:=abZ.1 h t ht;have h2:t∉l.map (·.1):=by simpa using h1
  clear h h1 ht
  induction l with
  | nil=>rfl
  | cons p l ih =>
    simp only[abK,acm,not_or] at h2
    show upd (aT l) p.1 p.2 t=_
    unfold upd;rw[if_neg h2.1];exact ih h2.2
def zX:aS := .seq (.reg [oO 37 (.bin .lss (.t 36) (.t 35))]) (.seq (.cond (.t 37) (.skip) (.exit 2)) (.seq (.block 3 (.seq (.reg [oM 38 36,oO 39 (.idxSl 1 (.t 34) (.t 36)),oO 40 (.load .sc (.t 39)),oM 12 38,oM 13 40]) (.reg [oO 41 (.load .sc (.t 9)),oM 42 13,oM 43 12,oO 44 (.idxPa 1 16 (.t 11) (.t 43)),oO 45 (.load .sc (.t 44)),oO 46 (.bin .xor (.t 42) (.t 45)),oO 47 (.bldSl false 1 1 (.int .u8 0) [(0,(.t 46))]),oO 48 (.app false 1 1 (.t 41) (.t 47)),oN (.store .sc (.t 9) (.t 48))]))) (.reg [oO 49 (.bin .add (.t 36) (kI 1)),oM 36 49])))
def HX:aS := .reg [oM 10 30]
def HY:aS := .block 1 (.seq (.reg [oO 31 (.load (.ag 176) (.t 8)),oO 32 (.load .sc (.t 4)),oO 33 (.call 124 [(.t 31),(.t 32)] none),oO 11 (.allocArr [(.int .u8 0),(.int .u8 0),(.int .u8 0),(.int .u8 0),(.int .u8 0),(.int .u8 0),(.int .u8 0),(.int .u8 0),(.int .u8 0),(.int .u8 0),(.int .u8 0),(.int .u8 0),(.int .u8 0),(.int .u8 0),(.int .u8 0),(.int .u8 0)]),oN (.store (.ag 16) (.t 11) (.t 33))]) (.seq (.seq (.reg [oM 34 10,oO 35 (.len (.t 34)),oO 36 (.mv (kI 0))]) (.block 2 (.loop zX))) (.reg [oO 50 (.load .sc (.t 4)),oO 51 (.call 125 [(.t 50)] none),oN (.store .sc (.t 4) (.t 51))])))
def sG:aG:=⟨3,53,.seq (.reg [oO 4 (.box .ownBox (.t 1)),oO 6 (.mv (.k (.c .nil))),oO 7 (.mv (kI 0))]) (.seq (.seq (.reg [oM 14 0,oO 15 (.len (.t 14)),oO 16 (.bin .neq (.t 15) (kI 16))]) (.cond (.t 16) (.seq (.reg [oO 6 (.mv (.k (.c .nil))),oO 7 (.mv (kI 5))]) (.ret)) (.skip))) (.seq (.seq (.reg [oO 17 (.load .sc (.t 4)),oO 18 (.len (.t 17)),oO 19 (.bin .neq (.t 18) (kI 16))]) (.cond (.t 19) (.seq (.reg [oO 6 (.mv (.k (.c .nil))),oO 7 (.mv (kI 3))]) (.ret)) (.skip))) (.seq (.seq (.reg [oM 20 2,oO 21 (.len (.t 20)),oO 22 (.bin .gtr (.t 21) (kI 65535))]) (.cond (.t 22) (.seq (.reg [oO 6 (.mv (.k (.c .nil))),oO 7 (.mv (kI 2))]) (.ret)) (.skip))) (.seq (.reg [oM 23 0,oO 24 (.call 122 [(.t 23)] none),oO 8 (.alloc (aQ 176 (.d (.int .u8 0)))),oN (.store (.ag 176) (.t 8) (.t 24))]) (.seq (.reg [oM 25 2,
 oO 26 (.len (.t 25)),oO 27 (.make true 1 1 (.int .u8 0) (kI 0) (.t 26)),oO 9 (.alloc [.nil]),oN (.store .sc (.t 9) (.t 27))]) (.seq (.seq (.reg [oM 28 2,oO 29 (.call 123 [(.t 28)] none)]) (.block 0 (.rangeF (.t 29) [30] HX HY))) (.seq (.reg [oO 52 (.load .sc (.t 9)),oM 6 52,oO 7 (.mv (kI 0))]) (.ret)))))))),[(6,none),(7,none)]⟩
theorem XY:aF Tryz.prog { own:=[4],comp:=[],frz:=[],nils:=[] } Tryz.f106=some sG:=by kernel_rfl
set_option maxRecDepth 20000 in
set_option maxHeartbeats 3200000 in
theorem aad (G:ah) (key c b:List UInt8) (hk:key.length≤9223372036854775807) (hc:c.length≤9223372036854775807) (hb:b.length≤9223372036854775807):aB Tryz.prog G 106 [.sl (key.map bD),.sl (c.map bD),.sl (b.map bD)] (.tup [.c (.fr 1 ((sZ key c b).map bD)),.c (.d (.int .i64 (kh key c b)))]):=by
  refine aI Tryz.func106 XY rfl rfl ?_;by_cases h:key.length=16
  ·by_cases h2:c.length=16
   ·by_cases h3:b.length≤65535
    ·have hrk:=rQ h;have r4:List.drop 176 (aQ 176 (0:UInt8))=[]:=acw (by rw[bf]; omega);rw[HV h h2 h3,HW h h2 h3];simp only[sG,af,ae,aa,seval,iteOmega,toNatUp,h,h2,rN];refine sC (MM G key h) ?_;simp only[cy,hrk,bf,jC,eS,ic,r4,abP,ae,aa,seval,iteOmega,toNatUp];refine sD (XW G b) ?_;refine SO abw (f1:=aT ml) rfl (C2 key c b) rfl (TD G b (by omega)) ?_ ?_ ?_ ?_ ?_
     ·intro r hr;obtain⟨l,_,rfl⟩:=ab9.1 hr;rfl
     ·refine ap (fun i=>if i=1 then 32 else if i=2 then 64 else if i=3 then 72 else 216) ?_ ?_ rfl (by simp[ml,V.ids,W.ids,C.ids,Ob.ids,cb]) <;> simp only[ml,wx,aj,ar,aa,seval,iteOmega,toNatUp,fq,cb,ady,P9,adh,abS] <;> rfl
     ·exact XX (by rfl)
     ·intro k r hr;obtain⟨hk1,rfl⟩:16*k<b.length∧r=[D.sl ((ja b k).map bD)]:=by
        rw[acG] at hr;rcases ab1 (16*k) b.length with hlt | hge
        ·rw[DY hlt] at hr;exact⟨hlt,by simpa using hr.symm⟩
        ·rw[acr (by rw[t5]; omega)] at hr;cases hr
      have hel:=iN (am key) (dI c k);have t176:(am key).take 176=am key:=abH (by omega);simp only[HX,HY,C2,ml,pV,ae,aa,seval,iteOmega,toNatUp,cy,hrk,bw,t176,iy];refine sC (MN G (am key) (dI c k) hrk (rS h2 k)) ?_;simp only[hel,eX,bf,ae,aa,seval,iteOmega,toNatUp];refine ba (Cj key c b k) (fun i=>16-i) (fun i=>i≤16∧16*k+i≤b.length) 0 ⟨by omega,by omega⟩ ?_ ?_
      ·refine ap (fun i=>if i=5 then 88 else i) ?_ ?_ rfl (by simp[V.ids,W.ids,C.ids,Ob.ids,cb]) <;> simp only[wx,aj,ar,aa,seval,iteOmega,toNatUp,fq,cb,acD]
      ·rintro i ⟨hi16,hib⟩;have hbl:=QU (b:=b) k;have hTk:=sF (am key) c b (16*k+i);have hTk1:=sF (am key) c b (16*k+i+1);by_cases hgo:i<16∧16*k+i<b.length
       ·obtain⟨hk2,hk3⟩:=hgo;have g1:=QV (b:=b) hk2 hk3;have g2:(dt (am key) (dI c k))[i]?=some ((dt (am key) (dI c k)).getD i 0):=db (by omega);have x1:=dv (b.getD (16*k+i) 0) ((dt (am key) (dI c k)).getD i 0);have ho:=Kc (am key) c b hk2 hk3;simp only[zX,Cj,ae,aa,seval,iteOmega,toNatUp,aD,g1,g2,x1,hel,bQ];refine aU (i+1) (by omega) ⟨by omega,by omega⟩ (ap (fun i=>if i=4 then 384 else i) ?_ ?_ rfl (by simp[V.ids,W.ids,C.ids,Ob.ids,cb])) <;> simp only[wx,aj,ar,aa,seval,iteOmega,toNatUp,fq,cb];refine⟨?_,?_⟩
        ·rw[show 16*k+(i+1)=16*k+i+1 from rfl,hTk,hTk1,show min (16*k+i) b.length+1=min (16*k+i+1) b.length by omega]
        ·rw[← ac0,← ho,abT]; rfl
       ·have e:oT (am key) c b (16*k+i)=oT (am key) c b (16*(k+1)):=by
          by_cases h16:i=16
          ·rw[h16,show 16*k+16=16*(k+1) by omega]
          ·rw[nL _ _ _ (by omega),nL _ _ _ (by omega)]
        have hx:=aab G (dI c k) (by rw[rS h2]; omega);rw[HU h2] at hx;have hnl:¬ i<(ja b k).length:=by omega
        simp only[zX,Cj,e,ae,aa,seval,iteOmega,toNatUp];refine sD (hx) ?_;refine SP (f1:=aT ml) rfl ?_;refine ap (fun i=>i) ?_ ?_ rfl (by simp[ml,V.ids,W.ids,C.ids,Ob.ids,cb]) <;> simp only[ml,wx,aj,ar,aa,seval,iteOmega,toNatUp,fq,cb]
     ·have e:oT (am key) c b (16*((lR b).map fun l=>[D.sl (l.map bD)]).length)=fU (am key) c b:=nL _ _ _ (by rw[abY,t5]; omega);have hl:=rb (am key) c b;have ht:(fU (am key) c b).take b.length=fU (am key) c b:=abH (by omega);simp only[C2,ml,e,ae,aa,seval,iteOmega,toNatUp,hl];have e:oT (am key) c b (16*(lR b).length)=fU (am key) c b:=nL _ _ _ (by rw[t5]; omega);exact v7 (by simp only[ae,aa,seval,iteOmega,toNatUp,km,cy,e,hl,bw,ht]) (by simp only[ae,aa,seval,iteOmega,toNatUp])
    ·rw[Em h h2 (by omega),pf (by omega)];simp only[sG,af,ae,aa,seval,iteOmega,toNatUp,h,h2];exact cm
   ·rw[FE b h h2,pf (by omega)];simp only[sG,af,ae,aa,seval,iteOmega,toNatUp,h];exact cm
  ·rw[FD c b h,pf (by omega)];simp only[sG,af,ae,aa,seval,iteOmega,toNatUp];exact cm
end Go.Proofs.YtofonnokanoflaaGreat
