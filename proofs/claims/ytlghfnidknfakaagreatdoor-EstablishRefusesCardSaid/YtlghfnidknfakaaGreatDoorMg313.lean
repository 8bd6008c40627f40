/- Texts of one's own, merged: from: Layer 4 on data: blocks,which is ranged over: by the kit's walk. Own work. -/
import Derived.RangeFuncBox
import Derived.RangeFuncLeaves
import Derived.Shelf.Abstract
import Derived.OwnWalkIn
import Derived.TacticsInMore
import Derived.LoopNIn
import Derived.LoopIn
import Derived.Test.YtlghfnidknfakaaGreatDoorMg310
set_option linter.unusedVariables false
set_option linter.unusedSimpArgs false
namespace Go.Proofs.YtlghfnidknfakaaGreatDoor
open Go.RowKit IntWalk
attribute [local go_sem] Oper.semAt_some
def gM (b:List UInt8) (i:Nat):List UInt8:=(b.drop (16*i)).take 16
def jJ (b:List UInt8):List (List UInt8):=(List.range ((b.length+15) / 16)).map (gM b)
theorem qn (b:List UInt8):(jJ b).length=(b.length+15) / 16:=by unfold jJ; rw[VZ,XB]
theorem z7 {b:List UInt8} {i:Nat} (h:16*i<b.length):(jJ b)[i]?=some (gM b i):=by
  unfold jJ; rw[WM,XE (by omega)]; rfl
def Gl:aF:=⟨1,4,.seq (.reg [oO 1 (.box .roBox (.t 0)),oO 2 (.mv .u)]) (.seq (.reg [oO 3 (.clos 164 [(.t 1)]),oM 2 3]) (.ret)),[(2,none)]⟩
theorem QL:aE Tryz.prog { own:=[],comp:=[],frz:=[],nils:=[] } Tryz.f149=some Gl:=by kernel_rfl
theorem SZ (G:ai) (b:List UInt8):au Tryz.prog G 149 [.sl (b.map bD)] (.w (.c (.d (.fn 164 [.ref [.sl (b.map bD)]])))):=by
  refine aG Tryz.func149 QL rfl rfl ?_;simp only[Gl,ah,af,aa,seval,iteOmega,toNatUp];exact aJ
theorem IF {n n':Nat} {P:Program} {l:Nat} {f:FuncId} {tmps:Array Value} {assign body:Code} {w:World} {R:Ending→World→Prop} (h:RoundIn Fence.wide n P l f tmps assign body w R):RoundIn Fence.wide n' P l f tmps assign body w R :=
  ⟨h.1,fun c cs _=>h.2 c cs (room_wide _)⟩
theorem BK {S:ak} {w:World} {vb vo:Nat} {b:List UInt8} (h:dm S w ⟨vb,vo,none⟩ 1 (b.map bD)) {i n c:Nat} (h1:i+n≤b.length) (hn:n≤c) (hc:c≤maxLen) :
    Reads S w (.slice (some ((⟨vb,vo,none⟩:Addr).add i)) n c) (.sl (((b.drop i).take n).map bD)):=by
  have hl:(((b.drop i).take n).map bD).length=n:=by rw[VZ,VW,V5]; omega
  have hrow:dm S w ((⟨vb,vo,none⟩:Addr).add i) 1 (((b.drop i).take n).map bD):=by
    intro j hj;have hj':j<n:=by omega
    have e:(((b.drop i).take n).map bD)[j]=(b.map bD)[i+j]'(by rw[VZ]; omega):=by simp
    rw[e];obtain⟨k1,k2⟩:=h (i+j) (by rw[VZ]; omega);refine⟨k1,?_⟩;rw[ec];have:vo+(i+j)*1=vo+i+j*1:=by omega
    simp only at k2 ⊢;rw[this] at k2;exact k2
  have:=Reads.of_row (cap:=c) hrow (by omega) hc;rw[hl] at this;exact this
theorem OY (G:ai) (b:List UInt8) (hb:b.length≤140737488355328):y3 Tryz.prog G 164 [.ref [.sl (b.map bD)]] ((jJ b).map fun l=>[D.sl (l.map bD)]):=by
  refine⟨enters_of Tryz.func164 (by kernel_rfl) rfl,?_⟩;intro n w S lb hS hG hlb l J Jx hkeep hgrow hxgrow hround h0;obtain⟨p,rfl,hp⟩:∃ p,lb=[p]∧Reads S w p (.ref [.sl (b.map bD)]):=by
    cases hlb with
    | cons h1 h2=>cases h2; exact⟨_,rfl,h1⟩
  obtain⟨ad,rfl,hcells⟩:=hp.cellsAt;obtain⟨sv,hSad,hcell,hsv⟩:=hcells 0 (by simp);simp only[XF,W8] at hSad hcell hsv;refine callsIn_of_wp Tryz.func164 rfl trivial ?_;simp only[Tryz.ntmps164,List.size_toArray,WO,Xj,Nat.reduceAdd,Nat.reduceSub,Array.replicate_succ,Array.replicate_zero,List.push_toArray,List.append_toArray,Xb,WW];obtain⟨ab,ao,asp⟩:=ad;have hcellW:∀ k W,J k W→W.cell? ⟨ab,ao,asp⟩=some sv:=fun k W hj=>(hkeep k W hj).1.at hSad hcell
  have hcell0:=hcellW 0 w h0
  gi_wp2
  rcases hsv.row with ⟨rfl,hnil⟩ | ⟨av,cap,sz,rfl,hcap,hmax,hrow⟩
  ·gi_loopw [3] (fun i wr=>i=.int .i64 0∧J 0 wr) (fun i _=>0)
   case atStart=>exact⟨rfl,h0⟩
   case round =>
     obtain⟨rfl,hJs⟩:=hrel;have hc:=hcellW 0 wr hJs
     gi_wp2
     go_end0
     have hb0:b=[]:=by simpa using hnil
     subst hb0;exact⟨⟨_,rfl⟩,.inl hJs⟩
  ·have hlen:(b.map bD).length=b.length:=VZ _;rw[hlen] at hcap hcellW hcell0;obtain⟨vb,vo,vs⟩:=av
   gi_loopw [3] (fun i wr=>∃ k:Nat,16*k<b.length+16∧i=.int .i64 ((16*k:Nat):Int)∧J k wr) (fun i _=>b.length+16-(intOf i).toNat)
   case atStart=>exact⟨0,by omega,rfl,h0⟩
   case round =>
     obtain⟨k,hk,rfl,hJs⟩:=hrel;have hc:=hcellW k wr hJs;by_cases hlt:16*k<b.length
     ·have hb1:0<b.length:=by omega
      obtain⟨c1,c2⟩:=hrow 0 (by rw[hlen]; exact hb1);obtain rfl:sz=1:=by rw[← c1,Wn]; rfl
      have hvs:vs=none:=by
        obtain⟨v,_,c3,_⟩:=c2 0 (by rw[Wn]; exact Nat.one_pos);exact cell_spot c3
      subst hvs;have hrowW:=hrow.keep (hkeep k wr hJs).1;have hget:((jJ b).map fun l=>[D.sl (l.map bD)])[k]?=some [D.sl ((gM b k).map bD)]:=by
        rw[WM,z7 hlt]; rfl
      by_cases hfull:16*k+16≤b.length
      ·obtain⟨fn,tmps,assign,body,hy,hR⟩:=hround k _ wr [.slice (some ⟨vb,vo+16*k,none⟩) 16 (cap-16*k)] hget hJs (by
         rw[← ec];exact .cons (BK hrowW (by omega) (by omega) (by omega)) .nil)
       have hy:(Instr.yield l #[.slice (some ⟨vb,vo+16*k,none⟩) 16 (cap-16*k)]).run Tryz.prog wr=.ok (.round l fn tmps assign body) wr:=hy
       gi_wp2
       refine⟨fun h=>(by cases h),(IF hR).mono ?_⟩;rintro e W3 (⟨rfl,hJ3⟩ | ⟨rfl,hJx3⟩)
       ·gi_wp2
        go_roundw
        case rel=>exact⟨k+1,by omega,by simp; omega,hJ3⟩
        case measure=>simp[intOf]; omega
       ·gi_wp2
        refine bodyPost_ret (results_none rfl _ _ _) rfl ?_;exact⟨⟨_,rfl⟩,.inr hJx3⟩
      ·obtain⟨fn,tmps,assign,body,hy,hR⟩:=hround k _ wr [.slice (some ⟨vb,vo+16*k,none⟩) (b.length-16*k) (cap-16*k)] hget hJs (by
         have e:gM b k=(b.drop (16*k)).take (b.length-16*k):=by
           unfold gM;rw[VV (by rw[V5]; omega),VV (by rw[V5]; omega)]
         rw[e,← ec];exact .cons (BK hrowW (by omega) (by omega) (by omega)) .nil)
       have hy:(Instr.yield l #[.slice (some ⟨vb,vo+16*k,none⟩) (b.length-16*k) (cap-16*k)]).run Tryz.prog wr=.ok (.round l fn tmps assign body) wr:=hy
       gi_wp2
       refine⟨fun h=>(by cases h),(IF hR).mono ?_⟩;rintro e W3 (⟨rfl,hJ3⟩ | ⟨rfl,hJx3⟩)
       ·gi_wp2
        go_roundw
        case rel=>exact⟨k+1,by omega,by simp; omega,hJ3⟩
        case measure=>simp[intOf]; omega
       ·gi_wp2
        refine bodyPost_ret (results_none rfl _ _ _) rfl ?_;exact⟨⟨_,rfl⟩,.inr hJx3⟩
     ·gi_wp2
      go_end0
      have e:((jJ b).map fun l=>[D.sl (l.map bD)]).length=k:=by
        rw[VZ,qn]; omega
      rw[e];exact⟨⟨_,rfl⟩,.inl hJs⟩
end Go.Proofs.YtlghfnidknfakaaGreatDoor
namespace Go.Proofs.YtlghfnidknfakaaGreatDoor
open Go.RowKit IntWalk
def kf:List (Nat×V):=[(4,.w (.c (.ptr 1 1 0 0))),(8,.w (.c (.ptr 2 1 0 0))),(9,.w (.c (.ptr 3 1 0 0)))]
def VD:Nat→V:=aV kf
def zg (key c b:List UInt8) (k:Nat):aw×(Nat→Bool):=(hL [(1,.box [.d (.sl ((eY c k).map bD))]),(2,.box ((aP key).map bC)),(3,.box [.own 4 1 0 (oT (aP key) c b (16*k)).length]),(4,.row 1 ((oT (aP key) c b (16*k)).map bD))],uL [1,2,3,4])
def yy (key c b:List UInt8) (k i:Nat):St:=⟨aV [(4,.w (.c (.ptr 1 1 0 0))),(8,.w (.c (.ptr 2 1 0 0))),(9,.w (.c (.ptr 3 1 0 0))),(11,.w (.c (.pa 5 1))),(34,.w (.c (.d (.sl ((gM b k).map bD))))),(35,.w (.c (.d (.int .i64 ((gM b k).length:Int))))),(36,.w (.c (.d (.int .i64 (i:Int)))))],
  hL [(1,.box [.d (.sl ((eY c k).map bD))]),(2,.box ((aP key).map bC)),(3,.box [.own 4 1 0 (oT (aP key) c b (16*k+i)).length]),(4,.row 1 ((oT (aP key) c b (16*k+i)).map bD)),(5,.row 1 ((eu (aP key) (eY c k)).map bD))],uL [1,2,3,4,5]⟩
theorem L0 {b:List UInt8} (k:Nat):(gM b k).length=min 16 (b.length-16*k):=by unfold gM; rw[VW,V5]
theorem L2 {b:List UInt8} {k i:Nat} (hi:i<16) (h:16*k+i<b.length):(gM b k)[i]?=some (b.getD (16*k+i) 0):=by
  unfold gM; rw[Wj,if_pos hi,WI]; exact ez h
theorem S0 {l:List (Nat×V)} {ts:List Nat} (h:ts.all (fun t=>!(l.map (·.1)).contains t)=true):∀ t∈ts,aV l t=.undef:=by
  intro t ht;have h1:=Wd.1 h t ht;have h2:t∉l.map (·.1):=by simpa using h1
  clear h h1 ht
  induction l with
  | nil=>rfl
  | cons p l ih =>
    simp only[VX,V6,not_or] at h2
    show upd (aV l) p.1 p.2 t=_
    unfold upd;rw[if_neg h2.1];exact ih h2.2
def vT:aN := .seq (.reg [oO 37 (.bin .lss (.t 36) (.t 35))]) (.seq (.cond (.t 37) (.skip) (.exit 2)) (.seq (.block 3 (.seq (.reg [oM 38 36,oO 39 (.idxSl 1 (.t 34) (.t 36)),oO 40 (.load .sc (.t 39)),oM 12 38,oM 13 40]) (.reg [oO 41 (.load .sc (.t 9)),oM 42 13,oM 43 12,oO 44 (.idxPa 1 16 (.t 11) (.t 43)),oO 45 (.load .sc (.t 44)),oO 46 (.bin .xor (.t 42) (.t 45)),oO 47 (.bldSl false 1 1 (.int .u8 0) [(0,(.t 46))]),oO 48 (.app false 1 1 (.t 41) (.t 47)),oN (.store .sc (.t 9) (.t 48))]))) (.reg [oO 49 (.bin .add (.t 36) (kI 1)),oM 36 49])))
def Ef:aN := .reg [oM 10 30]
def Eg:aN := .block 1 (.seq (.reg [oO 31 (.load (.ag 176) (.t 8)),oO 32 (.load .sc (.t 4)),oO 33 (.call 150 [(.t 31),(.t 32)] none),oO 11 (.allocArr [(.int .u8 0),(.int .u8 0),(.int .u8 0),(.int .u8 0),(.int .u8 0),(.int .u8 0),(.int .u8 0),(.int .u8 0),(.int .u8 0),(.int .u8 0),(.int .u8 0),(.int .u8 0),(.int .u8 0),(.int .u8 0),(.int .u8 0),(.int .u8 0)]),oN (.store (.ag 16) (.t 11) (.t 33))]) (.seq (.seq (.reg [oM 34 10,oO 35 (.len (.t 34)),oO 36 (.mv (kI 0))]) (.block 2 (.loop vT))) (.reg [oO 50 (.load .sc (.t 4)),oO 51 (.call 151 [(.t 50)] none),oN (.store .sc (.t 4) (.t 51))])))
def pA:aF:=⟨3,53,.seq (.reg [oO 4 (.box .ownBox (.t 1)),oO 6 (.mv (.k (.c .nil))),oO 7 (.mv (kI 0))]) (.seq (.seq (.reg [oM 14 0,oO 15 (.len (.t 14)),oO 16 (.bin .neq (.t 15) (kI 16))]) (.cond (.t 16) (.seq (.reg [oO 6 (.mv (.k (.c .nil))),oO 7 (.mv (kI 5))]) (.ret)) (.skip))) (.seq (.seq (.reg [oO 17 (.load .sc (.t 4)),oO 18 (.len (.t 17)),oO 19 (.bin .neq (.t 18) (kI 16))]) (.cond (.t 19) (.seq (.reg [oO 6 (.mv (.k (.c .nil))),oO 7 (.mv (kI 3))]) (.ret)) (.skip))) (.seq (.seq (.reg [oM 20 2,oO 21 (.len (.t 20)),oO 22 (.bin .gtr (.t 21) (kI 65535))]) (.cond (.t 22) (.seq (.reg [oO 6 (.mv (.k (.c .nil))),oO 7 (.mv (kI 2))]) (.ret)) (.skip))) (.seq (.reg [oM 23 0,oO 24 (.call 148 [(.t 23)] none),oO 8 (.alloc (bw 176 (.d (.int .u8 0)))),oN (.store (.ag 176) (.t 8) (.t 24))]) (.seq (.reg [oM 25 2,
 oO 26 (.len (.t 25)),oO 27 (.make true 1 1 (.int .u8 0) (kI 0) (.t 26)),oO 9 (.alloc [.nil]),oN (.store .sc (.t 9) (.t 27))]) (.seq (.seq (.reg [oM 28 2,oO 29 (.call 149 [(.t 28)] none)]) (.block 0 (.rangeF (.t 29) [30] Ef Eg))) (.seq (.reg [oO 52 (.load .sc (.t 9)),oM 6 52,oO 7 (.mv (kI 0))]) (.ret)))))))),[(6,none),(7,none)]⟩
theorem S4:aE Tryz.prog { own:=[4],comp:=[],frz:=[],nils:=[] } Tryz.f136=some pA:=by kernel_rfl
set_option maxRecDepth 20000 in
set_option maxHeartbeats 3200000 in
theorem UQ (G:ai) (key c b:List UInt8) (hk:key.length≤9223372036854775807) (hc:c.length≤9223372036854775807) (hb:b.length≤9223372036854775807):au Tryz.prog G 136 [.sl (key.map bD),.sl (c.map bD),.sl (b.map bD)] (.tup [.c (.fr 1 ((s6 key c b).map bD)),.c (.d (.int .i64 (jm key c b)))]):=by
  refine aG Tryz.func136 S4 rfl rfl ?_;by_cases h:key.length=16
  ·by_cases h2:c.length=16
   ·by_cases h3:b.length≤65535
    ·have hrk:=wN h;have r4:List.drop 176 (bw 176 (0:UInt8))=[]:=WT (by rw[cH]; omega);rw[OW h h2 h3,OX h h2 h3];simp only[pA,ah,af,aa,seval,iteOmega,toNatUp,h,h2,FX];refine sC (Iy G key h) ?_;simp only[iM,hrk,cH,pL,jd,jI,r4,Wc,af,aa,seval,iteOmega,toNatUp];refine sD (SZ G b) ?_;refine N8 VD (f1:=aV kf) rfl (zg key c b) rfl (OY G b (by omega)) ?_ ?_ ?_ ?_ ?_
     ·intro r hr;obtain⟨l,_,rfl⟩:=Wm.1 hr;rfl
     ·refine aB (fun i=>if i=1 then 32 else if i=2 then 64 else if i=3 then 72 else 216) ?_ ?_ rfl (by simp[kf,V.ids,W.ids,C.ids,Ob.ids,gv]) <;> simp only[kf,wx,aA,aK,aa,seval,iteOmega,toNatUp,mZ,gv,Nat.mul_zero,VJ,Xj,Wl] <;> rfl
     ·exact S0 (by rfl)
     ·intro k r hr;obtain⟨hk1,rfl⟩:16*k<b.length∧r=[D.sl ((gM b k).map bD)]:=by
        rw[WM] at hr;rcases Wv (16*k) b.length with hlt | hge
        ·rw[z7 hlt] at hr;exact⟨hlt,by simpa using hr.symm⟩
        ·rw[WF (by rw[qn]; omega)] at hr;cases hr
      have hel:=iI (aP key) (eY c k);have t176:(aP key).take 176=aP key:=VV (by omega);simp only[Ef,Eg,zg,kf,nx,af,aa,seval,iteOmega,toNatUp,iM,hrk,fu,t176,pi];refine sC (Iz G (aP key) (eY c k) hrk (wU h2 k)) ?_;simp only[hel,gW,cH,af,aa,seval,iteOmega,toNatUp];refine bd (yy key c b k) (fun i=>16-i) (fun i=>i≤16∧16*k+i≤b.length) 0 ⟨by omega,by omega⟩ ?_ ?_
      ·refine aB (fun i=>if i=5 then 88 else i) ?_ ?_ rfl (by simp[V.ids,W.ids,C.ids,Ob.ids,gv]) <;> simp only[wx,aA,aK,aa,seval,iteOmega,toNatUp,mZ,gv,W8]
      ·rintro i ⟨hi16,hib⟩;have hbl:=L0 (b:=b) k;have hTk:=IE (aP key) c b (16*k+i);have hTk1:=IE (aP key) c b (16*k+i+1);by_cases hgo:i<16∧16*k+i<b.length
       ·obtain⟨hk2,hk3⟩:=hgo;have g1:=L2 (b:=b) hk2 hk3;have g2:(eu (aP key) (eY c k))[i]?=some ((eu (aP key) (eY c k)).getD i 0):=ez (by omega);have x1:=gu (b.getD (16*k+i) 0) ((eu (aP key) (eY c k)).getD i 0);have ho:=QK (aP key) c b hk2 hk3;simp only[vT,yy,af,aa,seval,iteOmega,toNatUp,aM,g1,g2,x1,hel,bK];refine aX (i+1) (by omega) ⟨by omega,by omega⟩ (aB (fun i=>if i=4 then 384 else i) ?_ ?_ rfl (by simp[V.ids,W.ids,C.ids,Ob.ids,gv])) <;> simp only[wx,aA,aK,aa,seval,iteOmega,toNatUp,mZ,gv];refine⟨?_,?_⟩
        ·rw[show 16*k+(i+1)=16*k+i+1 from rfl,hTk,hTk1,show min (16*k+i) b.length+1=min (16*k+i+1) b.length by omega]
        ·rw[← Nat.add_assoc,← ho,Wu]; rfl
       ·have e:oT (aP key) c b (16*k+i)=oT (aP key) c b (16*(k+1)):=by
          by_cases h16:i=16
          ·rw[h16,show 16*k+16=16*(k+1) by omega]
          ·rw[rH _ _ _ (by omega),rH _ _ _ (by omega)]
        have hx:=UO G (eY c k) (by rw[wU h2]; omega);rw[OV h2] at hx;have hnl:¬ i<(gM b k).length:=by omega
        simp only[vT,yy,e,af,aa,seval,iteOmega,toNatUp];refine sD (hx) ?_;refine N9 (f1:=aV kf) rfl ?_;refine aB (fun i=>i) ?_ ?_ rfl (by simp[kf,V.ids,W.ids,C.ids,Ob.ids,gv]) <;> simp only[kf,wx,aA,aK,aa,seval,iteOmega,toNatUp,mZ,gv]
     ·have e:oT (aP key) c b (16*((jJ b).map fun l=>[D.sl (l.map bD)]).length)=fF (aP key) c b:=rH _ _ _ (by rw[VZ,qn]; omega);have hl:=qD (aP key) c b;have ht:(fF (aP key) c b).take b.length=fF (aP key) c b:=VV (by omega);simp only[zg,kf,e,af,aa,seval,iteOmega,toNatUp,hl];have e:oT (aP key) c b (16*(jJ b).length)=fF (aP key) c b:=rH _ _ _ (by rw[qn]; omega);exact xq (by simp only[af,aa,seval,iteOmega,toNatUp,jp,iM,e,hl,fu,ht]) (by simp only[af,aa,seval,iteOmega,toNatUp])
    ·rw[LZ h h2 (by omega),vS (by omega)];simp only[pA,ah,af,aa,seval,iteOmega,toNatUp,h,h2];exact du
   ·rw[Nc b h h2,vS (by omega)];simp only[pA,ah,af,aa,seval,iteOmega,toNatUp,h];exact du
  ·rw[Nb c b h,vS (by omega)];simp only[pA,ah,af,aa,seval,iteOmega,toNatUp];exact du
end Go.Proofs.YtlghfnidknfakaaGreatDoor
