/- Texts of one's own, merged: from: Layer 4 on data: blocks,which is ranged over: by the kit's walk. Own work. -/
import Derived.RangeFuncBox
import Derived.RangeFuncLeaves
import Derived.Shelf.Abstract
import Derived.OwnWalkIn
import Derived.TacticsInMore
import Derived.LoopNIn
import Derived.LoopIn
import Derived.Test.YtlghfnidknfakaaGreatDoorMg110
set_option linter.unusedVariables false
set_option linter.unusedSimpArgs false
namespace Go.Proofs.YtlghfnidknfakaaGreatDoor
open Go.RowKit IntWalk
attribute [local go_sem] Oper.semAt_some
def gJ (b:List UInt8) (i:Nat):List UInt8:=(b.drop (16*i)).take 16
def jE (b:List UInt8):List (List UInt8):=(List.range ((b.length+15) / 16)).map (gJ b)
theorem ql (b:List UInt8):(jE b).length=(b.length+15) / 16:=by unfold jE; rw[WJ,Yf]
theorem Am {b:List UInt8} {i:Nat} (h:16*i<b.length):(jE b)[i]?=some (gJ b i):=by
  unfold jE; rw[Xv,Yi (by omega)]; rfl
def GI:aE:=⟨1,4,.seq (.reg [oO 1 (.box .roBox (.t 0)),oO 2 (.mv .u)]) (.seq (.reg [oO 3 (.clos 164 [(.t 1)]),oM 2 3]) (.ret)),[(2,none)]⟩
theorem Q9:aC Tryz.prog { own:=[],comp:=[],frz:=[],nils:=[] } Tryz.f149=some GI:=by kernel_rfl
theorem Tr (G:ah) (b:List UInt8):ak Tryz.prog G 149 [.sl (b.map bD)] (.w (.c (.d (.fn 164 [.ref [.sl (b.map bD)]])))):=by
  refine aG Tryz.func149 Q9 rfl rfl ?_;simp only[GI,af,ae,aa,seval,iteOmega,toNatUp];exact aI
theorem I4 {n n':Nat} {P:Program} {l:Nat} {f:FuncId} {tmps:Array Value} {assign body:Code} {w:World} {R:Ending→World→Prop} (h:RoundIn Fence.wide n P l f tmps assign body w R):RoundIn Fence.wide n' P l f tmps assign body w R :=
  ⟨h.1,fun c cs _=>h.2 c cs (room_wide _)⟩
theorem B4 {S:aj} {w:World} {vb vo:Nat} {b:List UInt8} (h:dj S w ⟨vb,vo,none⟩ 1 (b.map bD)) {i n c:Nat} (h1:i+n≤b.length) (hn:n≤c) (hc:c≤maxLen) :
    Reads S w (.slice (some ((⟨vb,vo,none⟩:Addr).add i)) n c) (.sl (((b.drop i).take n).map bD)):=by
  have hl:(((b.drop i).take n).map bD).length=n:=by rw[WJ,WF,WL]; omega
  have hrow:dj S w ((⟨vb,vo,none⟩:Addr).add i) 1 (((b.drop i).take n).map bD):=by
    intro j hj;have hj':j<n:=by omega
    have e:(((b.drop i).take n).map bD)[j]=(b.map bD)[i+j]'(by rw[WJ]; omega):=by simp
    rw[e];obtain⟨k1,k2⟩:=h (i+j) (by rw[WJ]; omega);refine⟨k1,?_⟩;rw[dY];have:vo+(i+j)*1=vo+i+j*1:=by omega
    simp only at k2 ⊢;rw[this] at k2;exact k2
  have:=Reads.of_row (cap:=c) hrow (by omega) hc;rw[hl] at this;exact this
theorem Pn (G:ah) (b:List UInt8) (hb:b.length≤140737488355328):zk Tryz.prog G 164 [.ref [.sl (b.map bD)]] ((jE b).map fun l=>[D.sl (l.map bD)]):=by
  refine⟨enters_of Tryz.func164 (by kernel_rfl) rfl,?_⟩;intro n w S lb hS hG hlb l J Jx hkeep hgrow hxgrow hround h0;obtain⟨p,rfl,hp⟩:∃ p,lb=[p]∧Reads S w p (.ref [.sl (b.map bD)]):=by
    cases hlb with
    | cons h1 h2=>cases h2; exact⟨_,rfl,h1⟩
  obtain⟨ad,rfl,hcells⟩:=hp.cellsAt;obtain⟨sv,hSad,hcell,hsv⟩:=hcells 0 (by simp);simp only[Yk,XN] at hSad hcell hsv;refine callsIn_of_wp Tryz.func164 rfl trivial ?_;simp only[Tryz.ntmps164,List.size_toArray,Xx,XY,Nat.reduceAdd,Nat.reduceSub,Array.replicate_succ,Array.replicate_zero,List.push_toArray,List.append_toArray,XP,XF];obtain⟨ab,ao,asp⟩:=ad;have hcellW:∀ k W,J k W→W.cell? ⟨ab,ao,asp⟩=some sv:=fun k W hj=>(hkeep k W hj).1.at hSad hcell
  have hcell0:=hcellW 0 w h0
  gi_wp2
  rcases hsv.row with ⟨rfl,hnil⟩ | ⟨av,cap,sz,rfl,hcap,hmax,hrow⟩
  ·gi_loopw [3] (fun i wr=>i=.int .i64 0∧J 0 wr) (fun i _=>0)
   case atStart=>exact⟨rfl,h0⟩
   case round =>
     obtain⟨rfl,hJs⟩:=hrel;have hc:=hcellW 0 wr hJs
     gi_wp2
     go_end0
     have hb0:b=[]:=by simpa using hnil
     subst hb0;exact⟨⟨_,rfl⟩,.inl hJs⟩
  ·have hlen:(b.map bD).length=b.length:=WJ _;rw[hlen] at hcap hcellW hcell0;obtain⟨vb,vo,vs⟩:=av
   gi_loopw [3] (fun i wr=>∃ k:Nat,16*k<b.length+16∧i=.int .i64 ((16*k:Nat):Int)∧J k wr) (fun i _=>b.length+16-(intOf i).toNat)
   case atStart=>exact⟨0,by omega,rfl,h0⟩
   case round =>
     obtain⟨k,hk,rfl,hJs⟩:=hrel;have hc:=hcellW k wr hJs;by_cases hlt:16*k<b.length
     ·have hb1:0<b.length:=by omega
      obtain⟨c1,c2⟩:=hrow 0 (by rw[hlen]; exact hb1);obtain rfl:sz=1:=by rw[← c1,W4]; rfl
      have hvs:vs=none:=by
        obtain⟨v,_,c3,_⟩:=c2 0 (by rw[W4]; exact Nat.one_pos);exact cell_spot c3
      subst hvs;have hrowW:=hrow.keep (hkeep k wr hJs).1;have hget:((jE b).map fun l=>[D.sl (l.map bD)])[k]?=some [D.sl ((gJ b k).map bD)]:=by
        rw[Xv,Am hlt]; rfl
      by_cases hfull:16*k+16≤b.length
      ·obtain⟨fn,tmps,assign,body,hy,hR⟩:=hround k _ wr [.slice (some ⟨vb,vo+16*k,none⟩) 16 (cap-16*k)] hget hJs (by
         rw[← dY];exact .cons (B4 hrowW (by omega) (by omega) (by omega)) .nil)
       have hy:(Instr.yield l #[.slice (some ⟨vb,vo+16*k,none⟩) 16 (cap-16*k)]).run Tryz.prog wr=.ok (.round l fn tmps assign body) wr:=hy
       gi_wp2
       refine⟨fun h=>(by cases h),(I4 hR).mono ?_⟩;rintro e W3 (⟨rfl,hJ3⟩ | ⟨rfl,hJx3⟩)
       ·gi_wp2
        go_roundw
        case rel=>exact⟨k+1,by omega,by simp; omega,hJ3⟩
        case measure=>simp[intOf]; omega
       ·gi_wp2
        refine bodyPost_ret (results_none rfl _ _ _) rfl ?_;exact⟨⟨_,rfl⟩,.inr hJx3⟩
      ·obtain⟨fn,tmps,assign,body,hy,hR⟩:=hround k _ wr [.slice (some ⟨vb,vo+16*k,none⟩) (b.length-16*k) (cap-16*k)] hget hJs (by
         have e:gJ b k=(b.drop (16*k)).take (b.length-16*k):=by
           unfold gJ;rw[WE (by rw[WL]; omega),WE (by rw[WL]; omega)]
         rw[e,← dY];exact .cons (B4 hrowW (by omega) (by omega) (by omega)) .nil)
       have hy:(Instr.yield l #[.slice (some ⟨vb,vo+16*k,none⟩) (b.length-16*k) (cap-16*k)]).run Tryz.prog wr=.ok (.round l fn tmps assign body) wr:=hy
       gi_wp2
       refine⟨fun h=>(by cases h),(I4 hR).mono ?_⟩;rintro e W3 (⟨rfl,hJ3⟩ | ⟨rfl,hJx3⟩)
       ·gi_wp2
        go_roundw
        case rel=>exact⟨k+1,by omega,by simp; omega,hJ3⟩
        case measure=>simp[intOf]; omega
       ·gi_wp2
        refine bodyPost_ret (results_none rfl _ _ _) rfl ?_;exact⟨⟨_,rfl⟩,.inr hJx3⟩
     ·gi_wp2
      go_end0
      have e:((jE b).map fun l=>[D.sl (l.map bD)]).length=k:=by
        rw[WJ,ql]; omega
      rw[e];exact⟨⟨_,rfl⟩,.inl hJs⟩
end Go.Proofs.YtlghfnidknfakaaGreatDoor
namespace Go.Proofs.YtlghfnidknfakaaGreatDoor
open Go.RowKit IntWalk
def j8:List (Nat×V):=[(4,.w (.c (.ptr 1 1 0 0))),(8,.w (.c (.ptr 2 1 0 0))),(9,.w (.c (.ptr 3 1 0 0)))]
def Wj:Nat→V:=aQ j8
def zy (key c b:List UInt8) (k:Nat):aB×(Nat→Bool):=(hL [(1,.box [.d (.sl ((eS c k).map bD))]),(2,.box ((aP key).map bC)),(3,.box [.own 4 1 0 (oT (aP key) c b (16*k)).length]),(4,.row 1 ((oT (aP key) c b (16*k)).map bD))],uL [1,2,3,4])
def yJ (key c b:List UInt8) (k i:Nat):St:=⟨aQ [(4,.w (.c (.ptr 1 1 0 0))),(8,.w (.c (.ptr 2 1 0 0))),(9,.w (.c (.ptr 3 1 0 0))),(11,.w (.c (.pa 5 1))),(34,.w (.c (.d (.sl ((gJ b k).map bD))))),(35,.w (.c (.d (.int .i64 ((gJ b k).length:Int))))),(36,.w (.c (.d (.int .i64 (i:Int)))))],
  hL [(1,.box [.d (.sl ((eS c k).map bD))]),(2,.box ((aP key).map bC)),(3,.box [.own 4 1 0 (oT (aP key) c b (16*k+i)).length]),(4,.row 1 ((oT (aP key) c b (16*k+i)).map bD)),(5,.row 1 ((eb (aP key) (eS c k)).map bD))],uL [1,2,3,4,5]⟩
theorem Mq {b:List UInt8} (k:Nat):(gJ b k).length=min 16 (b.length-16*k):=by unfold gJ; rw[WF,WL]
theorem Mr {b:List UInt8} {k i:Nat} (hi:i<16) (h:16*k+i<b.length):(gJ b k)[i]?=some (b.getD (16*k+i) 0):=by
  unfold gJ; rw[W0,if_pos hi,Xp]; exact ei h
theorem Ts {l:List (Nat×V)} {ts:List Nat} (h:ts.all (fun t=>!(l.map (·.1)).contains t)=true):∀ t∈ts,aQ l t=.undef:=by
  intro t ht;have h1:=WU.1 h t ht;have h2:t∉l.map (·.1):=by simpa using h1
  clear h h1 ht
  induction l with
  | nil=>rfl
  | cons p l ih =>
    simp only[WH,WR,not_or] at h2
    show upd (aQ l) p.1 p.2 t=_
    unfold upd;rw[if_neg h2.1];exact ih h2.2
def v4:aM := .seq (.reg [oO 37 (.bin .lss (.t 36) (.t 35))]) (.seq (.cond (.t 37) (.skip) (.exit 2)) (.seq (.block 3 (.seq (.reg [oM 38 36,oO 39 (.idxSl 1 (.t 34) (.t 36)),oO 40 (.load .sc (.t 39)),oM 12 38,oM 13 40]) (.reg [oO 41 (.load .sc (.t 9)),oM 42 13,oM 43 12,oO 44 (.idxPa 1 16 (.t 11) (.t 43)),oO 45 (.load .sc (.t 44)),oO 46 (.bin .xor (.t 42) (.t 45)),oO 47 (.bldSl false 1 1 (.int .u8 0) [(0,(.t 46))]),oO 48 (.app false 1 1 (.t 41) (.t 47)),oN (.store .sc (.t 9) (.t 48))]))) (.reg [oO 49 (.bin .add (.t 36) (kI 1)),oM 36 49])))
def Ex:aM := .reg [oM 10 30]
def Ey:aM := .block 1 (.seq (.reg [oO 31 (.load (.ag 176) (.t 8)),oO 32 (.load .sc (.t 4)),oO 33 (.call 150 [(.t 31),(.t 32)] none),oO 11 (.allocArr [(.int .u8 0),(.int .u8 0),(.int .u8 0),(.int .u8 0),(.int .u8 0),(.int .u8 0),(.int .u8 0),(.int .u8 0),(.int .u8 0),(.int .u8 0),(.int .u8 0),(.int .u8 0),(.int .u8 0),(.int .u8 0),(.int .u8 0),(.int .u8 0)]),oN (.store (.ag 16) (.t 11) (.t 33))]) (.seq (.seq (.reg [oM 34 10,oO 35 (.len (.t 34)),oO 36 (.mv (kI 0))]) (.block 2 (.loop v4))) (.reg [oO 50 (.load .sc (.t 4)),oO 51 (.call 151 [(.t 50)] none),oN (.store .sc (.t 4) (.t 51))])))
def pv:aE:=⟨3,53,.seq (.reg [oO 4 (.box .ownBox (.t 1)),oO 6 (.mv (.k (.c .nil))),oO 7 (.mv (kI 0))]) (.seq (.seq (.reg [oM 14 0,oO 15 (.len (.t 14)),oO 16 (.bin .neq (.t 15) (kI 16))]) (.cond (.t 16) (.seq (.reg [oO 6 (.mv (.k (.c .nil))),oO 7 (.mv (kI 5))]) (.ret)) (.skip))) (.seq (.seq (.reg [oO 17 (.load .sc (.t 4)),oO 18 (.len (.t 17)),oO 19 (.bin .neq (.t 18) (kI 16))]) (.cond (.t 19) (.seq (.reg [oO 6 (.mv (.k (.c .nil))),oO 7 (.mv (kI 3))]) (.ret)) (.skip))) (.seq (.seq (.reg [oM 20 2,oO 21 (.len (.t 20)),oO 22 (.bin .gtr (.t 21) (kI 65535))]) (.cond (.t 22) (.seq (.reg [oO 6 (.mv (.k (.c .nil))),oO 7 (.mv (kI 2))]) (.ret)) (.skip))) (.seq (.reg [oM 23 0,oO 24 (.call 148 [(.t 23)] none),oO 8 (.alloc (bz 176 (.d (.int .u8 0)))),oN (.store (.ag 176) (.t 8) (.t 24))]) (.seq (.reg [oM 25 2,
 oO 26 (.len (.t 25)),oO 27 (.make true 1 1 (.int .u8 0) (kI 0) (.t 26)),oO 9 (.alloc [.nil]),oN (.store .sc (.t 9) (.t 27))]) (.seq (.seq (.reg [oM 28 2,oO 29 (.call 149 [(.t 28)] none)]) (.block 0 (.rangeF (.t 29) [30] Ex Ey))) (.seq (.reg [oO 52 (.load .sc (.t 9)),oM 6 52,oO 7 (.mv (kI 0))]) (.ret)))))))),[(6,none),(7,none)]⟩
theorem Tt:aC Tryz.prog { own:=[4],comp:=[],frz:=[],nils:=[] } Tryz.f136=some pv:=by kernel_rfl
set_option maxRecDepth 20000 in
set_option maxHeartbeats 3200000 in
theorem Vm (G:ah) (key c b:List UInt8) (hk:key.length≤9223372036854775807) (hc:c.length≤9223372036854775807) (hb:b.length≤9223372036854775807):ak Tryz.prog G 136 [.sl (key.map bD),.sl (c.map bD),.sl (b.map bD)] (.tup [.c (.fr 1 ((s7 key c b).map bD)),.c (.d (.int .i64 (jj key c b)))]):=by
  refine aG Tryz.func136 Tt rfl rfl ?_;by_cases h:key.length=16
  ·by_cases h2:c.length=16
   ·by_cases h3:b.length≤65535
    ·have hrk:=wW h;have r4:List.drop 176 (bz 176 (0:UInt8))=[]:=XC (by rw[cE]; omega);rw[Pl h h2 h3,Pm h h2 h3];simp only[pv,af,ae,aa,seval,iteOmega,toNatUp,h,h2,Gj];refine sC (IX G key h) ?_;simp only[iJ,hrk,cE,pG,i9,jD,r4,WS,ae,aa,seval,iteOmega,toNatUp];refine sD (Tr G b) ?_;refine Oz Wj (f1:=aQ j8) rfl (zy key c b) rfl (Pn G b (by omega)) ?_ ?_ ?_ ?_ ?_
     ·intro r hr;obtain⟨l,_,rfl⟩:=WZ.1 hr;rfl
     ·refine aw (fun i=>if i=1 then 32 else if i=2 then 64 else if i=3 then 72 else 216) ?_ ?_ rfl (by simp[j8,V.ids,W.ids,C.ids,Ob.ids,gm]) <;> simp only[j8,wx,am,aH,aa,seval,iteOmega,toNatUp,mZ,gm,Nat.mul_zero,Ws,XY,W8] <;> rfl
     ·exact Ts (by rfl)
     ·intro k r hr;obtain⟨hk1,rfl⟩:16*k<b.length∧r=[D.sl ((gJ b k).map bD)]:=by
        rw[Xv] at hr;rcases Xd (16*k) b.length with hlt | hge
        ·rw[Am hlt] at hr;exact⟨hlt,by simpa using hr.symm⟩
        ·rw[Xm (by rw[ql]; omega)] at hr;cases hr
      have hel:=iF (aP key) (eS c k);have t176:(aP key).take 176=aP key:=WE (by omega);simp only[Ex,Ey,zy,j8,ny,ae,aa,seval,iteOmega,toNatUp,iJ,hrk,fg,t176,pd];refine sC (IY G (aP key) (eS c k) hrk (w7 h2 k)) ?_;simp only[hel,gU,cE,ae,aa,seval,iteOmega,toNatUp];refine ba (yJ key c b k) (fun i=>16-i) (fun i=>i≤16∧16*k+i≤b.length) 0 ⟨by omega,by omega⟩ ?_ ?_
      ·refine aw (fun i=>if i=5 then 88 else i) ?_ ?_ rfl (by simp[V.ids,W.ids,C.ids,Ob.ids,gm]) <;> simp only[wx,am,aH,aa,seval,iteOmega,toNatUp,mZ,gm,XN]
      ·rintro i ⟨hi16,hib⟩;have hbl:=Mq (b:=b) k;have hTk:=I3 (aP key) c b (16*k+i);have hTk1:=I3 (aP key) c b (16*k+i+1);by_cases hgo:i<16∧16*k+i<b.length
       ·obtain⟨hk2,hk3⟩:=hgo;have g1:=Mr (b:=b) hk2 hk3;have g2:(eb (aP key) (eS c k))[i]?=some ((eb (aP key) (eS c k)).getD i 0):=ei (by omega);have x1:=gj (b.getD (16*k+i) 0) ((eb (aP key) (eS c k)).getD i 0);have ho:=Q8 (aP key) c b hk2 hk3;simp only[v4,yJ,ae,aa,seval,iteOmega,toNatUp,aJ,g1,g2,x1,hel,bI];refine aS (i+1) (by omega) ⟨by omega,by omega⟩ (aw (fun i=>if i=4 then 384 else i) ?_ ?_ rfl (by simp[V.ids,W.ids,C.ids,Ob.ids,gm])) <;> simp only[wx,am,aH,aa,seval,iteOmega,toNatUp,mZ,gm];refine⟨?_,?_⟩
        ·rw[show 16*k+(i+1)=16*k+i+1 from rfl,hTk,hTk1,show min (16*k+i) b.length+1=min (16*k+i+1) b.length by omega]
        ·rw[← Nat.add_assoc,← ho,Xc]; rfl
       ·have e:oT (aP key) c b (16*k+i)=oT (aP key) c b (16*(k+1)):=by
          by_cases h16:i=16
          ·rw[h16,show 16*k+16=16*(k+1) by omega]
          ·rw[rL _ _ _ (by omega),rL _ _ _ (by omega)]
        have hx:=Vk G (eS c k) (by rw[w7 h2]; omega);rw[Pk h2] at hx;have hnl:¬ i<(gJ b k).length:=by omega
        simp only[v4,yJ,e,ae,aa,seval,iteOmega,toNatUp];refine sD (hx) ?_;refine OA (f1:=aQ j8) rfl ?_;refine aw (fun i=>i) ?_ ?_ rfl (by simp[j8,V.ids,W.ids,C.ids,Ob.ids,gm]) <;> simp only[j8,wx,am,aH,aa,seval,iteOmega,toNatUp,mZ,gm]
     ·have e:oT (aP key) c b (16*((jE b).map fun l=>[D.sl (l.map bD)]).length)=ft (aP key) c b:=rL _ _ _ (by rw[WJ,ql]; omega);have hl:=qC (aP key) c b;have ht:(ft (aP key) c b).take b.length=ft (aP key) c b:=WE (by omega);simp only[zy,j8,e,ae,aa,seval,iteOmega,toNatUp,hl];have e:oT (aP key) c b (16*(jE b).length)=ft (aP key) c b:=rL _ _ _ (by rw[ql]; omega);exact xz (by simp only[ae,aa,seval,iteOmega,toNatUp,jm,iJ,e,hl,fg,ht]) (by simp only[ae,aa,seval,iteOmega,toNatUp])
    ·rw[Mo h h2 (by omega),vZ (by omega)];simp only[pv,af,ae,aa,seval,iteOmega,toNatUp,h,h2];exact dr
   ·rw[ND b h h2,vZ (by omega)];simp only[pv,af,ae,aa,seval,iteOmega,toNatUp,h];exact dr
  ·rw[NC c b h,vZ (by omega)];simp only[pv,af,ae,aa,seval,iteOmega,toNatUp];exact dr
end Go.Proofs.YtlghfnidknfakaaGreatDoor
