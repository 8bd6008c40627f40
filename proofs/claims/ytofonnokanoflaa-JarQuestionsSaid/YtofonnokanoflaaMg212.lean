/- Texts of one's own, merged: from: Layer 4 on data: blocks,which is ranged over: by the kit's walk. Own work. -/
import Derived.RangeFuncBox
import Derived.RangeFuncLeaves
import Derived.Shelf.Abstract
import Derived.OwnWalkIn
import Derived.TacticsInMore
import Derived.LoopNIn
import Derived.LoopIn
import Derived.Test.YtofonnokanoflaaMg210
set_option linter.unusedVariables false
set_option linter.unusedSimpArgs false
namespace Go.Proofs.Ytofonnokanoflaa
open Go.RowKit IntWalk
attribute [local go_sem] Oper.semAt_some
def fZ (b:List UInt8) (i:Nat):List UInt8:=(b.drop (16*i)).take 16
def jj (b:List UInt8):List (List UInt8):=(List.range ((b.length+15) / 16)).map (fZ b)
theorem po (b:List UInt8):(jj b).length=(b.length+15) / 16:=by unfold jj; rw[UQ,VX]
theorem yB {b:List UInt8} {i:Nat} (h:16*i<b.length):(jj b)[i]?=some (fZ b i):=by
  unfold jj; rw[VC,List.getElem?_range (by omega)]; rfl
def Ek:aB:=⟨1,4,.seq (.reg [oO 1 (.box .roBox (.t 0)),oO 2 (.mv .u)]) (.seq (.reg [oO 3 (.clos 94 [(.t 1)]),oM 2 3]) (.ret)),[(2,none)]⟩
theorem OC:aA Try.prog { own:=[],comp:=[],frz:=[],nils:=[] } Try.f85=some Ek:=by kernel_rfl
theorem QZ (G:aj) (b:List UInt8):ar Try.prog G 85 [.sl (b.map bD)] (.w (.c (.d (.fn 94 [.ref [.sl (b.map bD)]])))):=by
  refine aF Try.func85 OC rfl rfl ?_;simp only[Ek,ah,ae,aa,seval,iteOmega,toNatUp];exact aP
theorem GH {n n':Nat} {P:Program} {l:Nat} {f:FuncId} {tmps:Array Value} {assign body:Code} {w:World} {R:Ending→World→Prop} (h:RoundIn Fence.wide n P l f tmps assign body w R):RoundIn Fence.wide n' P l f tmps assign body w R :=
  ⟨h.1,fun c cs _=>h.2 c cs (room_wide _)⟩
theorem z3 {S:ai} {w:World} {vb vo:Nat} {b:List UInt8} (h:cO S w ⟨vb,vo,none⟩ 1 (b.map bD)) {i n c:Nat} (h1:i+n≤b.length) (hn:n≤c) (hc:c≤maxLen) :
    Reads S w (.slice (some ((⟨vb,vo,none⟩:Addr).add i)) n c) (.sl (((b.drop i).take n).map bD)):=by
  have hl:(((b.drop i).take n).map bD).length=n:=by rw[UQ,UI,UK]; omega
  have hrow:cO S w ((⟨vb,vo,none⟩:Addr).add i) 1 (((b.drop i).take n).map bD):=by
    intro j hj;have hj':j<n:=by omega
    have e:(((b.drop i).take n).map bD)[j]=(b.map bD)[i+j]'(by rw[UQ]; omega):=by simp
    rw[e];obtain⟨k1,k2⟩:=h (i+j) (by rw[UQ]; omega);refine⟨k1,?_⟩;rw[du];have:vo+(i+j)*1=vo+i+j*1:=by omega
    simp only at k2 ⊢;rw[this] at k2;exact k2
  have:=Reads.of_row (cap:=c) hrow (by omega) hc;rw[hl] at this;exact this
theorem MI (G:aj) (b:List UInt8) (hb:b.length≤140737488355328):xx Try.prog G 94 [.ref [.sl (b.map bD)]] ((jj b).map fun l=>[D.sl (l.map bD)]):=by
  refine⟨enters_of Try.func94 (by kernel_rfl) rfl,?_⟩;intro n w S lb hS hG hlb l J Jx hkeep hgrow hxgrow hround h0;obtain⟨p,rfl,hp⟩:∃ p,lb=[p]∧Reads S w p (.ref [.sl (b.map bD)]):=by
    cases hlb with
    | cons h1 h2=>cases h2; exact⟨_,rfl,h1⟩
  obtain⟨ad,rfl,hcells⟩:=hp.cellsAt;obtain⟨sv,hSad,hcell,hsv⟩:=hcells 0 (by simp);simp only[Wc,VH] at hSad hcell hsv;refine callsIn_of_wp Try.func94 rfl trivial ?_;simp only[Try.ntmps94,List.size_toArray,Wn,V7,Nat.reduceAdd,Nat.reduceSub,Array.replicate_succ,Array.replicate_zero,List.push_toArray,List.append_toArray,Vq,Vt];obtain⟨ab,ao,asp⟩:=ad;have hcellW:∀ k W,J k W→W.cell? ⟨ab,ao,asp⟩=some sv:=fun k W hj=>(hkeep k W hj).1.at hSad hcell
  have hcell0:=hcellW 0 w h0
  gi_wp2
  rcases hsv.row with ⟨rfl,hnil⟩ | ⟨av,cap,sz,rfl,hcap,hmax,hrow⟩
  ·gi_loopw [3] (fun i wr=>i=.int .i64 0∧J 0 wr) (fun i _=>0)
   case atStart=>exact⟨rfl,h0⟩
   case round =>
     obtain⟨rfl,hJs⟩:=hrel;have hc:=hcellW 0 wr hJs
     gi_wp2
     go_end0
     have hb0:b=[]:=by simpa using hnil
     subst hb0;exact⟨⟨_,rfl⟩,.inl hJs⟩
  ·have hlen:(b.map bD).length=b.length:=UQ _;rw[hlen] at hcap hcellW hcell0;obtain⟨vb,vo,vs⟩:=av
   gi_loopw [3] (fun i wr=>∃ k:Nat,16*k<b.length+16∧i=.int .i64 ((16*k:Nat):Int)∧J k wr) (fun i _=>b.length+16-(intOf i).toNat)
   case atStart=>exact⟨0,by omega,rfl,h0⟩
   case round =>
     obtain⟨k,hk,rfl,hJs⟩:=hrel;have hc:=hcellW k wr hJs;by_cases hlt:16*k<b.length
     ·have hb1:0<b.length:=by omega
      obtain⟨c1,c2⟩:=hrow 0 (by rw[hlen]; exact hb1);obtain rfl:sz=1:=by rw[← c1,UZ]; rfl
      have hvs:vs=none:=by
        obtain⟨v,_,c3,_⟩:=c2 0 (by rw[UZ]; exact Nat.one_pos);exact cell_spot c3
      subst hvs;have hrowW:=hrow.keep (hkeep k wr hJs).1;have hget:((jj b).map fun l=>[D.sl (l.map bD)])[k]?=some [D.sl ((fZ b k).map bD)]:=by
        rw[VC,yB hlt]; rfl
      by_cases hfull:16*k+16≤b.length
      ·obtain⟨fn,tmps,assign,body,hy,hR⟩:=hround k _ wr [.slice (some ⟨vb,vo+16*k,none⟩) 16 (cap-16*k)] hget hJs (by
         rw[← du];exact .cons (z3 hrowW (by omega) (by omega) (by omega)) .nil)
       have hy:(Instr.yield l #[.slice (some ⟨vb,vo+16*k,none⟩) 16 (cap-16*k)]).run Try.prog wr=.ok (.round l fn tmps assign body) wr:=hy
       gi_wp2
       refine⟨fun h=>(by cases h),(GH hR).mono ?_⟩;rintro e W3 (⟨rfl,hJ3⟩ | ⟨rfl,hJx3⟩)
       ·gi_wp2
        go_roundw
        case rel=>exact⟨k+1,by omega,by simp; omega,hJ3⟩
        case measure=>simp[intOf]; omega
       ·gi_wp2
        refine bodyPost_ret (results_none rfl _ _ _) rfl ?_;exact⟨⟨_,rfl⟩,.inr hJx3⟩
      ·obtain⟨fn,tmps,assign,body,hy,hR⟩:=hround k _ wr [.slice (some ⟨vb,vo+16*k,none⟩) (b.length-16*k) (cap-16*k)] hget hJs (by
         have e:fZ b k=(b.drop (16*k)).take (b.length-16*k):=by
           unfold fZ;rw[UG (by rw[UK]; omega),UG (by rw[UK]; omega)]
         rw[e,← du];exact .cons (z3 hrowW (by omega) (by omega) (by omega)) .nil)
       have hy:(Instr.yield l #[.slice (some ⟨vb,vo+16*k,none⟩) (b.length-16*k) (cap-16*k)]).run Try.prog wr=.ok (.round l fn tmps assign body) wr:=hy
       gi_wp2
       refine⟨fun h=>(by cases h),(GH hR).mono ?_⟩;rintro e W3 (⟨rfl,hJ3⟩ | ⟨rfl,hJx3⟩)
       ·gi_wp2
        go_roundw
        case rel=>exact⟨k+1,by omega,by simp; omega,hJ3⟩
        case measure=>simp[intOf]; omega
       ·gi_wp2
        refine bodyPost_ret (results_none rfl _ _ _) rfl ?_;exact⟨⟨_,rfl⟩,.inr hJx3⟩
     ·gi_wp2
      go_end0
      have e:((jj b).map fun l=>[D.sl (l.map bD)]).length=k:=by
        rw[UQ,po]; omega
      rw[e];exact⟨⟨_,rfl⟩,.inl hJs⟩
end Go.Proofs.Ytofonnokanoflaa
namespace Go.Proofs.Ytofonnokanoflaa
open Go.RowKit IntWalk
def jF:List (Nat×V):=[(4,.w (.c (.ptr 1 1 0 0))),(8,.w (.c (.ptr 2 1 0 0))),(9,.w (.c (.ptr 3 1 0 0)))]
def Uo:Nat→V:=bc jF
def xJ (key c b:List UInt8) (k:Nat):ak×(Nat→Bool):=(hL [(1,.box [.d (.sl ((d8 c k).map bD))]),(2,.box ((aC key).map bC)),(3,.box [.own 4 1 0 (oT (aC key) c b (16*k)).length]),(4,.row 1 ((oT (aC key) c b (16*k)).map bD))],uL [1,2,3,4])
def xc (key c b:List UInt8) (k i:Nat):St:=⟨bc [(4,.w (.c (.ptr 1 1 0 0))),(8,.w (.c (.ptr 2 1 0 0))),(9,.w (.c (.ptr 3 1 0 0))),(11,.w (.c (.pa 5 1))),(34,.w (.c (.d (.sl ((fZ b k).map bD))))),(35,.w (.c (.d (.int .i64 ((fZ b k).length:Int))))),(36,.w (.c (.d (.int .i64 (i:Int)))))],
  hL [(1,.box [.d (.sl ((d8 c k).map bD))]),(2,.box ((aC key).map bC)),(3,.box [.own 4 1 0 (oT (aC key) c b (16*k+i)).length]),(4,.row 1 ((oT (aC key) c b (16*k+i)).map bD)),(5,.row 1 ((dD (aC key) (d8 c k)).map bD))],uL [1,2,3,4,5]⟩
theorem JV {b:List UInt8} (k:Nat):(fZ b k).length=min 16 (b.length-16*k):=by unfold fZ; rw[UI,UK]
theorem JW {b:List UInt8} {k i:Nat} (hi:i<16) (h:16*k+i<b.length):(fZ b k)[i]?=some (b.getD (16*k+i) 0):=by
  unfold fZ; rw[U2,if_pos hi,Vo]; exact dJ h
theorem Q0 {l:List (Nat×V)} {ts:List Nat} (h:ts.all (fun t=>!(l.map (·.1)).contains t)=true):∀ t∈ts,bc l t=.undef:=by
  intro t ht;have h1:=UN.1 h t ht;have h2:t∉l.map (·.1):=by simpa using h1
  clear h h1 ht
  induction l with
  | nil=>rfl
  | cons p l ih =>
    simp only[UE,U9,not_or] at h2
    show upd (bc l) p.1 p.2 t=_
    unfold upd;rw[if_neg h2.1];exact ih h2.2
def uR:aL := .seq (.reg [oO 37 (.bin .lss (.t 36) (.t 35))]) (.seq (.cond (.t 37) (.skip) (.exit 2)) (.seq (.block 3 (.seq (.reg [oM 38 36,oO 39 (.idxSl 1 (.t 34) (.t 36)),oO 40 (.load .sc (.t 39)),oM 12 38,oM 13 40]) (.reg [oO 41 (.load .sc (.t 9)),oM 42 13,oM 43 12,oO 44 (.idxPa 1 16 (.t 11) (.t 43)),oO 45 (.load .sc (.t 44)),oO 46 (.bin .xor (.t 42) (.t 45)),oO 47 (.bldSl false 1 1 (.int .u8 0) [(0,(.t 46))]),oO 48 (.app false 1 1 (.t 41) (.t 47)),oN (.store .sc (.t 9) (.t 48))]))) (.reg [oO 49 (.bin .add (.t 36) (kI 1)),oM 36 49])))
def Cl:aL := .reg [oM 10 30]
def Cm:aL := .block 1 (.seq (.reg [oO 31 (.load (.ag 176) (.t 8)),oO 32 (.load .sc (.t 4)),oO 33 (.call 86 [(.t 31),(.t 32)] none),oO 11 (.allocArr [(.int .u8 0),(.int .u8 0),(.int .u8 0),(.int .u8 0),(.int .u8 0),(.int .u8 0),(.int .u8 0),(.int .u8 0),(.int .u8 0),(.int .u8 0),(.int .u8 0),(.int .u8 0),(.int .u8 0),(.int .u8 0),(.int .u8 0),(.int .u8 0)]),oN (.store (.ag 16) (.t 11) (.t 33))]) (.seq (.seq (.reg [oM 34 10,oO 35 (.len (.t 34)),oO 36 (.mv (kI 0))]) (.block 2 (.loop uR))) (.reg [oO 50 (.load .sc (.t 4)),oO 51 (.call 87 [(.t 50)] none),oN (.store .sc (.t 4) (.t 51))])))
def nS:aB:=⟨3,53,.seq (.reg [oO 4 (.box .ownBox (.t 1)),oO 6 (.mv (.k (.c .nil))),oO 7 (.mv (kI 0))]) (.seq (.seq (.reg [oM 14 0,oO 15 (.len (.t 14)),oO 16 (.bin .neq (.t 15) (kI 16))]) (.cond (.t 16) (.seq (.reg [oO 6 (.mv (.k (.c .nil))),oO 7 (.mv (kI 5))]) (.ret)) (.skip))) (.seq (.seq (.reg [oO 17 (.load .sc (.t 4)),oO 18 (.len (.t 17)),oO 19 (.bin .neq (.t 18) (kI 16))]) (.cond (.t 19) (.seq (.reg [oO 6 (.mv (.k (.c .nil))),oO 7 (.mv (kI 3))]) (.ret)) (.skip))) (.seq (.seq (.reg [oM 20 2,oO 21 (.len (.t 20)),oO 22 (.bin .gtr (.t 21) (kI 65535))]) (.cond (.t 22) (.seq (.reg [oO 6 (.mv (.k (.c .nil))),oO 7 (.mv (kI 2))]) (.ret)) (.skip))) (.seq (.reg [oM 23 0,oO 24 (.call 84 [(.t 23)] none),oO 8 (.alloc (bf 176 (.d (.int .u8 0)))),oN (.store (.ag 176) (.t 8) (.t 24))]) (.seq (.reg [oM 25 2,
 oO 26 (.len (.t 25)),oO 27 (.make true 1 1 (.int .u8 0) (kI 0) (.t 26)),oO 9 (.alloc [.nil]),oN (.store .sc (.t 9) (.t 27))]) (.seq (.seq (.reg [oM 28 2,oO 29 (.call 85 [(.t 28)] none)]) (.block 0 (.rangeF (.t 29) [30] Cl Cm))) (.seq (.reg [oO 52 (.load .sc (.t 9)),oM 6 52,oO 7 (.mv (kI 0))]) (.ret)))))))),[(6,none),(7,none)]⟩
theorem Q1:aA Try.prog { own:=[4],comp:=[],frz:=[],nils:=[] } Try.f76=some nS:=by kernel_rfl
set_option maxRecDepth 20000 in
set_option maxHeartbeats 3200000 in
theorem S8 (G:aj) (key c b:List UInt8) (hk:key.length≤9223372036854775807) (hc:c.length≤9223372036854775807) (hb:b.length≤9223372036854775807):ar Try.prog G 76 [.sl (key.map bD),.sl (c.map bD),.sl (b.map bD)] (.tup [.c (.fr 1 ((rP key c b).map bD)),.c (.d (.int .i64 (iR key c b)))]):=by
  refine aF Try.func76 Q1 rfl rfl ?_;by_cases h:key.length=16
  ·by_cases h2:c.length=16
   ·by_cases h3:b.length≤65535
    ·have hrk:=vq h;have r4:List.drop 176 (bf 176 (0:UInt8))=[]:=VA (by rw[cd]; omega);rw[MG h h2 h3,MH h h2 h3];simp only[nS,ah,ae,aa,seval,iteOmega,toNatUp,h,h2,DY];refine sC (Gy G key h) ?_;simp only[ie,hrk,cd,oh,iG,ji,r4,UX,ae,aa,seval,iteOmega,toNatUp];refine sD (QZ G b) ?_;refine LN Uo (f1:=bc jF) rfl (xJ key c b) rfl (MI G b (by omega)) ?_ ?_ ?_ ?_ ?_
     ·intro r hr;obtain⟨l,_,rfl⟩:=U4.1 hr;rfl
     ·refine aG (fun i=>if i=1 then 32 else if i=2 then 64 else if i=3 then 72 else 216) ?_ ?_ rfl (by simp[jF,V.ids,W.ids,C.ids,Ob.ids,fH]) <;> simp only[jF,wx,aw,aH,aa,seval,iteOmega,toNatUp,mf,fH,Nat.mul_zero,Uv,V7,UT] <;> rfl
     ·exact Q0 (by rfl)
     ·intro k r hr;obtain⟨hk1,rfl⟩:16*k<b.length∧r=[D.sl ((fZ b k).map bD)]:=by
        rw[VC] at hr;rcases U5 (16*k) b.length with hlt | hge
        ·rw[yB hlt] at hr;exact⟨hlt,by simpa using hr.symm⟩
        ·rw[Vj (by rw[po]; omega)] at hr;cases hr
      have hel:=ib (aC key) (d8 c k);have t176:(aC key).take 176=aC key:=UG (by omega);simp only[Cl,Cm,xJ,jF,mn,ae,aa,seval,iteOmega,toNatUp,ie,hrk,eF,t176,nD];refine sC (Gz G (aC key) (d8 c k) hrk (vA h2 k)) ?_;simp only[hel,fF,cd,ae,aa,seval,iteOmega,toNatUp];refine bH (xc key c b k) (fun i=>16-i) (fun i=>i≤16∧16*k+i≤b.length) 0 ⟨by omega,by omega⟩ ?_ ?_
      ·refine aG (fun i=>if i=5 then 88 else i) ?_ ?_ rfl (by simp[V.ids,W.ids,C.ids,Ob.ids,fH]) <;> simp only[wx,aw,aH,aa,seval,iteOmega,toNatUp,mf,fH,VH]
      ·rintro i ⟨hi16,hib⟩;have hbl:=JV (b:=b) k;have hTk:=GF (aC key) c b (16*k+i);have hTk1:=GF (aC key) c b (16*k+i+1);by_cases hgo:i<16∧16*k+i<b.length
       ·obtain⟨hk2,hk3⟩:=hgo;have g1:=JW (b:=b) hk2 hk3;have g2:(dD (aC key) (d8 c k))[i]?=some ((dD (aC key) (d8 c k)).getD i 0):=dJ (by omega);have x1:=fY (b.getD (16*k+i) 0) ((dD (aC key) (d8 c k)).getD i 0);have ho:=OB (aC key) c b hk2 hk3;simp only[uR,xc,ae,aa,seval,iteOmega,toNatUp,aV,g1,g2,x1,hel,ct];refine br (i+1) (by omega) ⟨by omega,by omega⟩ (aG (fun i=>if i=4 then 384 else i) ?_ ?_ rfl (by simp[V.ids,W.ids,C.ids,Ob.ids,fH])) <;> simp only[wx,aw,aH,aa,seval,iteOmega,toNatUp,mf,fH];refine⟨?_,?_⟩
        ·rw[show 16*k+(i+1)=16*k+i+1 from rfl,hTk,hTk1,show min (16*k+i) b.length+1=min (16*k+i+1) b.length by omega]
        ·rw[← We,← ho,U6]; rfl
       ·have e:oT (aC key) c b (16*k+i)=oT (aC key) c b (16*(k+1)):=by
          by_cases h16:i=16
          ·rw[h16,show 16*k+16=16*(k+1) by omega]
          ·rw[qI _ _ _ (by omega),qI _ _ _ (by omega)]
        have hx:=S7 G (d8 c k) (by rw[vA h2]; omega);rw[MF h2] at hx;have hnl:¬ i<(fZ b k).length:=by omega
        simp only[uR,xc,e,ae,aa,seval,iteOmega,toNatUp];refine sD (hx) ?_;refine LO (f1:=bc jF) rfl ?_;refine aG (fun i=>i) ?_ ?_ rfl (by simp[jF,V.ids,W.ids,C.ids,Ob.ids,fH]) <;> simp only[jF,wx,aw,aH,aa,seval,iteOmega,toNatUp,mf,fH]
     ·have e:oT (aC key) c b (16*((jj b).map fun l=>[D.sl (l.map bD)]).length)=eL (aC key) c b:=qI _ _ _ (by rw[UQ,po]; omega);have hl:=pJ (aC key) c b;have ht:(eL (aC key) c b).take b.length=eL (aC key) c b:=UG (by omega);simp only[xJ,jF,e,ae,aa,seval,iteOmega,toNatUp,hl];have e:oT (aC key) c b (16*(jj b).length)=eL (aC key) c b:=qI _ _ _ (by rw[po]; omega);exact v7 (by simp only[ae,aa,seval,iteOmega,toNatUp,iU,ie,e,hl,eF,ht]) (by simp only[ae,aa,seval,iteOmega,toNatUp])
    ·rw[JU h h2 (by omega),uQ (by omega)];simp only[nS,ah,ae,aa,seval,iteOmega,toNatUp,h,h2];exact cv
   ·rw[KZ b h h2,uQ (by omega)];simp only[nS,ah,ae,aa,seval,iteOmega,toNatUp,h];exact cv
  ·rw[KY c b h,uQ (by omega)];simp only[nS,ah,ae,aa,seval,iteOmega,toNatUp];exact cv
end Go.Proofs.Ytofonnokanoflaa
