/- Texts of one's own, merged: from: Layer 21 on data: the reference: Encode,body,short,Numbers,all,Request,has,Choose,strange. Own work. -/
import Derived.Test.YtnjhelpgohdajaaGreatDoorMg117
import Derived.Test.YtnjhelpgohdajaaGreatDoorMg110
import Derived.Test.YtnjhelpgohdajaaGreatDoorMg118
import Derived.Test.YtnjhelpgohdajaaGreatDoorMg116
import Derived.Test.YtnjhelpgohdajaaGreatDoorMg17
import Derived.Test.YtnjhelpgohdajaaGreatDoorMg114
import Derived.Shelf.Abstract
import Derived.Test.YtnjhelpgohdajaaGreatDoorMg115
import Derived.Test.YtnjhelpgohdajaaGreatDoorMg19
set_option linter.unusedVariables false
set_option linter.unusedSimpArgs false
namespace Go.Proofs.YtnjhelpgohdajaaGreatDoor
open Go.RowKit
theorem wU {l:List Int} {i:Nat} (h:i<l.length):l[i]?=some (l.getD i 0):=by
  rw[apT,apR h]; rfl
theorem GE {l:List Int} {i:Nat} (h:i<l.length):l.getD i 0∈l:=by
  rw[apT,apR h];exact aqr h
theorem xS {l:List Int} {i:Nat} (h:i<l.length):l.take (i+1)=l.take i++[l.getD i 0]:=by
  rw[aq3,wU h]; rfl
theorem aj8 {x y:List Int} {i:Nat} (hi:i<x.length) (hn:∀ v∈x.take i,v∉y) (h:x.getD i 0∈y):gB x y=some (x.getD i 0):=by
  have e:x=x.take i++x.getD i 0::x.drop (i+1):=by
    have:=(aqq (i+1) x).symm;rw[xS hi,ap6] at this;exact this
  have:gB (x.take i++x.getD i 0::x.drop (i+1)) y=some (x.getD i 0):=by
    unfold gB;rw[List.find?_append,List.find?_eq_none.2 (fun v hv q=>hn v hv (of_decide_eq_true q)),List.find?_cons_of_pos (p:=fun v=>decide (v∈y)) (decide_eq_true h)];rfl
  rw[← e] at this;exact this
theorem anN (n:Nat):Int.tmod (n:Int) 2=((n%2:Nat):Int):=rfl
structure Fw where
  p:Nat
  o:List Fd
open IntWalk
set_option maxHeartbeats 3200000
theorem vB (key info:List UInt8):nE key info 32=j5 key info 32∧sO 32=0:=⟨rJ key info (by decide),tw (by decide)⟩
def yo:aO:=⟨2,31,ae [oO 4 (.alloc [.nil]),am 5 0] (.seq (ae [oM 8 0,ak .lss 9 8 0,oM 10 9,bJ 11 0 10 false,cC .gtr 12 11 4294967295 10 false,cv 13 10 12] (ar 13 (ae [oO 14 (.build [.nil] []),aS 1 4 14,am 5 4] .ret) .skip)) (.seq (ae [oM 15 1,bd 16 15,ak .neq 17 16 32] (ar 17 (ae [oO 18 (.build [.nil] []),aS 1 4 18,am 5 5] .ret) .skip)) (ae [oM 20 1,oO 21 (.bldSl true 13 1 aj [(0,(.k (.c (.d (.int .u8 115))))),(1,(.k (.c (.d (.int .u8 101))))),(2,(.k (.c (.d (.int .u8 99))))),(3,(.k (.c (.d (.int .u8 116))))),(4,(.k (.c (.d (.int .u8 105))))),(5,(.k (.c (.d (.int .u8 109))))),(6,(.k (.c (.d (.int .u8 101))))),(7,(.k (.c (.d (.int .u8 32))))),(8,(.k (.c (.d (.int .u8 115))))),(9,(.k (.c (.d (.int .u8 116))))),(10,(.k (.c (.d (.int .u8 97))))),(11,(.k (.c (.d (.int .u8 114))))),(12,(.k (.c (.d (.int .u8 116)))))]),
 oO 22 (.markF (.t 21)),oO 23 (.call 53 [(.t 20),(.t 22),(kI 32)] none),oM 19 23,aC 24 19 0,aC 25 19 1,oM 6 24,oM 7 25] (ae [oM 26 0,oM 27 6,oO 28 (.build [ah,.nil] [(0,1,(.t 26)),(1,1,(.t 27))]),oO 29 (.bldSl false 1 2 (.agg [dH,(.sl [])]) [(0,(.t 28))]),oO 30 (.build [.nil] [(0,1,(.t 29))]),aS 1 4 30,am 5 0] .ret)))),[(4,(some (.ag 1))),(5,none)]⟩
theorem afm:aM Tryz.prog { own:=[21],frz:=[22] } Tryz.f20=some yo:=by kernel_rfl
theorem akn (G:au) (id:Int) (seed:List UInt8) (hs:seed.length≤9223372036854775807):aF Tryz.prog G 20 [.int .i64 id,.sl (seed.map bD)] (.tup [.c (.d (cH (ui id seed))),.c (.d (.int .i64 (ow id seed)))]):=by
  refine aX Tryz.func20 afm rfl rfl ?_;rcases arX id 0 with h1 | h1
  ·have e:ow id seed=4:=if_pos (.inl h1);have e2:ui id seed=[]:=if_neg (by rw[e]; decide);rw[e,e2];unfold cH;simp only[yo,ai,af,aa,seval,iteOmega];exact eM (by simp only[af,seval] <;> rfl) (by simp only[af,seval])
  ·rcases arX 4294967295 id with h2 | h2
   ·have e:ow id seed=4:=if_pos (.inr h2);have e2:ui id seed=[]:=if_neg (by rw[e]; decide);have g:(id>4294967295)=True:=eq_true h2;rw[e,e2];unfold cH;simp only[yo,ai,af,aa,seval,iteOmega,g];exact eM (by simp only[af,seval] <;> rfl) (by simp only[af,seval])
   ·have g:(id>4294967295)=False:=eq_false (by omega);by_cases h3:seed.length=32
    ·have e:ow id seed=0:=by unfold ow; rw[if_neg (by omega),if_neg (by omega)]
     have e2:ui id seed=[⟨id,wT seed⟩]:=if_pos e;rw[e,e2];have c:=Co G seed yg (by omega) (by decide) 32 (by decide) (by decide);rw[(vB seed yg).1,(vB seed yg).2,show j5 seed yg 32=wT seed from rfl] at c;generalize wT seed=K at *
     unfold cH;simp only[yo,ai,af,seval,iteOmega,g,h3];refine bM c (by simp only[af,seval] <;> rfl) (.inl rfl) ?_;simp only[af,aa,seval];exact eM (by simp only[af,seval] <;> rfl) (by simp only[af,seval])
    ·have e:ow id seed=5:=by unfold ow; rw[if_neg (by omega),if_pos h3]
     have e2:ui id seed=[]:=if_neg (by rw[e]; decide);rw[e,e2];unfold cH;simp only[yo,ai,af,aa,seval,iteOmega,g];exact eM (by simp only[af,seval] <;> rfl) (by simp only[af,seval])
theorem S0 {l:List Fd} (h:¬ eR l):mj l=3∧oH l=[]:=by
  have e:mj l=3:=if_neg h;exact⟨e,if_neg (by rw[e]; decide)⟩
theorem S4 {l:List Fd} (h:eR l) {i:Nat} (hi:i<l.length) (h3:i<3) (e:(l.getD i default).ty=gS l):mj l=7∧oH l=[]:=by
  have hc:clash l=true:=by
    unfold clash;rw[aqP];refine⟨l.getD i default,?_,decide_eq_true e⟩;rw[apT,apR hi];exact List.mem_take_iff_getElem.2 ⟨i,by omega,rfl⟩
  have e7:mj l=7:=by unfold mj; rw[if_pos h,if_pos hc]
  exact⟨e7,if_neg (by rw[e7]; decide)⟩
theorem IZ {l:List Fd} (h:eR l) {i:Nat} (hi:i≤l.length) (hend:l.length≤i∨3≤i) (hd:∀ j,j<i→(l.getD j default).ty≠gS l) (h3:i≤3):mj l=0∧oH l=rv l::l.take i:=by
  have ht:l.take 3=l.take i:=by
    rcases hend with h | h
    ·rw[apX h,apX (by omega)]
    ·rw[show i=3 by omega]
  have hc:clash l=false:=by
    unfold clash;rw[ht,aqU];intro f hf;obtain⟨j,hj,rfl⟩:=List.mem_take_iff_getElem.1 hf;have:=hd j (by omega);rw[apT,apR (by omega)] at this
    simpa using this
  have e:mj l=0:=by unfold mj; rw[if_pos h,if_neg (by rw[hc]; decide)]
  refine⟨e,?_⟩;unfold oH;rw[if_pos e,ht]
def fb (l:List Fd) (i:Nat):List Fd:=rv l::l.take i
theorem S5 {l:List Fd} {i:Nat} (h:i<l.length):fb l (i+1)=fb l i++[l.getD i default]:=by
  unfold fb;rw[Ax h]; rfl
def UF (l:List Fd) (i:Nat):St:=⟨bw [(1,.w (.c (.rp [.sl (l.map bf)]))),(2,.w (.c (.ptr 3 1 0 0))),(6,.w (.c (.ptr 1 1 0 0))),(7,.w (.c (.d (.int .i64 (i:Int)))))],hL [(1,.box [.own 2 2 0 (fb l i).length]),(2,.row 2 ((fb l i).map bf)),(3,.box [.nil])],uL [1,2,3]⟩
def xY:bp := .seq (ae [oM 34 7,aL 35 0 1,aA 36 35,bd 37 36,aU .lss 38 34 37,oM 39 38,bJ 40 7 39 true,cC .lss 41 40 3 39 true,ek 42 39 41] (ar 42 .skip (.exit 0))) (.seq (.block 1 (.seq (ae [aL 45 0 1,aA 46 45,oM 47 7,bU 48 2 46 47,aL 49 0 48,aA 50 49,aL 51 0 6,aA 52 51,oO 53 (.idxSl 2 (.t 52) (kI 0)),aL 54 0 53,aA 55 54,aU .eql 56 50 55] (ar 56 (ae [oO 57 (.build [.nil] []),aS 1 2 57,am 3 7] .ret) .skip)) (.reg [aL 58 0 6,aA 59 58,aL 60 0 1,aA 61 60,oM 62 7,bU 63 2 61 62,aL 64 0 63,aA 65 64,aL 66 0 1,aA 67 66,oM 68 7,bU 69 2 67 68,aL 70 1 69,aA 71 70,oO 72 (.bldSl false 1 1 (.sl []) [(0,(.t 71))]),aY 73 37 72,oO 74 (.build [ah,.nil] [(0,1,(.t 65)),(1,1,(.t 73))]),oO 75 (.bldSl false 1 2 (.agg [dH,(.sl [])]) [(0,(.t 74))]),oO 76 (.app false 2 32 (.t 59) (.t 75)),
 aL 77 0 6,d6 77 76]))) (.reg [oM 43 7,ak .add 44 43 1,oM 7 44]))
def HC:aO:=⟨1,79,ae [cX 1 0,oO 2 (.alloc [.nil]),am 3 0] (.seq (ae [bn 8 1 1,aY 9 54 8,cW 10 9] (ar 10 (ae [oO 11 (.build [.nil] []),aS 1 2 11,am 3 3] .ret) .skip)) (ae [aL 13 0 1,aA 14 13,oO 15 (.idxSl 2 (.t 14) (kI 0)),aL 16 1 15,aA 17 16,oO 18 (.bldSl true 12 1 aj [(0,(.k (.c (.d (.int .u8 115))))),(1,(.k (.c (.d (.int .u8 101))))),(2,(.k (.c (.d (.int .u8 99))))),(3,(.k (.c (.d (.int .u8 116))))),(4,(.k (.c (.d (.int .u8 105))))),(5,(.k (.c (.d (.int .u8 109))))),(6,(.k (.c (.d (.int .u8 101))))),(7,(.k (.c (.d (.int .u8 32))))),(8,(.k (.c (.d (.int .u8 110))))),(9,(.k (.c (.d (.int .u8 101))))),(10,(.k (.c (.d (.int .u8 120))))),(11,(.k (.c (.d (.int .u8 116)))))]),oO 19 (.markF (.t 18)),oO 20 (.call 53 [(.t 17),(.t 19),(kI 32)] none),oM 12 20,aC 21 12 0,aC 22 12 1,
 oM 4 21,oM 5 22] (ae [aL 23 0 1,aA 24 23,oO 25 (.idxSl 2 (.t 24) (kI 0)),aL 26 0 25,aA 27 26,ak .add 28 27 1,ak .and 29 28 4294967295,oM 30 4,oO 31 (.build [ah,.nil] [(0,1,(.t 29)),(1,1,(.t 30))]),oO 32 (.bldSl true 1 2 (.agg [dH,(.sl [])]) [(0,(.t 31))]),oO 33 (.build [.nil] [(0,1,(.t 32))]),oO 6 (.alloc [.nil]),aS 1 6 33] (.seq (ae [am 7 0] (.block 0 (.loop xY))) (ae [bn 78 1 6,aS 1 2 78,am 3 0] .ret))))),[(2,(some (.ag 1))),(3,none)]⟩
theorem afn:aM Tryz.prog { own:=[18,32],frz:=[19] } Tryz.f22=some HC:=by kernel_rfl
theorem ako (G:au) (l:List Fd) (hl:l.length≤9223372036854775807):aF Tryz.prog G 22 [cH l] (.tup [.c (.d (cH (oH l))),.c (.d (.int .i64 (mj l)))]):=by
  refine aX Tryz.func22 afn rfl rfl ?_;have c1:=akm G l hl;by_cases hr:eR l
  ·rw[decide_eq_true hr] at c1;have r1:=hr.1;have r2:=hr.2.1;have g0:=kM (l:=l) (i:=0) (by omega);obtain⟨⟨m1,m2,m3⟩,_⟩:=pq hr (i:=0) (by omega);have c2:=Co G (l.getD 0 default).da vz (by omega) (by decide) 32 (by decide) (by decide);rw[(vB _ vz).1,(vB [] []).2,show j5 (l.getD 0 default).da vz 32=sQ (l.getD 0 default).da from rfl] at c2;have ha:=Y2 ((l.getD 0 default).ty+1);rw[show ((l.getD 0 default).ty+1)%4294967296=gS l from rfl] at ha;have hO0:fb l 0=[⟨gS l,sQ (l.getD 0 default).da⟩]:=rfl;have hOh:∀ i,(fb l i).map bf=.agg [.int .i64 (gS l),.sl ((sQ (l.getD 0 default).da).map bD)]::(l.take i).map bf:=fun i=>rfl
   unfold cH at *
   generalize hk0:l.getD 0 default=k0 at *
   simp only[HC,ai,af,seval];refine sC (c1) ?_;simp only[bc,g0,bf,af,seval,iteOmega,toNatUp];refine sC c2 ?_;simp only[bc,g0,bf,ha,af,aa,seval,iteOmega,toNatUp];refine bO (UF l) (fun i=>4-i) (fun i=>i≤l.length∧i≤3∧∀ j,j<i→(l.getD j default).ty≠gS l) 0 ⟨apZ _,apZ _,fun j hj=>by omega⟩ ?_ ?_
   ·refine aR (fun i=>if i=1 then 48 else if i=2 then 256 else 16) ?_ ?_ rfl rfl <;> simp only[wx,aH,seval,hO0] <;> first | exact⟨rfl,rfl⟩ | rfl | skip
   ·rintro i ⟨hi,hi3,hd⟩;clear c1 c2;have hOl:(fb l i).length=i+1:=by simp[fb]; omega
    have az:=lP (fb l i);have hhd:(fb l i)[0]?=some (rv l):=rfl;have hty:(rv l).ty=gS l:=rfl;have est:UF l i=⟨bw [(1,.w (.c (.rp [.sl (l.map bf)]))),(2,.w (.c (.ptr 3 1 0 0))),(6,.w (.c (.ptr 1 1 0 0))),(7,.w (.c (.d (.int .i64 (i:Int)))))],hL [(1,.box [.own 2 2 0 (fb l i).length]),(2,.row 2 ((fb l i).map bf)),(3,.box [.nil])],uL [1,2,3]⟩:=rfl;by_cases hlt:i<l.length
    ·by_cases h3:i<3
     ·have g:=kM hlt;have hs:=S5 hlt;obtain⟨⟨_,_,x3⟩,_⟩:=pq hr hlt;have cj:=vp G [(l.getD i default).da] (by simp) (by rw[aqD,aqF,ap7,x3]; decide);simp only[apW,ap4,aqD,aqF,ap7] at cj;by_cases he:(l.getD i default).ty=gS l
      ·obtain⟨e1,e2⟩:=S4 hr hlt h3 he;have ge:((l.getD i default).ty=gS l)=True:=eq_true he;rw[e1,e2,est];clear hd hs hOh hO0 est;generalize fb l i=O at *
       generalize l.getD i default=x at *
       generalize rv l=nf at *
       generalize gS l=ni at *
       simp only[xY,af,aa,seval,iteOmega,toNatUp,bc,g,hhd,bf,hty,ge];exact eM (by simp only[af,seval] <;> rfl) (by simp only[af,seval])
      ·have ge:((l.getD i default).ty=gS l)=False:=eq_false he;have hd':∀ j,j<i+1→(l.getD j default).ty≠gS l:=fun j hj=>by
         rcases aqk j i with h | h
         ·exact hd j h
         ·obtain rfl:j=i:=by omega
          exact he
       rw[est];clear hd hOh hO0 est;generalize hO:fb l i=O at *
       generalize l.getD i default=x at *
       generalize hnf:rv l=nf at *
       generalize hni:gS l=ni at *
       simp only[xY,af,seval,iteOmega,toNatUp,bc,g,hhd,bf,hty,ge];refine sC (cj) ?_;simp only[cg,af,aa,seval,iteOmega];refine bA (i+1) (by omega) ⟨by omega,by omega,hd'⟩ (aR (fun i=>if i=1 then 1 else if i=2 then 608 else 3) ?_ ?_ rfl rfl) <;> simp only[hs,ap8,bf,wx,aH,aV,seval]
     ·obtain⟨e1,e2⟩:=IZ hr hi (.inr (by omega)) hd hi3;have e2:oH l=fb l i:=e2;have g3:((i:Int)<3)=False:=eq_false (by omega);rw[e1,e2,est];clear hd hOh hO0 est;generalize fb l i=O at *
      simp only[xY,af,aa,seval,iteOmega,g3];exact eM (by simp only[af,seval,iteOmega] <;> rfl) (by simp only[af,seval])
    ·obtain⟨e1,e2⟩:=IZ hr hi (.inl (by omega)) hd hi3;have e2:oH l=fb l i:=e2;rw[e1,e2,est];clear hd hOh hO0 est;generalize fb l i=O at *
     simp only[xY,af,aa,seval,iteOmega];exact eM (by simp only[af,seval,iteOmega] <;> rfl) (by simp only[af,seval])
  ·rw[decide_eq_false hr] at c1;obtain⟨e1,e2⟩:=S0 hr;rw[e1,e2];unfold cH at *
   simp only[HC,ai,af,seval];refine sD (c1) ?_;exact eM (by simp only[af,seval] <;> rfl) (by simp only[af,seval])
def gD (a b:List UInt8):D:=.agg [.sl (a.map bD),.sl (b.map bD)]
theorem afo (m:Fd) (algo:Int) (up dn nonce:List UInt8):[ic m,nonce,fq m.da [ic m,nonce] (jL algo up dn)].flatten=dC m algo up dn nonce:=by
  unfold dC;simp only[aqD,aqF,ap7]
theorem OX (algo:Int) (up dn:List UInt8):[aG algo.toNat 2,[0,0],up,dn].flatten=jL algo up dn:=by
  unfold jL;simp only[aqD,aqF,ap7]
theorem vS {l:List Fd} {algo:Int} {up dn nonce:List UInt8} {e:Int} (h:lF l algo up dn nonce=e) (he:e≠0):mV l algo up dn nonce=[]:=if_neg (by rw[h]; exact he)
theorem afp {l:List Fd} {id:Int} {i:Nat} (h:i<l.length) (e:(l.getD i default).ty=id) (hn:∀ j,j<i→(l.getD j default).ty≠id):lG l id=some i:=by
  unfold lG;rw[ard];have eg:∀ k (hk:k<l.length),l[k]=l.getD k default:=fun k hk=>by rw[apT,apR hk]; rfl
  refine⟨h,by rw[eg i h]; exact decide_eq_true e,fun j hj=>?_⟩;rw[eg j (by omega),decide_eq_false (hn j hj)];decide
theorem ab6 {l:List Fd} {id:Int} (hn:∀ j,j<l.length→(l.getD j default).ty≠id):lG l id=none:=by
  unfold lG;rw[List.findIdx?_eq_none_iff];intro x hx;obtain⟨j,hj,rfl⟩:=aqs hx;have:=hn j hj;rw[apT,apR hj] at this;exact decide_eq_false this
theorem yS {l:List Fd} {c:List UInt8} {e:Int} (h:gU l c=e) (he:e≠0):nH l c=⟨0,[],[],0⟩:=if_neg (by rw[h]; exact he)
theorem afq {l:List Fd} {c:List UInt8} {i:Nat} (h:eR l) (hc:c.length=104) (w:lG l (kg c)=some i):gU l c=if uj (l.getD i default) c then 0 else 6:=by
  unfold gU;rw[if_pos h,if_neg (by omega),w]
def Ka (t:Int) (s:Nat) (K:List UInt8) (i:Nat):St:=⟨bw [(1,.w (.c (.d (.int .i64 t)))),(4,.w (.c (.ptr 2 1 0 0))),(5,.w (.c (.ptr 1 1 0 0))),(7,.w (.c (.d (.int .i64 (i:Int)))))],hL [(1,.box [.d (.sl ((bW s K i).map bf))]),(2,.box [.nil])],uL [1,2]⟩
def GF:bp := .seq (ae [oM 16 7,oM 17 1,oO 18 (.call 6 [(.t 17),(kI 6)] none),aU .lss 19 16 18] (ar 19 .skip (.exit 0))) (.seq (.block 1 (.reg [bn 23 1 5,aY 24 22 23,oM 22 24,aC 25 22 0,aC 26 22 1,aS 1 5 25])) (.reg [oM 20 7,ak .add 21 20 1,oM 7 21]))
def S6:aO:=⟨2,28,ae [oO 4 (.alloc [.nil])] (ae [oM 9 0,oO 10 (.call 6 [(.t 9),(kI 4294967296)] none),oM 11 0,aY 12 21 11,ct 13 20 10 12,oM 8 13,aC 14 8 0,aC 15 8 1,oO 5 (.alloc [.nil]),aS 1 5 14,oM 6 15] (.seq (ae [am 7 0] (.block 0 (.loop GF))) (ae [bn 27 1 5,aS 1 4 27] .ret))),[(4,(some (.ag 1)))]⟩
theorem akp:aM Tryz.prog {} Tryz.f7=some S6:=by kernel_rfl
set_option maxHeartbeats 1600000 in
theorem UG (G:au) (s:Nat) (t:Int) (hs:s≤1000000):aF Tryz.prog G 7 [.int .i64 (s:Int),.int .i64 t] (.w (.c (.d (cH (bW s (bu s 32) (lR t 6).toNat))))):=by
  refine aX Tryz.func7 akp rfl rfl ?_;have c1:=yd G (s:Int) 4294967296 (by decide);have e1:lR (s:Int) 4294967296=(s:Int):=by unfold lR; rw[if_neg (by decide)]; omega
  rw[e1] at c1;have c2:=SV G (s:Int);have kl:(bu s 32).length=32:=ku _ _;have c3:=akn G (s:Int) (bu s 32) (by omega);obtain⟨q1,q2⟩:=Y1 s (bu s 32) (by omega) kl;rw[q1,q2] at c3;have c4:=yd G t 6 (by decide);obtain⟨r1,r2⟩:=Ae t 6 (by decide);have hstep:∀ i,i<6→aF Tryz.prog G _ [cH (bW s (bu s 32) i)] (.tup [.c (.d (cH (bW s (bu s 32) (i+1)))),.c (.d (.int .i64 0))]):=fun i hi=>by
    have c:=ako G (bW s (bu s 32) i) (by rw[pb]; omega);obtain⟨a,b⟩:=OV (s:=s) (seed:=bu s 32) (t:=i) (by omega);rw[a,b] at c;exact c
  generalize bu s 32=K at *
  generalize lR t 6=n at *
  unfold cH at *
  simp only[S6,ai,af,seval];refine sD (c1) ?_;refine sD (c2) ?_;refine sD (c3) ?_;refine bO (Ka t s K) (fun i=>n.toNat-i) (fun i=>i≤n.toNat) 0 (apZ _) ?_ ?_
  ·refine aR (fun i=>if i=1 then 40 else 32) ?_ ?_ rfl rfl <;> simp only[wx,aH,seval]
  ·intro i hi;by_cases hlt:i<n.toNat
   ·have c:=hstep i (by omega);have g:(i:Int)<n:=by omega
    simp only[GF,Ka,af,seval];refine sC (c4) ?_;simp only[g,af,seval];refine sD (c) ?_;refine bA (i+1) (by omega) (by omega) (aR (fun i=>i) ?_ ?_ rfl rfl) <;> simp only[wx,aH,aV,seval] <;> try rfl
   ·have g:((i:Int)<n)=False:=eq_false (by omega);have e:n.toNat=i:=by omega
    rw[e];simp only[GF,Ka,af,seval];refine sC (c4) ?_;simp only[g,af,aa,seval];exact aZ
def Li:ByteArray:=⟨#[115,101,99,116,105,109,101,32,107,101,121,115]⟩
theorem Cx {b:List UInt8}:(∀ r∈br b,r.bo.length≤65535)∧(br b).length≤64:=by
  by_cases h:gQ b=0
  ·obtain⟨h1,h2,h3,h4⟩:=Uf h;exact⟨fun r hr=>(r9 (h4 r hr)).2.2,(wg h1).2.1⟩
  ·rw[show br b=[] from if_neg h];exact⟨fun r hr=>(by cases hr),apZ _⟩
def jE (r:List Fd) (c:Ch) (v a:Int) (ns:List (List UInt8)) (i:Nat):List Ek:=⟨true,1,bH [v]⟩::⟨true,4,bH [a]⟩::jM r c v a (ns.take i)
theorem HD {l:List (List UInt8)} {i:Nat} (h:i<l.length):l[i]?=some (l.getD i []):=by
  rw[apT,apR h]; rfl
theorem Mc {l:List (List UInt8)} {i:Nat} (h:i<l.length):l.take (i+1)=l.take i++[l.getD i []]:=by
  rw[aq3,HD h]; rfl
theorem ab7 {r:List Fd} {c:Ch} {v a:Int} {ns:List (List UInt8)} {i:Nat} (h:i<ns.length):jE r c v a ns (i+1)=jE r c v a ns i++[⟨false,5,mV r a (cI c v a 0) (cI c v a 1) (ns.getD i [])⟩]:=by
  unfold jE jM;rw[Mc h,ap8]; rfl
theorem HE (r:List Fd) (c:Ch) (v a:Int) (ns:List (List UInt8)) (i:Nat):(jE r c v a ns i).length≤ns.length+2:=by
  unfold jE jM;simp only[aqx,ap1,ap0]; omega
theorem Dl (x:ByteArray):x.toList=x.data.toList:=by
  have:=toList_mk x.data.toList
  rwa [arj] at this
theorem afr {x:ByteArray} (h:x.size=0):pH .neq x ⟨#[]⟩=some (.bool false):=by
  show some (D.bool (!(x.toList==(⟨#[]⟩:ByteArray).toList)))=_
  rw[Dl,Dl,aqA.1 (show x.data.toList.length=0 from h)];rfl
theorem afs {x:ByteArray} (h:¬ x.size=0):pH .neq x ⟨#[]⟩=some (.bool true):=by
  show some (D.bool (!(x.toList==(⟨#[]⟩:ByteArray).toList)))=_
  rw[Dl,Dl,beq_eq_false_iff_ne.2 (fun q:x.data.toList=[]=>h (show x.data.toList.length=0 by rw[q]; rfl))];rfl
theorem yT (b:List UInt8):(iQ b).length≤b.length:=by
  unfold iQ;split
  ·rw[afe]; omega
  ·exact apZ _
theorem HF (p:gC):(mm p).length≤3:=by
  unfold mm;simp only[apS];split <;> split <;> simp
theorem I0 {p:gC} (h:p.ho.size≤255):∀ e∈mm p,0≤e.ty∧e.ty≤7∧e.bo.length≤255:=by
  intro e he;unfold mm at he;rcases aqg.1 he with he | he
  ·split at he
   ·cases he
   ·rw[apY.1 he]; exact jA (by decide) h
  ·rcases aqg.1 he with he | he
   ·split at he
    ·cases he
    ·rw[apY.1 he]; exact jA (by decide) (by rw[iW]; exact (show 2*1≤255 by decide))
   ·rw[apY.1 he]; exact jA (by decide) (by decide)
theorem anW {p:gC} {l:List Ek} (h:p.ho.size≤255) (ok:∀ e∈l,0≤e.ty∧e.ty≤7∧e.bo.length≤255) (hl:l.length≤10):gP (l++mm p)=0∧pV (l++mm p)=cu (l++mm p) :=
  Di (fun e he=>(aqg.1 he).elim (ok e) (I0 h e)) (by have:=HF p; rw[apS]; omega)
theorem tW {c:Ch} {v a:Int} (h:eV c) (hv:0≤v∧v≤65535) (ha:0≤a∧a≤65535):kT c v a=0:=by
  have hs:dp [v,a]:=fun n hn=>by
    rcases aqh.1 hn with rfl | hn
    ·exact hv
    ·rw[apY.1 hn]; exact ha
  unfold kT;rw[if_neg (not_not_intro h),if_neg (not_not_intro hs)]
theorem Kb {r:List Fd} {a:Int} {U W n:List UInt8} (vR:eR r) (ha:0≤a∧a≤65535) (hU:U.length=32) (hW:W.length=32) (h:n.length=16):mV r a U W n=dC (r.getD 0 default) a U W n∧(dC (r.getD 0 default) a U W n).length=104:=by
  have h0:0<r.length:=vR.1;obtain⟨q1,q2,q3⟩:=vR.2.2.1 _ (va h0);have e:lF r a U W n=0:=by
    unfold lF;rw[if_pos vR,if_neg (by omega),if_neg (by omega),if_neg (by omega)]
  exact⟨if_pos e,(GC q3 q1 q2 ha.1 ha.2 hU hW h).1⟩
theorem S7 {r:List Fd} {c:Ch} {v a:Int} {ns:List (List UInt8)} (vR:eR r) (hk:kT c v a=0) (ha:0≤a∧a≤65535) (h16:∀ n∈ns,n.length=16):∀ e∈jE r c v a ns ns.length,0≤e.ty∧e.ty≤7∧e.bo.length≤255:=by
  intro e he;unfold jE at he;rcases aqh.1 he with rfl | he
  ·exact jA (by decide) (by rw[iW]; exact (show 2*1≤255 by decide))
  ·rcases aqh.1 he with rfl | he
   ·exact jA (by decide) (by rw[iW]; exact (show 2*1≤255 by decide))
   ·rw[aqy] at he;obtain⟨n,hn,rfl⟩:=aqa.1 he;obtain⟨q1,q2⟩:=Kb (U:=cI c v a 0) (W:=cI c v a 1) vR ha (rN hk) (rN hk) (h16 n hn);refine jA (by decide) ?_;rw[q1,q2]; decide
def nK (p:gC):List Ek:=if p.ho.size=0 then [] else [⟨true,6,p.ho.data.toList⟩]
def nL (p:gC):List Ek:=if p.pt=0 then [] else [⟨true,7,bH [p.pt]⟩]
theorem I1 (p:gC):mm p=nK p++(nL p++[dP]):=rfl
theorem akq {p:gC} (h:p.ho.size≤255):(∀ r∈nK p,r.ty=6)∧(nK p).length≤1∧∀ r∈nK p,r.bo.length≤255:=by
  unfold nK;split
  ·exact⟨fun r hr=>(by cases hr),apZ _,fun r hr=>(by cases hr)⟩
  ·exact⟨fun r hr=>(by rw[apY.1 hr]),ap3 _,fun r hr=>by rw[apY.1 hr]; exact h⟩
theorem akr (p:gC):(∀ r∈nL p,r.ty=7)∧(nL p).length≤1∧∀ r∈nL p,r.bo.length=2:=by
  unfold nL;split
  ·exact⟨fun r hr=>(by cases hr),apZ _,fun r hr=>(by cases hr)⟩
  ·exact⟨fun r hr=>(by rw[apY.1 hr]),ap3 _,fun r hr=>by rw[apY.1 hr]; exact iW [p.pt]⟩
theorem aks {L:List Ek} {p:gC} (h:ba L 6=nK p):xv L=p.ho.data.toList:=by
  unfold xv;by_cases h0:p.ho.size=0
  ·have:ba L 6=[]:=by rw[h]; exact if_pos h0
   rw[dR,this,if_neg (show ¬ ([]:List Ek).length=1 by decide)];exact (aqA.1 (show p.ho.data.toList.length=0 from h0)).symm
  ·have e:ba L 6=[⟨true,6,p.ho.data.toList⟩]:=by rw[h]; exact if_neg h0
   have hl:(di L 6).length=1:=by rw[dR,e]; rfl
   rw[if_pos hl,rM (by omega),e]; rfl
theorem akt {L:List Ek} {p:gC} (hp:0≤p.pt∧p.pt≤65535) (h:ba L 7=nL p):xw L=p.pt:=by
  unfold xw;by_cases h0:p.pt=0
  ·have:ba L 7=[]:=by rw[h]; exact if_pos h0
   rw[dR,this,if_neg (show ¬ ([]:List Ek).length=1 by decide),h0]
  ·have e:ba L 7=[⟨true,7,bH [p.pt]⟩]:=by rw[h]; exact if_neg h0
   have hl:(di L 7).length=1:=by rw[dR,e]; rfl
   rw[if_pos hl,rM (by omega),e]
   show (bq (bH [p.pt]):Int)=_
   rw[show bH [p.pt]=aG p.pt.toNat 2 from ap7 _,get_put 2 (by decide)];omega
theorem Vv {p:gC} {r:List Fd} {c:Ch} (h:iS p r c=0):eV c∧eR r∧dp p.pr∧dp p.al∧dp [p.pt]:=by
  unfold iS at h;by_cases h1:eV c∧eR r
  ·rw[if_neg (not_not_intro h1)] at h;by_cases h2:dp p.pr∧dp p.al∧dp [p.pt]
   ·exact⟨h1.1,h1.2,h2⟩
   ·rw[if_pos h2] at h; exact absurd h (by decide)
  ·rw[if_pos h1] at h; exact absurd h (by decide)
theorem agree {p:gC} {r:List Fd} {c c':Ch} {x y:List Int} {ns:List (List UInt8)} (hq:fX x y=0) (hs:iS p r c=0) (hn:sY ns p.ho) (hv:eV c') (hk:c'.se=c.se) :
    (kV p r c (df x y) ns).length≤65535 ∧
    (gB x p.pr=none∨gB y p.al=none→iF c' (df x y) (kV p r c (df x y) ns)=10) ∧
    (∀ v a,gB x p.pr=some v→gB y p.al=some a→iF c' (df x y) (kV p r c (df x y) ns)=0 ∧
      uz c' (df x y) (kV p r c (df x y) ns)=⟨v,a,cI c v a 0,cI c v a 1,ns.map (fun n=>dC (r.getD 0 default) a (cI c v a 0) (cI c v a 1) n),p.ho.data.toList,p.pt⟩∧(0≤v∧v≤65535)∧(0≤a∧a≤65535)∧kT c v a=0):=by
  obtain⟨vC,vR,s1,s2,s3⟩:=Vv hs;obtain⟨sx,sy,_⟩:=zI hq;obtain⟨o1,o2,o3,o4⟩:=apE hq;obtain⟨Q,fx,fy⟩:=Vu hq;have e:kV p r c (df x y) ns=cu (iR p r c x y ns++mm p):=by
    unfold kV;rw[if_neg (not_not_intro hs),if_neg (not_not_intro o1),o2,if_neg Bool.false_ne_true,if_neg (not_not_intro hn),o3,o4]
  obtain⟨n1,n2,n3,n4⟩:=hn;obtain⟨h6,l6,b6⟩:=akq (p:=p) n3;obtain⟨h7,l7,b7⟩:=akr p;have pp:=s3 p.pt aqj;have e0:∀ l:List Int,l.length≤16→((bH l).length%2=0∧(bH l).length≤255):=fun l hl=>by rw[iW]; omega
  rw[e];rcases hx:gB x p.pr with _ | v
  ·have eA:iR p r c x y ns=[⟨true,1,[]⟩]:=by unfold iR; rw[hx]
   rw[eA,I1];have em:[(⟨true,1,[]⟩:Ek)]++(nK p++(nL p++[dP]))=cZ ⟨true,1,[]⟩ [] [] (nK p) (nL p)++[dP]:=by simp[cZ]
   rw[em];obtain⟨m1,m2,m3,m4,m5,m6,m7,m8,m9,mA,mB⟩:=J8 (a:=⟨true,1,[]⟩) (b:=[]) (x:=[]) rfl (fun r hr=>by cases hr) (fun r hr=>by cases hr) h6 h7 (by decide) (by decide) l6 l7 (e0 [] (by decide)) (fun r hr=>by cases hr) (fun r hr=>by cases hr) b6 b7;obtain⟨f1,_⟩:=J9 (c:=c') hv Q m4 m3 m5 m7 m9 (by decide) (fun r hr=>by cases hr);rw[fx] at f1;exact⟨(wg m1).2.2,fun _=>f1 (.inl (OW m6)),fun v a q=>(by cases q)⟩
  ·obtain⟨v1,v2⟩:=rW hx;have v3:=sx v v1;rcases hy:gB y p.al with _ | a
   ·have eA:iR p r c x y ns=[⟨true,1,bH [v]⟩,⟨true,4,[]⟩]:=by unfold iR; rw[hx]; dsimp only; rw[hy]
    rw[eA,I1];have em:[(⟨true,1,bH [v]⟩:Ek),⟨true,4,[]⟩]++(nK p++(nL p++[dP]))=cZ ⟨true,1,bH [v]⟩ [⟨true,4,[]⟩] [] (nK p) (nL p)++[dP]:=by simp[cZ]
    rw[em];obtain⟨m1,m2,m3,m4,m5,m6,m7,m8,m9,mA,mB⟩:=J8 (a:=⟨true,1,bH [v]⟩) (b:=[⟨true,4,[]⟩]) (x:=[]) rfl (fun r hr=>by rw[apY.1 hr]) (fun r hr=>by cases hr) h6 h7 (ap3 _) (by decide) l6 l7 (e0 [v] (show (1:Nat)≤16 by decide)) (fun r hr=>by rw[apY.1 hr]; exact e0 [] (by decide)) (fun r hr=>by cases hr) b6 b7;obtain⟨f1,_⟩:=J9 (c:=c') hv Q m4 m3 m5 m7 m9 (by decide) (fun r hr=>by cases hr);rw[fy] at f1;exact⟨(wg m1).2.2,fun _=>f1 (.inr (OW m8)),fun v a _ q=>(by cases q)⟩
   ·obtain⟨a1,a2⟩:=rW hy;have a3:=sy a a1;have kz:=tW vC v3 a3;have eA:iR p r c x y ns=⟨true,1,bH [v]⟩::⟨true,4,bH [a]⟩::jM r c v a ns:=by unfold iR; rw[hx]; dsimp only; rw[hy]
    rw[eA,I1];have em:(⟨true,1,bH [v]⟩::⟨true,4,bH [a]⟩::jM r c v a ns)++(nK p++(nL p++[dP]))=cZ ⟨true,1,bH [v]⟩ [⟨true,4,bH [a]⟩] (jM r c v a ns) (nK p) (nL p)++[dP]:=by simp[cZ]
    rw[em];have xl:(jM r c v a ns).length=ns.length:=by unfold jM; rw[ap1]
    have xb:∀ e∈jM r c v a ns,e.bo.length=104:=fun e he=>by
      obtain⟨n,hn,rfl⟩:=aqa.1 he;obtain⟨q1,q2⟩:=Kb (U:=cI c v a 0) (W:=cI c v a 1) vR a3 (rN kz) (rN kz) (n4 n hn)
      show (mV r a _ _ n).length=104
      rw[q1,q2]
    obtain⟨m1,m2,m3,m4,m5,m6,m7,m8,m9,mA,mB⟩:=J8 (a:=⟨true,1,bH [v]⟩) (b:=[⟨true,4,bH [a]⟩]) (x:=jM r c v a ns) rfl (fun r hr=>by rw[apY.1 hr]) (fun e he=>(afj r c v a ns e he).1) h6 h7 (ap3 _) (by omega) l6 l7 (e0 [v] (show (1:Nat)≤16 by decide)) (fun r hr=>by rw[apY.1 hr]; exact e0 [a] (show (1:Nat)≤16 by decide)) (fun e he=>by rw[xb e he]; decide) b6 b7;obtain⟨_,f2⟩:=J9 (c:=c') hv Q m4 m3 m5 m7 m9 (by omega) xb;rw[fx,fy] at f2;obtain⟨g1,g2⟩:=f2 v a (QQ m6 v1 v3) (QQ m8 a1 a3) (by omega);refine⟨(wg m1).2.2,fun q=>(by rcases q with q | q <;> cases q),fun v' a' q1 q2=>?_⟩;obtain rfl:=Option.some.inj q1;obtain rfl:=Option.some.inj q2;refine⟨g1,?_,v3,a3,kz⟩;have kk:∀ z,cI c' v a z=cI c v a z:=fun z=>by
      unfold cI;rw[if_pos kz,if_pos (tW hv v3 a3),hk]
    rw[g2,kk,kk,aks mA,akt pp mB]
    congr 1
    unfold jM;rw[aqQ];refine aqu fun n hn=>?_
    exact (Kb (U:=cI c v a 0) (W:=cI c v a 1) vR a3 (rN kz) (rN kz) (n4 n hn)).1
def ji (s:Nat):List UInt8:=cI (bV false (lH (s:Int)) 0 (0+1)) 0 15 0
def ij (s:Nat):List UInt8:=cI (bV false (lH (s:Int)) 0 (0+1)) 0 15 1
theorem UR (s:Nat):kT (bV false (lH (s:Int)) 0 (0+1)) 0 15=0:=tW (zG (QS _) (by decide) (by decide)) (by decide) (by decide)
theorem qq (s:Nat):(ji s).length=32:=rN (UR s)
theorem tz (s:Nat):(ij s).length=32:=rN (UR s)
def z6 (s i:Nat):List UInt8:=bu ((s+2000000*(i+1):Nat):Int) 16
theorem af3 (s i:Nat):(z6 s i).length=16:=ku _ _
def fL (s n:Nat):List (List UInt8):=(List.range n).map (z6 s)
theorem tj (s n:Nat):(fL s n).length=n:=by unfold fL; rw[ap1,aqV]
theorem ak6 (s n:Nat):fL s (n+1)=fL s n++[z6 s n]:=by
  unfold fL;rw[aqS,ap8]; rfl
theorem HR {s n:Nat}:∀ x∈fL s n,x.length=16:=fun x hx=>by
  obtain⟨i,_,rfl⟩:=aqa.1 hx;exact af3 s i
def j7:gC:=⟨[0],[15],⟨#[]⟩,0⟩
theorem af4 {s:Nat} {K:List UInt8} {t:Nat} (hs:s+t≤4294967295) {c:Ch} (hc:eV c):iS j7 (bW s K t) c=0:=by
  have h1:dp j7.pr∧dp j7.al∧dp [j7.pt]:=by decide
  unfold iS;rw[if_neg (not_not_intro ⟨hc,Cs hs⟩),if_neg (not_not_intro h1)]
def iT (s k:Nat) (n:List UInt8):List UInt8:=dC (gj s (bu (s:Int) 32) k) 15 (ji s) (ij s) n
theorem yx {s k:Nat} {n:List UInt8} (h:s+k≤4294967295) (hn:n.length=16):(iT s k n).length=104:=I2 h (by decide) (by decide) (qq s) (tz s) hn
theorem Q7 {s k:Nat} {n:List UInt8} (hn:n.length=16):((iT s k n).drop 4).take 16=n:=by
  have h4:(ic (gj s (bu (s:Int) 32) k)).length=4:=bS _ _
  show ((ic _++(n++_)).drop 4).take 16=n
  rw[arP (by omega),List.drop_of_length_le (by omega),aqz,aqK (by omega),apX (by omega)]
theorem ak7 {s k k':Nat} {n n':List UInt8} (hn:n.length=16) (hn':n'.length=16) (h:n≠n'):iT s k n≠iT s k' n':=fun e=>h (by rw[← Q7 (s:=s) (k:=k) hn,← Q7 (s:=s) (k:=k') hn',e])
def oK (s t n:Nat):xr:=⟨0,15,ji s,ij s,(fL s n).map (iT s t),[],0⟩
theorem pu {l:List Fd} {f:Fd} {k:Int} (h:f.ty≠k):bP (l++[f]) k=bP l k:=by
  unfold bP;rw[apS,aqw,Dn (by rw[apT,aql (ap3 _),arE]; exact h),BK l [f] k l.length (ap3 _)]
theorem I7 {l:List Fd} {f:Fd} {k:Int} (h:f.ty=k):bP (l++[f]) k=bP l k++[(l.length:Int)]:=by
  unfold bP;rw[apS,aqw,Dm (by rw[apT,aql (ap3 _),arE]; exact h),BK l [f] k l.length (ap3 _)]
theorem aol (u c:List UInt8):cd u c 0=([]++[⟨260,u⟩])++[⟨516,c⟩]:=rfl
theorem I8 {u c:List UInt8}:∀ w,bP (cd u c w) 516=[1]∧bP (cd u c w) 260=[0]∧(bP (cd u c w) 772).length=w
  | 0=>by
    rw[aol];refine⟨?_,?_,?_⟩
    ·rw[I7 rfl,pu (show (260:Int)≠516 by decide)]; rfl
    ·rw[pu (show (516:Int)≠260 by decide),I7 rfl]; rfl
    ·rw[pu (show (516:Int)≠772 by decide),pu (show (260:Int)≠772 by decide)]; rfl
  | w+1=>by
    obtain⟨a,b,c⟩:=I8 (u:=u) (c:=c) w;rw[Kg];refine⟨?_,?_,?_⟩
    ·rw[pu (show pZ.ty≠516 by decide)]; exact a
    ·rw[pu (show pZ.ty≠260 by decide)]; exact b
    ·rw[I7 (show pZ.ty=772 from rfl),apS,c]; rfl
def ik (l:List Fd) (U W:List UInt8) (r:Int) (m:Nat):List (List UInt8):=(List.range m).map fun i:Nat=>mV l 15 U W (bu (r+(i:Int)) 16)
theorem HS (l:List Fd) (U W:List UInt8) (r:Int) (m:Nat):(ik l U W r m).length=m:=by unfold ik; rw[ap1,aqV]
theorem aom (l:List Fd) (U W:List UInt8) (r:Int) (m:Nat):ik l U W r (m+1)=ik l U W r m++[mV l 15 U W (bu (r+(m:Int)) 16)]:=by
  unfold ik;rw[aqS,ap8]; rfl
def lK (t:Nat):Hd:=⟨0,4,4,1,6,-20,0,0,0,0,t,7,8⟩
theorem US (t:Nat):wX (ft t) 1=0:=by
  have h:mK (ft t)=true:=zp.1 (UL t);unfold wX;rw[if_pos h]; rfl
theorem ak8 (t:Nat):KW (ft t) 1 7 8=lK t:=if_pos (US t)
theorem UT (t:Nat):jw (lK t)=0:=zp.2 rfl
theorem Ko {t:Nat} (h:t<18446744073709551616):sW (lK t):=⟨show 0<_ by decide,show 0<_ by decide,show 0<_ by decide,show 0<_ by decide,h,show 7<_ by decide,show 8<_ by decide⟩
def jN (U:List UInt8) (t:Nat) (u c:List UInt8) (w:Nat) (n:List UInt8):List UInt8:=d9 U ⟨ft t,cd u c w,[],false⟩ n
def nN (W:List UInt8) (t:Nat) (u:List UInt8) (cs:List (List UInt8)) (n:List UInt8):List UInt8:=d9 W ⟨lK t,[⟨260,u⟩],dr cs,false⟩ n
theorem CF {U u c n:List UInt8} {t w:Nat} (ht:t<18446744073709551616) (h1:U.length=32) (hu:u.length=32) (hc:c.length=104) (hn:n.length=16) (hw:w≤8) :
    (jN U t u c w n).length=232+108*w∧gW U (jN U t u c w n)=0∧gX U (jN U t u c w n)=⟨ft t,cd u c w,[],true⟩∧ja (jN U t u c w n)=0∧∃ d,pR (jN U t u c w n)=⟨ft t,cd u c w++[⟨1028,d⟩],[],false⟩:=by
  obtain⟨ok,l⟩:=Ki (key:=U) (u:=u) (c:=c) (n:=n) (t:=t) (k:=w) h1 hu hc hn hw;obtain⟨a,b⟩:=aoh (key:=U) (u:=u) (c:=c) (n:=n) (t:=t) (k:=w) ht h1 hu hc hn hw;obtain⟨r1,r2,_⟩:=HL (Kh ht) ok;refine⟨l,a,b,r1,ew n (ie U ⟨ft t,cd u c w,[],false⟩ n),?_⟩;refine r2.trans ?_
  show (⟨ft t,(cd u c w).map gO++[_],[],false⟩:dq)=_
  rw[Q4 hu hc]; rfl
def Ks (l:List Int) (i:Nat):St:=⟨bw [(3,.w (.c (.own 1 1 0 (bH (l.take i)).length))),(6,.w (.c (.d (.sl (l.map zD))))),(7,.w (.c (.d (.int .i64 (l.length:Int))))),(8,.w (.c (.d (.int .i64 (i:Int)))))],hL [(1,.row 1 ((bH (l.take i)).map bD))],uL [1]⟩
def GJ:bp := ae [aU .lss 9 8 7] (.seq (ar 9 .skip (.exit 0)) (.seq (.block 1 (ae [bU 10 1 6 8,aA 11 10,oM 5 11] (.reg [oM 12 3,oM 13 5,oO 14 (.conv .u64 (.t 13)),oO 15 (.call 62 [(.t 14),(kI 2)] none),oO 16 (.app false 1 1 (.t 12) (.t 15)),oM 3 16]))) (.reg [ak .add 17 8 1,oM 8 17])))
def Ty:aO:=⟨1,19,ae [aQ 2] (ae [oO 3 (.nilOwn 1)] (.seq (ae [oM 6 0,bd 7 6,am 8 0] (.block 0 (.loop GJ))) (ae [oM 18 3,oM 2 18] .ret))),[(2,none)]⟩
theorem alj:aM Tryz.prog { own:=[3] } Tryz.f60=some Ty:=by kernel_rfl
theorem aou (G:au) (l:List Int) (hl:l.length≤1000000000) (hs:dp l):aF Tryz.prog G 60 [.sl (l.map zD)] (.w (.c (.fr 1 ((bH l).map bD)))):=by
  refine aX Tryz.func60 alj rfl rfl ?_;simp only[Ty,ai,af,seval];refine bO (Ks l) (fun i=>l.length-i) (fun i=>i≤l.length) 0 (apZ _) ?_ ?_
  ·refine aR (fun _=>24) ?_ ?_ rfl rfl <;> simp only[wx,aH,seval] <;> first | rfl | exact⟨rfl,rfl⟩ | skip
  ·intro i hi;by_cases hlt:i<l.length
   ·have g:=wU hlt;obtain⟨n1,n2⟩:=hs _ (GE hlt);have e:bH (l.take (i+1))=bH (l.take i)++aG (l.getD i 0).toNat 2:=by
      rw[xS hlt,aff,GD]
      show _++(_++[])=_
      rw[ap7]
    have hb:(bH (l.take i)).length≤2000000000:=by rw[iW,ap0]; omega
    generalize l.getD i 0=v at *
    obtain⟨a,rfl⟩:=aqB n1;rw[show ((a:Nat):Int).toNat=a from rfl] at e;have c:=iJ G a 2 (by decide);rw[show (2:Int).toNat=2 from rfl] at c;have pl:=bS a 2;generalize aG a 2=P at *
    simp only[GJ,Ks,af,seval,iteOmega,toNatUp,bc,g,zD];refine sC (c) ?_;simp only[pl,cg,af,seval,iteOmega];refine bA (i+1) (by omega) (by omega) (aR (fun _=>128) ?_ ?_ rfl rfl) <;> simp only[e,pl,wx,aH,aV,seval] <;> first | rfl | exact⟨rfl,rfl⟩ | skip
   ·have:l.take i=l:=apX (by omega);simp only[GJ,Ks,af,seval,iteOmega,this];exact iP
theorem tZ (G:au) (l:List Int) (hl:l.length≤1000000000) (hs:dp l):aF Tryz.prog G 60 [.sl (l.map zD)] (.w (.c (.d (.sl ((bH l).map bD))))):=qw (aou G l hl hs)
def zq (l:List Int) (i:Nat):St:=⟨bw [(5,.w (.c (.d (.sl (l.map zD))))),(6,.w (.c (.d (.int .i64 (l.length:Int))))),(7,.w (.c (.d (.int .i64 (i:Int)))))],hL [],uL []⟩
def yi:bp := ae [aU .lss 8 7 6] (.seq (ar 8 .skip (.exit 0)) (.seq (.block 1 (ae [bU 9 1 5 7,aA 10 9,oM 4 10] (ae [oM 11 4,ak .lss 12 11 0,oM 13 12,bJ 14 4 13 false,cC .geq 15 14 65536 13 false,cv 16 13 15] (ar 16 (ae [bG 2 false] .ret) .skip)))) (.reg [ak .add 17 7 1,oM 7 17])))
def Tz:aO:=⟨1,18,ae [bG 2 false] (.seq (ae [oM 5 0,bd 6 5,am 7 0] (.block 0 (.loop yi))) (ae [bG 2 true] .ret)),[(2,none)]⟩
theorem alk:aM Tryz.prog {} Tryz.f56=some Tz:=by kernel_rfl
theorem ww (G:au) (l:List Int) (hl:l.length≤9000000000000000000):aF Tryz.prog G 56 [.sl (l.map zD)] (.w (.c (.d (.bool (decide (dp l)))))):=by
  refine aX Tryz.func56 alk rfl rfl ?_;simp only[Tz,ai,af,seval];refine bO (zq l) (fun i=>l.length-i) (fun i=>i≤l.length∧dp (l.take i)) 0 ⟨apZ _,by rw[arb]; exact fun n hn=>by cases hn⟩ ?_ ?_
  ·refine aR (fun _=>0) ?_ ?_ rfl rfl <;> simp only[wx,aH,seval] <;> first | rfl | exact⟨rfl,rfl⟩ | skip
  ·rintro i ⟨hi,hp⟩;by_cases hlt:i<l.length
   ·have g:=wU hlt;have hm:=GE hlt;have hs:=xS hlt;generalize l.getD i 0=v at *
    by_cases h1:v<0
    ·rw[decide_eq_false (fun q:dp l=>by have:=q v hm; omega)];have g1:=eq_true h1;simp only[yi,zq,af,seval,iteOmega,toNatUp,bc,g,zD,g1];exact aZ
    ·have g1:=eq_false h1;by_cases h2:v≥65536
     ·rw[decide_eq_false (fun q:dp l=>by have:=q v hm; omega)];have g2:=eq_true h2;simp only[yi,zq,af,seval,iteOmega,toNatUp,bc,g,zD,g1,g2];exact aZ
     ·have g2:=eq_false h2;have hn:dp (l.take (i+1)):=by
        rw[hs];intro n hn;rcases aqg.1 hn with hn | hn
        ·exact hp n hn
        ·rw[apY.1 hn]; omega
      simp only[yi,zq,af,seval,iteOmega,toNatUp,bc,g,zD,g1,g2];refine bA (i+1) (by omega) ⟨by omega,hn⟩ (aR (fun i=>i) ?_ ?_ rfl rfl) <;> simp only[wx,aH,aV,seval] <;> first | rfl | exact⟨rfl,rfl⟩ | skip
   ·rw[apX (by omega)] at hp;rw[decide_eq_true hp];simp only[yi,zq,af,seval,iteOmega];exact aZ
def Kt (b:List UInt8) (k:Nat):St:=⟨bw [(0,.w (.c (.d (.sl (b.map bD))))),(4,.w (.c (.own 1 1 0 (oI b k).length))),(5,.w (.c (.d (.int .i64 ((2*k:Nat):Int)))))],hL [(1,.row 1 ((oI b k).map zD))],uL [1]⟩
theorem aov (n:Nat):Int.tdiv (n:Int) 2=((n / 2:Nat):Int):=rfl
def GK:bp := .seq (ae [oM 14 5,oM 15 0,bd 16 15,aU .lss 17 14 16] (ar 17 .skip (.exit 0))) (.seq (.block 1 (.reg [oM 20 4,oM 21 0,oM 22 5,oM 23 5,ak .add 24 23 2,oO 25 (.slice 1 (.t 21) (some (.t 22)) (some (.t 24)) none),aY 26 68 25,oO 27 (.conv .i64 (.t 26)),oO 28 (.bldSl false 1 1 dH [(0,(.t 27))]),oO 29 (.app false 1 8 (.t 20) (.t 28)),oM 4 29])) (.reg [oM 18 5,ak .add 19 18 2,oM 5 19]))
def Jb:aO:=⟨1,31,ae [aQ 2,bG 3 false] (.seq (ae [oM 6 0,bd 7 6,ak .rem 8 7 2,ak .neq 9 8 0] (ar 9 (ae [aQ 2,bG 3 false] .ret) .skip)) (ae [oM 10 0,bd 11 10,ak .quo 12 11 2,oO 13 (.make true 1 8 dH (kI 0) (.t 12)),oM 4 13] (.seq (ae [am 5 0] (.block 0 (.loop GK))) (ae [oM 30 4,oM 2 30,bG 3 true] .ret)))),[(2,none),(3,none)]⟩
theorem alm:aM Tryz.prog {} Tryz.f146=some Jb:=by kernel_rfl
theorem UY (G:au) (b:List UInt8) (hb:b.length≤1000000000):aF Tryz.prog G 146 [.sl (b.map bD)] (.tup [.c (.d (.sl ((iQ b).map zD))),.c (.d (.bool (decide (b.length%2=0))))]):=by
  refine aX Tryz.func146 alm rfl rfl ?_;have t2:=anN b.length;have t5:=aov b.length;have t6:b.length / 2≤500000000:=by omega
  by_cases he:b.length%2=0
  ·have g0:(((b.length%2:Nat):Int)=0)=True:=eq_true (by omega);rw[decide_eq_true he,show iQ b=rx b from if_pos he];have r0:List.replicate (Int.toNat 0) (D.int .i64 0)=([]:List D):=rfl;simp only[Jb,ai,af,seval,iteOmega,toNatUp,t2,g0,t5];refine bO (Kt b) (fun k=>b.length / 2-k) (fun k=>2*k≤b.length) 0 (apZ _) ?_ ?_
   ·refine aR (fun _=>104) ?_ ?_ rfl rfl <;> simp only[wx,aH,seval] <;> first | rfl | exact⟨rfl,rfl⟩ | skip
   ·intro k hk;have az:=Oa (oI b k);have nl:=QO b k;by_cases hlt:2*k<b.length
    ·have l1:(aK b (2*k) 2).length=2:=fp (by omega);have c:=kH G (aK b (2*k) 2) (by omega);have b2:=(jk 2 (aK b (2*k) 2) l1 (by decide)).1;have hs:=ab2 b k;have hA:uw b k=(bq (aK b (2*k) 2):Int):=rfl;have t1:(b.drop (2*k)).take 2=aK b (2*k) 2:=rfl;have t3:(b.drop (2*k)).take (2*k+2-2*k)=aK b (2*k) 2:=by rw[arA]; rfl
     have e5:2*((k:Int)+1)=2*(k:Int)+2:=by omega
     have g1:(((2*k:Nat):Int)<(b.length:Int))=True:=eq_true (by omega);generalize bq (aK b (2*k) 2)=N at *
     rw[hA] at hs;simp only[GK,Kt,af,seval,iteOmega,toNatUp,t3];refine sC (c) ?_;simp only[cg,af,seval,iteOmega];refine bA (k+1) (by omega) (by omega) (aR (fun _=>232) ?_ ?_ rfl rfl) <;> simp only[hs,ap8,zD,e5,wx,aH,aV,seval] <;> first | rfl | exact⟨rfl,rfl⟩ | skip
    ·have hk2:k=b.length / 2:=by omega
     have g1:(((2*k:Nat):Int)<(b.length:Int))=False:=eq_false (by omega);subst hk2;unfold rx;simp only[GK,Kt,af,seval,iteOmega];exact bz
  ·have g0:(((b.length%2:Nat):Int)=0)=False:=eq_false (by omega);rw[decide_eq_false he,show iQ b=[] from if_neg he];simp only[Jb,ai,af,seval,t2,g0];exact bz
def TA:aO:=⟨2,8,ae [oO 4 (.alloc [cD,ah,.nil])] (ae [oM 5 0,oM 6 1,oO 7 (.build [cD,ah,.nil] [(0,1,(.k (.c (.d (.bool true))))),(1,1,(.t 5)),(2,1,(.t 6))]),aS 3 4 7] .ret),[(4,(some (.ag 3)))]⟩
theorem aln:aM Tryz.prog {} Tryz.f59=some TA:=by kernel_rfl
theorem nz (G:au) (k:Int) (b:List UInt8):aF Tryz.prog G 59 [.int .i64 k,.sl (b.map bD)] (.w (.c (.d (.agg [.bool true,.int .i64 k,.sl (b.map bD)])))):=by
  refine aX Tryz.func59 aln rfl rfl ?_;simp only[TA,ai,af,aa,seval];exact aZ
def Jc:aO:=⟨1,22,ae [cX 1 0,aQ 2] (ae [aL 4 1 1,aA 5 4,oM 3 5] (.seq (ae [aL 6 0 1,aA 7 6] (ar 7 (.reg [oM 8 3,ak .add 9 8 32768,oM 3 9]) .skip)) (ae [oM 10 3,oO 11 (.conv .u64 (.t 10)),oO 12 (.call 62 [(.t 11),(kI 2)] none),aL 13 2 1,aA 14 13,bd 15 14,oO 16 (.conv .u64 (.t 15)),oO 17 (.call 62 [(.t 16),(kI 2)] none),aL 18 2 1,aA 19 18,oO 20 (.bldSl false 3 1 (.sl []) [(0,(.t 12)),(1,(.t 17)),(2,(.t 19))]),aY 21 35 20,oM 2 21] .ret))),[(2,none)]⟩
theorem alo:aM Tryz.prog {} Tryz.f105=some Jc:=by kernel_rfl
theorem aow (G:au) (r:Ek) (h:eI r=0):aF Tryz.prog G 105 [bB r] (.w (.c (.d (.sl ((iz r).map bD))))):=by
  refine aX Tryz.func105 alo rfl rfl ?_;obtain⟨h1,h2,h3⟩:=r9 h;have hT:mR r=r.ty.toNat+if r.cr=true then 32768 else 0:=rfl
  have hB:iz r=aG (mR r) 2++(aG r.bo.length 2++r.bo):=rfl;generalize iz r=B at *
  generalize mR r=T at *
  obtain⟨cr,ty,bo⟩:=r;dsimp only at *
  obtain⟨a,rfl⟩:=aqB h1;rw[show ((a:Nat):Int).toNat=a from rfl] at hT;have c2:=iJ G bo.length 2 (by decide);have c1:=iJ G T 2 (by decide);rw[show (2:Int).toNat=2 from rfl] at c1 c2;have c3:=dT G [aG T 2,aG bo.length 2,bo] (by simp) (by simp[bS]; omega);rw[show [aG T 2,aG bo.length 2,bo].flatten=B from by rw[hB]; simp] at c3;simp only[apW,ap4] at c3;have hBl:B.length≤70000:=by rw[hB]; simp[bS]; omega
  clear hB;generalize aG T 2=P1 at *
  generalize aG bo.length 2=P2 at *
  unfold bB;cases cr
  ·rw[if_neg Bool.false_ne_true,ark] at hT;subst hT;simp only[Jc,ai,af,seval,iteOmega];refine sD (c1) ?_;refine sD (c2) ?_;refine sD (c3) ?_;exact aZ
  ·rw[if_pos rfl] at hT;subst hT;simp only[Int.natCast_add,arW] at c1;simp only[Jc,ai,af,seval,iteOmega];refine sD (c1) ?_;refine sD (c2) ?_;refine sD (c3) ?_;exact aZ
def sT (l:List Ek) (i:Nat):St:=⟨bw [(0,.w (.c (.d (.sl (l.map bB))))),(4,.w (.c (.d (.int .i64 ((cu (l.take i)).length:Int))))),(10,.w (.c (.d (.sl (l.map bB))))),(11,.w (.c (.d (.int .i64 (l.length:Int))))),(12,.w (.c (.d (.int .i64 (i:Int)))))],hL [],uL []⟩
def KY (l:List Ek) (i:Nat):St:=⟨bw [(7,.w (.c (.own 1 1 0 (cu (l.take i)).length))),(42,.w (.c (.d (.sl (l.map bB))))),(43,.w (.c (.d (.int .i64 (l.length:Int))))),(44,.w (.c (.d (.int .i64 (i:Int)))))],hL [(1,.row 1 ((cu (l.take i)).map bD))],uL [1]⟩
theorem O2 {l:List Ek} {i:Nat} (h:i<l.length):cu (l.take (i+1))=cu (l.take i)++iz (l.getD i default):=by
  rw[Al h,P4,u5,P3,ap7]
theorem alp (l:List Ek) (h:∀ r∈l,r.bo.length≤65535):(cu l).length≤65539*l.length:=by
  induction l with
  | nil=>exact ap3 _
  | cons r l ih =>
    have:=ih fun x hx=>h x (aqf _ hx)
    have:=h r aqj;rw[u5,apS,vu,aqx];omega
theorem af6 (l:List Ek) (i:Nat):(cu (l.take i)).length≤(cu l).length:=by
  have:=congrArg List.length (show cu (l.take i++l.drop i)=_ from P4 _ _);rw[aqq,apS] at this;omega
def rG:bp := ae [aU .lss 13 12 11] (.seq (ar 13 .skip (.exit 0)) (.seq (.block 1 (ae [bU 14 3 10 12,bn 15 3 14,oO 6 (.alloc [cD,ah,.nil]),aS 3 6 15] (.seq (ae [aL 16 1 6,aA 17 16,ak .lss 18 17 0,oM 19 18,dF 20 1 6 19 false,dt 21 20 19 false,cC .geq 22 21 32768 19 false,cv 23 19 22] (ar 23 (ae [aQ 2,am 3 4] .ret) .skip)) (.seq (ae [aL 24 2 6,aA 25 24,bd 26 25,ak .gtr 27 26 65535] (ar 27 (ae [aQ 2,am 3 2] .ret) .skip)) (.reg [oM 28 4,aL 29 2 6,aA 30 29,bd 31 30,oO 32 (.bin .add (kI 4) (.t 31)),aU .add 33 28 32,oM 4 33]))))) (.reg [ak .add 34 12 1,oM 12 34])))
def GL:bp := ae [aU .lss 45 44 43] (.seq (ar 45 .skip (.exit 2)) (.seq (.block 3 (ae [bU 46 3 42 44,bn 47 3 46,oO 9 (.alloc [cD,ah,.nil]),aS 3 9 47] (.reg [oM 48 7,bn 49 3 9,aY 50 105 49,oO 51 (.app false 1 1 (.t 48) (.t 50)),oM 7 51]))) (.reg [ak .add 52 44 1,oM 44 52])))
def TB:aO:=⟨1,54,ae [aQ 2,am 3 0] (ae [am 4 0] (.seq (ae [oM 10 0,bd 11 10,am 12 0] (.block 0 (.loop rG))) (.seq (ae [oM 35 0,bd 36 35,ak .gtr 37 36 64] (ar 37 (ae [aQ 2,am 3 8] .ret) .skip)) (.seq (ae [oM 38 4,ak .gtr 39 38 65535] (ar 39 (ae [aQ 2,am 3 2] .ret) .skip)) (ae [oM 40 4,oO 41 (.make true 1 1 aj (kI 0) (.t 40)),oM 7 41] (.seq (ae [oM 42 0,bd 43 42,am 44 0] (.block 2 (.loop GL))) (ae [oM 53 7,oM 2 53,am 3 0] .ret))))))),[(2,none),(3,none)]⟩
theorem alq:aM Tryz.prog {} Tryz.f58=some TB:=by kernel_rfl
theorem UZ (G:au) (l:List Ek) (hl:l.length≤1000000) (hb:∀ r∈l,r.bo.length≤1000000000000):aF Tryz.prog G 58 [.sl (l.map bB)] (.tup [.c (.fr 1 ((pV l).map bD)),.c (.d (.int .i64 (gP l)))]):=by
  refine aX Tryz.func58 alq rfl rfl ?_;simp only[TB,ai,af,seval];refine bO (sT l) (fun i=>l.length-i) (fun i=>i≤l.length∧iA (l.take i)=0) 0 ⟨apZ _,by rw[arb]; rfl⟩ ?_ ?_
  ·refine aR (fun _=>0) ?_ ?_ rfl rfl <;> simp only[wx,aH,seval] <;> first | rfl | exact⟨rfl,rfl⟩ | skip
  ·rintro i ⟨hi,hW⟩;have hA:=alp (l.take i) fun r hr=>(r9 (C1.1 hW r hr)).2.2
   rw[ap0,aq0 hi] at hA;by_cases hlt:i<l.length
   ·have g:=qS hlt;have hm:=hb _ (oV hlt);have hst:=aa0 hlt hW;have hnx:=Oe hlt hW;have hno:∀ e,eI (l.getD i default)=e→e≠0→gP l=e∧pV l=[]:=fun e h1 h2=>by
      have h3:=hst (by rw[h1]; exact h2);have h4:gP l=e:=by unfold gP; rw[if_neg (by rw[h3,h1]; exact h2),h3,h1]
      exact⟨h4,if_neg (by rw[h4]; exact h2)⟩
    have hF:eI (l.getD i default)=if (l.getD i default).ty<0∨32767<(l.getD i default).ty then 4 else if 65535<(l.getD i default).bo.length then 2 else 0:=rfl
    have eA:((cu (l.take (i+1))).length:Int)=((cu (l.take i)).length:Int)+(4+((l.getD i default).bo.length:Int)):=by
      rw[O2 hlt,apS,vu]; omega
    generalize hx:l.getD i default=x at *
    generalize eI x=f at *
    generalize hAq:(cu (l.take i)).length=A at *
    obtain⟨cr,ty,bo⟩:=x;dsimp only at *
    by_cases h1:ty<0
    ·have g1:=eq_true h1;obtain⟨q1,q2⟩:=hno 4 (by rw[hF,if_pos (.inl h1)]) (by decide);rw[q1,q2];clear hst hnx hno eA;simp only[rG,sT,hAq,af,aa,seval,iteOmega,toNatUp,bc,g,bB,g1];exact d7
    ·have g1:=eq_false h1;by_cases h2:ty≥32768
     ·have g2:=eq_true h2;obtain⟨q1,q2⟩:=hno 4 (by rw[hF,if_pos (.inr (by omega))]) (by decide);rw[q1,q2];clear hst hnx hno eA;simp only[rG,sT,hAq,af,aa,seval,iteOmega,toNatUp,bc,g,bB,g1,g2];exact d7
     ·have g2:=eq_false h2;rw[if_neg (by omega)] at hF;by_cases h3:65535<bo.length
      ·have g3:((bo.length:Int)>65535)=True:=eq_true (by omega);obtain⟨q1,q2⟩:=hno 2 (by rw[hF,if_pos h3]) (by decide);rw[q1,q2];clear hst hnx hno eA;simp only[rG,sT,hAq,af,aa,seval,iteOmega,toNatUp,bc,g,bB,g1,g2,g3];exact d7
      ·have g3:((bo.length:Int)>65535)=False:=eq_false (by omega);rw[if_neg h3] at hF;subst hF;clear hst hno;simp only[rG,sT,hAq,af,aa,seval,iteOmega,toNatUp,bc,g,bB,g1,g2,g3];refine bA (i+1) (by omega) ⟨by omega,by rw[hnx]⟩ (aR (fun i=>i) ?_ ?_ rfl rfl) <;> simp only[eA,wx,aH,aV,seval] <;> first | rfl | exact⟨rfl,rfl⟩ | skip
   ·obtain rfl:i=l.length:=by omega
    rw[aqy] at hW hA;by_cases h4:64<l.length
    ·have e:gP l=8:=by unfold gP; rw[if_pos hW,if_pos h4]
     rw[show pV l=[] from if_neg (by rw[e]; decide),e];have g4:((l.length:Int)>64)=True:=eq_true (by omega);simp only[rG,sT,af,seval,iteOmega,g4];exact d7
    ·have g4:((l.length:Int)>64)=False:=eq_false (by omega);by_cases h5:(cu l).length≤65535
     ·have e:gP l=0:=by unfold gP; rw[if_pos hW,if_neg h4,if_neg (by omega)]
      rw[show pV l=cu l from if_pos e,e];have g5:(((cu l).length:Int)>65535)=False:=eq_false (by omega);have r0:List.replicate (Int.toNat 0) (D.int .u8 0)=([]:List D):=rfl;simp only[rG,sT,af,seval,iteOmega,toNatUp,g4,g5];refine bO (KY l) (fun i=>l.length-i) (fun i=>i≤l.length) 0 (apZ _) ?_ ?_
      ·refine aR (fun _=>328) ?_ ?_ rfl rfl <;> simp only[wx,aH,seval] <;> first | rfl | exact⟨rfl,rfl⟩ | skip
      ·intro i hi;by_cases hlt:i<l.length
       ·have g:=qS hlt;have c:=aow G (l.getD i default) (C1.1 hW _ (oV hlt));have ha:=O2 hlt;have h1:=af6 l (i+1);rw[ha,apS] at h1;unfold bB at c;generalize l.getD i default=x at *
        generalize iz x=B at *
        generalize hAq:cu (l.take i)=A at *
        simp only[GL,KY,hAq,af,aa,seval,iteOmega,toNatUp,bc,g,bB];refine sC (c) ?_;simp only[cg,af,seval,iteOmega];refine bA (i+1) (by omega) (by omega) (aR (fun _=>408) ?_ ?_ rfl rfl) <;> simp only[ha,wx,aH,aV,seval] <;> first | rfl | exact⟨rfl,rfl⟩ | skip
       ·have hil:l.take i=l:=apX (by omega);simp only[GL,KY,af,seval,iteOmega,hil];exact d7
     ·have e:gP l=2:=by unfold gP; rw[if_pos hW,if_neg h4,if_pos (by omega)]
      rw[show pV l=[] from if_neg (by rw[e]; decide),e];have g5:(((cu l).length:Int)>65535)=True:=eq_true (by omega);simp only[rG,sT,af,seval,iteOmega,g4,g5];exact d7
theorem U0 (G:au) (l:List Ek) (hl:l.length≤1000000) (hb:∀ r∈l,r.bo.length≤1000000000000):aF Tryz.prog G 58 [.sl (l.map bB)] (.tup [.c (.d (.sl ((pV l).map bD))),.c (.d (.int .i64 (gP l)))]):=vn (UZ G l hl hb)
def CG:aO:=⟨1,18,ae [am 2 0,bG 3 false] (.seq (ae [oM 5 0,bd 6 5,ak .lss 7 6 4] (ar 7 (ae [am 2 0,bG 3 false] .ret) .skip)) (ae [oM 8 0,oO 9 (.slice 1 (.t 8) (some (kI 2)) (some (kI 4)) none),aY 10 68 9,oO 11 (.conv .i64 (.t 10)),oO 12 (.bin .add (kI 4) (.t 11)),oM 4 12] (ae [oM 13 4,oM 14 4,oM 15 0,bd 16 15,aU .leq 17 14 16,oM 2 13,oM 3 17] .ret))),[(2,none),(3,none)]⟩
theorem alr:aM Tryz.prog {} Tryz.f144=some CG:=by kernel_rfl
theorem aox (G:au) (b:List UInt8) (hb:b.length≤1000000000000):aF Tryz.prog G 144 [.sl (b.map bD)] (.tup [.c (.d (.int .i64 (if b.length<4 then 0 else ((4+eF b:Nat):Int)))),.c (.d (.bool (decide (4≤b.length∧4+eF b≤b.length))))]):=by
  refine aX Tryz.func144 alr rfl rfl ?_;by_cases h:b.length<4
  ·rw[if_pos h,decide_eq_false (by omega)];have g:((b.length:Int)<4)=True:=eq_true (by omega);simp only[CG,ai,af,seval,g];exact bz
  ·rw[if_neg h];have g:((b.length:Int)<4)=False:=eq_false (by omega);have l3:(aK b 2 2).length=2:=fp (by omega);have b3:=(jk 2 (aK b 2 2) l3 (by decide)).1;have c:=kH G (aK b 2 2) (by omega);have hN:eF b=bq (aK b 2 2):=rfl;have t1:(b.drop 2).take 2=aK b 2 2:=rfl;have t2:(b.drop 2).take (4-2)=aK b 2 2:=rfl;generalize bq (aK b 2 2)=N at *
   rw[hN];by_cases h2:4+N≤b.length
   ·rw[decide_eq_true (by omega)];have g2:((4:Int)+(N:Int)≤(b.length:Int))=True:=eq_true (by omega);simp only[CG,ai,af,seval,iteOmega,toNatUp,g,t1];refine sC (c) ?_;simp only[g2,af,seval,iteOmega];exact bz
   ·rw[decide_eq_false (by omega)];have g2:((4:Int)+(N:Int)≤(b.length:Int))=False:=eq_false (by omega);simp only[CG,ai,af,seval,iteOmega,toNatUp,g,t1];refine sC (c) ?_;simp only[g2,af,seval,iteOmega];exact bz
def EE (b:List UInt8):Ek:=⟨decide (32768≤(bq (b.take 2):Int)),(bq (b.take 2):Int)%32768,b.drop 4⟩
theorem aoy (n:Nat):Int.tmod (n:Int) 32768=(n:Int)%32768:=rfl
def Jd:aO:=⟨1,17,ae [oO 2 (.alloc [cD,ah,.nil])] (ae [oM 4 0,oO 5 (.slice 1 (.t 4) none (some (kI 2)) none),aY 6 68 5,oO 7 (.conv .i64 (.t 6)),oM 3 7] (ae [oM 8 3,ak .geq 9 8 32768,oM 10 3,ak .rem 11 10 32768,oM 12 0,oO 13 (.slice 1 (.t 12) (some (kI 4)) none none),oO 14 (.bldSl false 1 1 (.sl []) [(0,(.t 13))]),aY 15 35 14,oO 16 (.build [cD,ah,.nil] [(0,1,(.t 9)),(1,1,(.t 11)),(2,1,(.t 15))]),aS 3 2 16] .ret)),[(2,(some (.ag 3)))]⟩
theorem als:aM Tryz.prog {} Tryz.f145=some Jd:=by kernel_rfl
theorem aoz (G:au) (b:List UInt8) (hb:b.length≤1000000000000) (h4:4≤b.length):aF Tryz.prog G 145 [.sl (b.map bD)] (.w (.c (.d (bB (EE b))))):=by
  refine aX Tryz.func145 als rfl rfl ?_;have l3:(b.take 2).length=2:=by rw[ap0]; omega
  have b3:=(jk 2 (b.take 2) l3 (by decide)).1;have c:=kH G (b.take 2) (by omega);have cj:=dT G [b.drop 4] (by simp) (by simp; omega);rw[show [b.drop 4].flatten=b.drop 4 from by simp] at cj;simp only[apW,ap4] at cj;have dl:(b.drop 4).length=b.length-4:=ap5;have t1:(b.drop 4).take (b.length-4)=b.drop 4:=apX (by omega);unfold EE bB;generalize bq (b.take 2)=K at *
  have hm:=aoy K;generalize hB:b.drop 4=B at *
  generalize hA:b.take 2=A at *
  by_cases hk:(K:Int)≥32768
  ·have gk:=eq_true hk;rw[decide_eq_true (show (32768:Int)≤K from hk)];simp only[Jd,ai,af,seval,iteOmega,toNatUp,hA];refine sC (c) ?_;simp only[hm,hB,t1,gk,af,seval,iteOmega,toNatUp];refine sC (cj) ?_;simp only[af,aa,seval];exact aZ
  ·have gk:=eq_false hk;rw[decide_eq_false (show ¬ (32768:Int)≤K from hk)];simp only[Jd,ai,af,seval,iteOmega,toNatUp,hA];refine sC (c) ?_;simp only[hm,hB,t1,gk,af,seval,iteOmega,toNatUp];refine sC (cj) ?_;simp only[af,aa,seval];exact aZ
structure Dw where
  r:List UInt8
  o:List Fd
def wC (t:Dw):St:=⟨bw [(0,.w (.c (.d (.sl (t.r.map bD))))),(4,.w (.c (.own 1 3 0 t.o.length)))],hL [(1,.row 3 ((t.o.map iu).map bB))],uL [1]⟩
theorem alt {r:List UInt8} (h1:¬ r.length<4) (h2:¬ r.length-4<eF r):EE (r.take (4+eF r))=iu (ke r):=by
  have e1:(r.take (4+eF r)).take 2=r.take 2:=by rw[arU,aq0 (by omega)]
  have e2:(r.take (4+eF r)).drop 4=aK r 4 (eF r):=by rw[List.drop_take,arA]; rfl
  unfold EE iu ke;rw[e1,e2]
theorem af7 {b r:List UInt8} {o:List Fd} (hd:gv b=(gv r).map (o++·)) (h1:¬ r.length<4) (h2:¬ r.length-4<eF r):gv b=(gv (r.drop (4+eF r))).map ((o++[ke r])++·):=by
  rw[hd,Iy h1 h2,Option.map_map]
  congr 1
  funext x
  simp
def vg:bp := .seq (ae [oM 10 0,bd 11 10,ak .gtr 12 11 0] (ar 12 .skip (.exit 0))) (.block 1 (ae [oM 14 0,aY 15 144 14,oM 13 15,aC 16 13 0,aC 17 13 1,oM 5 16,oM 6 17] (.seq (ae [oM 18 6,cW 19 18] (ar 19 (ae [aQ 2,am 3 1] .ret) .skip)) (ae [oM 20 4,oM 21 0,oM 22 5,oO 23 (.slice 1 (.t 21) none (some (.t 22)) none),aY 24 145 23,oO 25 (.bldSl false 1 3 (.agg [(.bool false),dH,(.sl [])]) [(0,(.t 24))]),oO 26 (.app false 3 40 (.t 20) (.t 25)),oM 4 26] (.reg [oM 27 0,oM 28 5,oO 29 (.slice 1 (.t 27) (some (.t 28)) none none),oM 0 29])))))
def Je:aO:=⟨1,34,ae [aQ 2,am 3 0] (.seq (ae [oM 7 0,bd 8 7,ak .gtr 9 8 65535] (ar 9 (ae [aQ 2,am 3 2] .ret) .skip)) (ae [oO 4 (.nilOwn 3)] (.seq (.block 0 (.loop vg)) (.seq (ae [oM 30 4,bd 31 30,ak .gtr 32 31 64] (ar 32 (ae [aQ 2,am 3 8] .ret) .skip)) (ae [oM 33 4,oM 2 33,am 3 0] .ret))))),[(2,none),(3,none)]⟩
theorem alu:aM Tryz.prog { own:=[4] } Tryz.f113=some Je:=by kernel_rfl
theorem aoA (G:au) (b:List UInt8) (hb:b.length≤1000000000):aF Tryz.prog G 113 [.sl (b.map bD)] (.tup [.c (.d (.sl ((br b).map bB))),.c (.d (.int .i64 (gQ b)))]):=by
  refine aX Tryz.func113 alu rfl rfl ?_;by_cases h0:65535<b.length
  ·have g0:((b.length:Int)>65535)=True:=eq_true (by omega);have e1:mS b=2:=if_pos h0;have e2:gQ b=2:=by unfold gQ; rw[e1]; rfl
   rw[e2,show br b=[] from if_neg (by rw[e2]; decide)];simp only[Je,ai,af,seval,g0];exact bz
  ·have g0:((b.length:Int)>65535)=False:=eq_false (by omega);simp only[Je,ai,af,seval,g0];refine bO wC (fun t=>t.r.length) (fun t=>t.r.length+t.o.length≤b.length∧gv b=(gv t.r).map (t.o++·)) ⟨b,[]⟩ ⟨ap3 _,by cases gv b <;> rfl⟩ ?_ ?_
   ·refine aR (fun _=>32) ?_ ?_ rfl rfl <;> simp only[wx,aH,seval] <;> first | rfl | exact⟨rfl,rfl⟩ | skip
   ·rintro⟨r,o⟩ ⟨hol,hd⟩;dsimp only at hol hd;have az:=u4 (o.map iu);have ol:(o.map iu).length=o.length:=ap1 ..;by_cases hlt:0<r.length
    ·have g1:((r.length:Int)>0)=True:=eq_true (by omega);have c:=aox G r (by omega);by_cases h1:r.length<4
     ·rw[if_pos h1,decide_eq_false (by omega)] at c;rw[P6 (by omega) h1] at hd;have e1:mS b=1:=by unfold mS; rw[if_neg h0,hd]; rfl
      have e2:gQ b=1:=by unfold gQ; rw[e1]; rfl
      rw[e2,show br b=[] from if_neg (by rw[e2]; decide)];simp only[vg,wC,af,seval,g1];refine sD (c) ?_;exact bz
     ·rw[if_neg h1] at c;by_cases h2:r.length-4<eF r
      ·rw[decide_eq_false (by omega)] at c;rw[MK h1 h2] at hd;have e1:mS b=1:=by unfold mS; rw[if_neg h0,hd]; rfl
       have e2:gQ b=1:=by unfold gQ; rw[e1]; rfl
       rw[e2,show br b=[] from if_neg (by rw[e2]; decide)];simp only[vg,wC,af,seval,g1];refine sD (c) ?_;exact bz
      ·rw[decide_eq_true (by omega)] at c;have hd2:=af7 hd h1 h2;have hr:=alt h1 h2;have tl:(r.take (4+eF r)).length=4+eF r:=by rw[ap0]; omega
       have dl:(r.drop (4+eF r)).length=r.length-(4+eF r):=ap5;have c2:=aoz G (r.take (4+eF r)) (by omega) (by omega);rw[hr] at c2;have eo:((o++[ke r]).map iu).map bB=(o.map iu).map bB++[bB (iu (ke r))]:=by simp
       have lo:(o++[ke r]).length=o.length+1:=by simp
       have cz:(bB (iu (ke r))).cells.length=3:=rfl;have t3:(r.drop (4+eF r)).take (r.length-(4+eF r))=r.drop (4+eF r):=apX (by omega);generalize hR:o++[ke r]=O at *
       generalize bB (iu (ke r))=E at *
       generalize hK:4+eF r=K at *
       simp only[vg,wC,af,seval,g1];refine sC (c) ?_;simp only[af,seval,iteOmega,toNatUp];refine sC (c2) ?_;simp only[cg,cz,t3,af,seval,iteOmega,toNatUp];refine bA (⟨r.drop K,O⟩:Dw) (by dsimp only; omega) ⟨by dsimp only; omega,by dsimp only; exact hd2⟩ (aR (fun _=>208) ?_ ?_ rfl rfl) <;> simp only[eo,lo,wx,aH,seval] <;> first | rfl | exact⟨rfl,rfl⟩ | skip
    ·have g1:((r.length:Int)>0)=False:=eq_false (by omega);obtain rfl:r=[]:=aqA.1 (by omega);rw[Bz] at hd;have hd:gv b=some o:=by rw[hd]; simp
     have e1:mS b=0:=by unfold mS; rw[if_neg h0,hd]; rfl
     have e2:rq b=o:=by unfold rq; rw[if_neg h0,hd]; rfl
     by_cases h64:64<o.length
     ·have e3:gQ b=8:=by unfold gQ; rw[if_pos e1,e2,if_pos h64]
      rw[e3,show br b=[] from if_neg (by rw[e3]; decide)];have g2:((o.length:Int)>64)=True:=eq_true (by omega);simp only[vg,wC,af,seval,g2];exact bz
     ·have e3:gQ b=0:=by unfold gQ; rw[if_pos e1,e2,if_neg h64]
      rw[e3,show br b=o.map iu from by unfold br; rw[if_pos e3,e2]];have g2:((o.length:Int)>64)=False:=eq_false (by omega);simp only[vg,wC,af,seval,g2];exact bz
def CH:aO:=⟨1,11,ae [bG 2 false] (ae [oM 3 0,bd 4 3,ak .geq 5 4 1,oM 6 5,bJ 7 0 6 true,eY 8 7 6 true,cC .leq 9 8 16 6 true,ek 10 6 9,oM 2 10] .ret),[(2,none)]⟩
theorem alv:aM Tryz.prog {} Tryz.f57=some CH:=by kernel_rfl
theorem U3 (G:au) (l:List Int) (hl:l.length≤9000000000000000000):aF Tryz.prog G 57 [.sl (l.map zD)] (.w (.c (.d (.bool (decide (1≤l.length∧l.length≤16)))))):=by
  refine aX Tryz.func57 alv rfl rfl ?_;by_cases h1:1≤l.length
  ·have g1:((l.length:Int)≥1)=True:=eq_true (by omega);by_cases h2:l.length≤16
   ·have g2:((l.length:Int)≤16)=True:=eq_true (by omega);rw[decide_eq_true ⟨h1,h2⟩];simp only[CH,ai,af,seval,g1,g2];exact aZ
   ·have g2:((l.length:Int)≤16)=False:=eq_false (by omega);rw[decide_eq_false (by omega)];simp only[CH,ai,af,seval,g1,g2];exact aZ
  ·have g1:((l.length:Int)≥1)=False:=eq_false (by omega);rw[decide_eq_false (by omega)];simp only[CH,ai,af,seval,g1];exact aZ
def vW:aO:=⟨2,33,ae [aQ 4,am 5 0] (.seq (ae [oM 6 0,aY 7 56 6,cW 8 7,oM 9 8,bJ 10 1 9 false,oG 11 (.call 56 [(.t 10)] none) 9 false,gn 12 11 9 false,cv 13 9 12] (ar 13 (ae [aQ 4,am 5 4] .ret) .skip)) (.seq (ae [oM 14 0,aY 15 57 14,cW 16 15,oM 17 16,bJ 18 1 17 false,oG 19 (.call 57 [(.t 18)] none) 17 false,gn 20 19 17 false,cv 21 17 20] (ar 21 (ae [aQ 4,am 5 8] .ret) .skip)) (ae [oM 22 0,aY 23 60 22,oO 24 (.call 59 [(kI 1),(.t 23)] none),oM 25 1,aY 26 60 25,oO 27 (.call 59 [(kI 4),(.t 26)] none),oO 28 (.call 59 [(kI 0),(.k (.c .nil))] none),oO 29 (.bldSl false 3 3 (.agg [(.bool false),dH,(.sl [])]) [(0,(.t 24)),(1,(.t 27)),(2,(.t 28))]),aY 30 58 29,aC 31 30 0,aC 32 30 1,oM 4 31,oM 5 32] .ret))),[(4,none),(5,none)]⟩
theorem alw:aM Tryz.prog {} Tryz.f24=some vW:=by kernel_rfl
theorem U4 (G:au) (x y:List Int) (hx:x.length≤1000000) (hy:y.length≤1000000):aF Tryz.prog G 24 [.sl (x.map zD),.sl (y.map zD)] (.tup [.c (.d (.sl ((df x y).map bD))),.c (.d (.int .i64 (fX x y)))]):=by
  refine aX Tryz.func24 alw rfl rfl ?_;have c1:=ww G x (by omega);have c2:=ww G y (by omega);have c3:=U3 G x (by omega);have c4:=U3 G y (by omega);by_cases h1:dp x
  ·rw[decide_eq_true h1] at c1;by_cases h2:dp y
   ·rw[decide_eq_true h2] at c2;by_cases h3:1≤x.length∧x.length≤16
    ·rw[decide_eq_true h3] at c3;by_cases h4:1≤y.length∧y.length≤16
     ·rw[decide_eq_true h4] at c4;have e:fX x y=0:=by unfold fX; rw[if_neg (not_not_intro ⟨h1,h2⟩),if_neg (by omega)]
      have c5:=tZ G x (by omega) h1;have c6:=tZ G y (by omega) h2;have c7:=nz G 1 (bH x);have c8:=nz G 4 (bH y);have c9:=nz G 0 [];have l1:=iW x;have l2:=iW y;have hf:∀ r∈gz x y,eI r=0:=by
        intro r hr;simp only[gz,aqh,arS,or_false] at hr;rcases hr with rfl | rfl | rfl <;> exact Iw (by dsimp only; omega) (by dsimp only; omega) (by first | (dsimp only; omega) | simp)
      have ht:(cu (gz x y)).length≤65535:=by
        simp only[gz,u5,P3,apS,vu,aqZ]; omega
      obtain⟨q1,q2⟩:=Ix hf (by simp[gz]) ht;have c10:=U0 G (gz x y) (by simp[gz]) (fun r hr=>by have:=(r9 (hf r hr)).2.2; omega);rw[q1,q2] at c10;rw[e,show df x y=cu (gz x y) from if_pos e];have hL:(gz x y).map bB=[D.agg [.bool true,.int .i64 1,.sl ((bH x).map bD)],D.agg [.bool true,.int .i64 4,.sl ((bH y).map bD)],D.agg [.bool true,.int .i64 0,.sl []]]:=rfl;rw[hL] at c10;generalize cu (gz x y)=R at *
      clear hf ht q1 q2 hL;simp only[ap4] at c9;generalize bH x=X at *
      generalize bH y=Y at *
      simp only[vW,ai,af,seval];refine sD (c1) ?_;refine sD (c2) ?_;refine sD (c3) ?_;refine sD (c4) ?_;refine sD (c5) ?_;refine sD (c7) ?_;refine sD (c6) ?_;refine sD (c8) ?_;refine sD (c9) ?_;refine sD (c10) ?_;exact bz
     ·rw[decide_eq_false h4] at c4;have e:fX x y=8:=by unfold fX; rw[if_neg (not_not_intro ⟨h1,h2⟩),if_pos (by omega)]
      rw[e,show df x y=[] from if_neg (by rw[e]; decide)];simp only[vW,ai,af,seval];refine sD (c1) ?_;refine sD (c2) ?_;refine sD (c3) ?_;refine sD (c4) ?_;exact bz
    ·rw[decide_eq_false h3] at c3;have e:fX x y=8:=by unfold fX; rw[if_neg (not_not_intro ⟨h1,h2⟩),if_pos (by omega)]
     rw[e,show df x y=[] from if_neg (by rw[e]; decide)];simp only[vW,ai,af,seval];refine sD (c1) ?_;refine sD (c2) ?_;refine sD (c3) ?_;exact bz
   ·rw[decide_eq_false h2] at c2;have e:fX x y=4:=by unfold fX; rw[if_pos (fun h=>h2 h.2)]
    rw[e,show df x y=[] from if_neg (by rw[e]; decide)];simp only[vW,ai,af,seval];refine sD (c1) ?_;refine sD (c2) ?_;exact bz
  ·rw[decide_eq_false h1] at c1;have e:fX x y=4:=by unfold fX; rw[if_pos (fun h=>h1 h.1)]
   rw[e,show df x y=[] from if_neg (by rw[e]; decide)];simp only[vW,ai,af,seval];refine sD (c1) ?_;exact bz
def Du (l:List Int) (v:Int) (i:Nat):St:=⟨bw [(0,.w (.c (.d (.sl (l.map zD))))),(1,.w (.c (.d (.int .i64 v)))),(7,.w (.c (.d (.int .i64 (l.length:Int))))),(8,.w (.c (.d (.int .i64 (i:Int)))))],hL [],uL []⟩
def inP (l:List Int) (v n:Int):Prop:=(v∈l∧0≤n)∨(v∉l∧n=-1)
def A9:bp := ae [aU .lss 9 8 7] (.seq (ar 9 .skip (.exit 0)) (.seq (.block 1 (ae [oM 10 8,oM 5 10] (ae [oM 11 1,oM 12 0,oM 13 5,bU 14 1 12 13,aA 15 14,aU .eql 16 11 15] (ar 16 (ae [oM 17 5,oM 4 17] .ret) .skip)))) (.reg [ak .add 18 8 1,oM 8 18])))
def TC:aO:=⟨2,19,ae [am 4 0] (.seq (ae [oM 6 0,bd 7 6,am 8 0] (.block 0 (.loop A9))) (ae [oO 4 (.mv (.k (.c (.d (.int .i64 (-1))))))] .ret)),[(4,none)]⟩
theorem alx:aM Tryz.prog {} Tryz.f164=some TC:=by kernel_rfl
theorem aoB (G:au) (l:List Int) (v:Int) (hl:l.length≤9000000000000000000):∃ n,inP l v n∧aF Tryz.prog G 164 [.sl (l.map zD),.int .i64 v] (.w (.c (.d (.int .i64 n)))):=by
  have key:∀ n,(∀ k,n=((l.idxOf v:Nat):Int)∧v∈l∨n=-1∧v∉l→k=n→k=n)→(n=((l.idxOf v:Nat):Int)∧v∈l∨n=-1∧v∉l)→aF Tryz.prog G 164 [.sl (l.map zD),.int .i64 v] (.w (.c (.d (.int .i64 n)))):=by
    intro n _ hn;refine aX Tryz.func164 alx rfl rfl ?_;simp only[TC,ai,af,seval];refine bO (Du l v) (fun i=>l.length-i) (fun i=>i≤l.length∧v∉l.take i) 0 ⟨apZ _,by rw[arb]; exact arS⟩ ?_ ?_
    ·refine aR (fun _=>0) ?_ ?_ rfl rfl <;> simp only[wx,aH,seval] <;> first | rfl | exact⟨rfl,rfl⟩ | skip
    ·rintro i ⟨hi,hp⟩;by_cases hlt:i<l.length
     ·have g:=wU hlt;have hm:=GE hlt;have hs:=xS hlt;by_cases h1:v=l.getD i 0
      ·have hv:v∈l:=h1 ▸ hm;have hi2:l.idxOf v=i:=by
         have e:l=l.take i++l.getD i 0::l.drop (i+1):=by
           have:=(aqq (i+1) l).symm;rw[hs,ap6] at this;exact this
         have:(l.take i++l.getD i 0::l.drop (i+1)).idxOf v=i:=by
           rw[List.idxOf_append,if_neg hp,← h1,List.idxOf_cons_self,ap0]; omega
         rw[← e] at this;exact this
       obtain⟨rfl,_⟩:=hn.resolve_right fun h=>h.2 hv
       rw[hi2];have g1:(v=l.getD i 0)=True:=eq_true h1;generalize l.getD i 0=w at *
       simp only[A9,Du,af,seval,iteOmega,toNatUp,bc,g,zD,g1];exact aZ
      ·have g1:(v=l.getD i 0)=False:=eq_false h1;have hn:v∉l.take (i+1):=by
         rw[hs];intro q;rcases aqg.1 q with q | q
         ·exact hp q
         ·exact h1 (apY.1 q)
       generalize l.getD i 0=w at *
       simp only[A9,Du,af,seval,iteOmega,toNatUp,bc,g,zD,g1];refine bA (i+1) (by omega) ⟨by omega,hn⟩ (aR (fun i=>i) ?_ ?_ rfl rfl) <;> simp only[wx,aH,aV,seval] <;> first | rfl | exact⟨rfl,rfl⟩ | skip
     ·rw[apX (by omega)] at hp;obtain⟨rfl,_⟩:=hn.resolve_left fun h=>hp h.2
      simp only[A9,Du,af,seval,iteOmega];exact aZ
  by_cases hv:v∈l
  ·exact⟨_,.inl ⟨hv,Int.natCast_nonneg _⟩,key _ (fun _ _ h=>h) (.inl ⟨rfl,hv⟩)⟩
  ·exact⟨_,.inr ⟨hv,rfl⟩,key _ (fun _ _ h=>h) (.inr ⟨rfl,hv⟩)⟩
def Jf:aO:=⟨2,9,ae [bG 4 false] (ae [oM 5 0,oM 6 1,ct 7 164 5 6,ak .geq 8 7 0,oM 4 8] .ret),[(4,none)]⟩
theorem aly:aM Tryz.prog {} Tryz.f148=some Jf:=by kernel_rfl
theorem U5 (G:au) (l:List Int) (v:Int) (hl:l.length≤9000000000000000000):aF Tryz.prog G 148 [.sl (l.map zD),.int .i64 v] (.w (.c (.d (.bool (decide (v∈l)))))):=by
  refine aX Tryz.func148 aly rfl rfl ?_;obtain⟨n,hn,c⟩:=aoB G l v hl;rcases hn with ⟨h1,h2⟩ | ⟨h1,rfl⟩
  ·rw[decide_eq_true h1];have g:(n≥0)=True:=eq_true h2;simp only[Jf,ai,af,seval];refine sC (c) ?_;simp only[g,af,seval];exact aZ
  ·rw[decide_eq_false h1];simp only[Jf,ai,af,seval];refine sD (c) ?_;exact aZ
def Dv (x y:List Int) (i:Nat):St:=⟨bw [(1,.w (.c (.d (.sl (y.map zD))))),(8,.w (.c (.d (.sl (x.map zD))))),(9,.w (.c (.d (.int .i64 (x.length:Int))))),(10,.w (.c (.d (.int .i64 (i:Int)))))],hL [],uL []⟩
def Ba:bp := ae [aU .lss 11 10 9] (.seq (ar 11 .skip (.exit 0)) (.seq (.block 1 (ae [bU 12 1 8 10,aA 13 12,oM 7 13] (ae [oM 14 1,oM 15 7,ct 16 148 14 15] (ar 16 (ae [oM 17 7,oM 4 17,bG 5 true] .ret) .skip)))) (.reg [ak .add 18 10 1,oM 10 18])))
def TD:aO:=⟨2,19,ae [am 4 0,bG 5 false] (.seq (ae [oM 8 0,bd 9 8,am 10 0] (.block 0 (.loop Ba))) (ae [am 4 0,bG 5 false] .ret)),[(4,none),(5,none)]⟩
theorem alz:aM Tryz.prog {} Tryz.f117=some TD:=by kernel_rfl
theorem U6 (G:au) (x y:List Int) (hx:x.length≤1000000) (hy:y.length≤1000000):aF Tryz.prog G 117 [.sl (x.map zD),.sl (y.map zD)] (.tup [.c (.d (.int .i64 ((gB x y).getD 0))),.c (.d (.bool (gB x y).isSome))]):=by
  refine aX Tryz.func117 alz rfl rfl ?_;simp only[TD,ai,af,seval];refine bO (Dv x y) (fun i=>x.length-i) (fun i=>i≤x.length∧∀ v∈x.take i,v∉y) 0 ⟨apZ _,by rw[arb]; exact fun v hv=>by cases hv⟩ ?_ ?_
  ·refine aR (fun _=>0) ?_ ?_ rfl rfl <;> simp only[wx,aH,seval] <;> first | rfl | exact⟨rfl,rfl⟩ | skip
  ·rintro i ⟨hi,hp⟩;by_cases hlt:i<x.length
   ·have g:=wU hlt;have hs:=xS hlt;have hat:=aj8 hlt hp;have c:=U5 G y (x.getD i 0) (by omega);generalize x.getD i 0=w at *
    by_cases h1:w∈y
    ·rw[hat h1,aq9,arF];rw[decide_eq_true h1] at c;simp only[Ba,Dv,af,seval,iteOmega,toNatUp,bc,g,zD];refine sD (c) ?_;exact bz
    ·rw[decide_eq_false h1] at c;have hn:∀ v∈x.take (i+1),v∉y:=by
       rw[hs];intro v q;rcases aqg.1 q with q | q
       ·exact hp v q
       ·rw[apY.1 q]; exact h1
     clear hat;simp only[Ba,Dv,af,seval,iteOmega,toNatUp,bc,g,zD];refine sD (c) ?_;refine bA (i+1) (by omega) ⟨by omega,hn⟩ (aR (fun i=>i) ?_ ?_ rfl rfl) <;> simp only[wx,aH,aV,seval] <;> first | rfl | exact⟨rfl,rfl⟩ | skip
   ·rw[apX (by omega)] at hp;have:gB x y=none:=List.find?_eq_none.2 fun v hv q=>hp v hv (of_decide_eq_true q)
    rw[this,arv,arI];simp only[Ba,Dv,af,seval,iteOmega];exact bz
def TE:aO:=⟨3,20,ae [cX 3 0,aQ 6] (ae [bn 10 6 3,oM 11 1,oM 12 2,oO 13 (.bldSl false 1 1 aj [(0,(.t 12))]),oO 14 (.bldSl false 2 1 (.sl []) [(0,(.t 11)),(1,(.t 13))]),aY 15 35 14,oO 16 (.call 165 [(.t 10),(.k (.c (.d (.str ⟨#[115,101,99,116,105,109,101,32,107,101,121,115]⟩)))),(.t 15),(kI 32)] none),oM 9 16,aC 17 9 0,aC 18 9 1,oM 7 17,oM 8 18] (ae [oM 19 7,oM 6 19] .ret)),[(6,none)]⟩
theorem alA:aM Tryz.prog {} Tryz.f149=some TE:=by kernel_rfl
theorem U7 (G:au) (hF:G.at 0=some (.ra (dY.map wD))) (hG:G.at 1=some (.ra (cy.map wD))) (c:Ch) (p a:Int) (z:UInt8) (h:kT c p a=0):aF Tryz.prog G 149 [bX c,.sl ((bH [p,a]).map bD),bD z] (.w (.c (.d (.sl ((cI c p a z).map bD))))):=by
  refine aX Tryz.func149 alA rfl rfl ?_;have hv:eV c:=by
    unfold kT at h;by_cases g:eV c
    ·exact g
    ·rw[if_pos g] at h; exact absurd h (by decide)
  have bl:(bH [p,a]).length=4:=iW _;have cj:=dT G [bH [p,a],[z]] (by simp) (by simp[bl]);rw[show [bH [p,a],[z]].flatten=sX p a z from by unfold sX; simp] at cj;simp only[apW,ap4] at cj;have hl:(sX p a z).length=5:=by unfold sX; rw[apS,bl]; rfl
  have c4:=anQ G hF hG c Li (sX p a z) 32 (by decide) (by omega) (by decide) (by decide);have hX:D7 c Li.data.toList (sX p a z) 32=cI c p a z:=by
    unfold D7 cI;rw[if_pos hv,if_pos h,rJ _ _ (by decide)];rfl
  rw[hX] at c4;unfold Li at c4;unfold bX at *
  generalize sX p a z=X at *
  generalize cI c p a z=K at *
  generalize bH [p,a]=B at *
  simp only[TE,ai,af,seval];refine sD (cj) ?_;refine sD (c4) ?_;exact aZ
def CI:aO:=⟨3,30,ae [cX 3 0,oO 6 (.alloc [.nil,.nil]),am 7 0] (.seq (ae [bn 9 6 3,aY 10 61 9,cW 11 10] (ar 11 (ae [oO 12 (.build [.nil,.nil] []),aS 2 6 12,am 7 3] .ret) .skip)) (.seq (ae [oM 13 1,oM 14 2,oO 15 (.bldSl false 2 1 dH [(0,(.t 13)),(1,(.t 14))]),aY 16 56 15,cW 17 16] (ar 17 (ae [oO 18 (.build [.nil,.nil] []),aS 2 6 18,am 7 4] .ret) .skip)) (ae [oM 19 1,oM 20 2,oO 21 (.bldSl false 2 1 dH [(0,(.t 19)),(1,(.t 20))]),aY 22 60 21,oM 8 22] (ae [bn 23 6 3,oM 24 8,oO 25 (.call 149 [(.t 23),(.t 24),(.k (.c (.d aj)))] none),bn 26 6 3,oM 27 8,oO 28 (.call 149 [(.t 26),(.t 27),(.k (.c (.d (.int .u8 1))))] none),oO 29 (.build [.nil,.nil] [(0,1,(.t 25)),(1,1,(.t 28))]),aS 2 6 29,am 7 0] .ret)))),[(6,(some (.ag 2))),(7,none)]⟩
theorem alB:aM Tryz.prog {} Tryz.f119=some CI:=by kernel_rfl
theorem U8 (G:au) (hF:G.at 0=some (.ra (dY.map wD))) (hG:G.at 1=some (.ra (cy.map wD))) (c:Ch) (p a:Int):aF Tryz.prog G 119 [bX c,.int .i64 p,.int .i64 a] (.tup [.c (.d (gD (cI c p a 0) (cI c p a 1))),.c (.d (.int .i64 (kT c p a)))]):=by
  refine aX Tryz.func119 alB rfl rfl ?_;have c1:=wm G hF hG c;have c2:=ww G [p,a] (by simp);by_cases h:eV c
  ·rw[decide_eq_true h] at c1;by_cases hs:dp [p,a]
   ·rw[decide_eq_true hs] at c2;have e:kT c p a=0:=by unfold kT; rw[if_neg (not_not_intro h),if_neg (not_not_intro hs)]
    have c3:=tZ G [p,a] (by simp) hs;have c4:=U7 G hF hG c p a 0 e;have c5:=U7 G hF hG c p a 1 e;rw[e];unfold bX gD at *
    simp only[apW,ap4,zD] at c2 c3 c4 c5;generalize bH [p,a]=B at *
    generalize cI c p a 0=U at *
    generalize cI c p a 1=W at *
    simp only[CI,ai,af,seval];refine sD (c1) ?_;refine sD (c2) ?_;refine sD (c3) ?_;refine sD (c4) ?_;refine sD (c5) ?_;exact bz
   ·rw[decide_eq_false hs] at c2;have e:kT c p a=4:=by unfold kT; rw[if_neg (not_not_intro h),if_pos hs]
    rw[e,show cI c p a 0=[] from if_neg (by rw[e]; decide),show cI c p a 1=[] from if_neg (by rw[e]; decide)];unfold bX gD at *
    simp only[apW,ap4,zD] at c2;simp only[CI,ai,af,seval];refine sD (c1) ?_;refine sD (c2) ?_;exact bz
  ·rw[decide_eq_false h] at c1;have e:kT c p a=3:=by unfold kT; rw[if_pos h]
   rw[e,show cI c p a 0=[] from if_neg (by rw[e]; decide),show cI c p a 1=[] from if_neg (by rw[e]; decide)];unfold bX gD at *
   simp only[CI,ai,af,seval];refine sD (c1) ?_;exact bz
def Dz (l:List Ek) (g:Nat) (caps:List D) (i:Nat):St:=⟨bw [(0,.w (.c (.d (.sl (l.map bB))))),(1,.w (.c (.d (.fn g caps)))),(7,.w (.c (.d (.int .i64 (l.length:Int))))),(8,.w (.c (.d (.int .i64 (i:Int)))))],hL [],uL []⟩
def inK (p:Ek→Bool) (l:List Ek) (n:Int):Prop:=(l.any p=true∧0≤n)∨(l.any p=false∧n=-1)
def Bb:bp := ae [aU .lss 9 8 7] (.seq (ar 9 .skip (.exit 0)) (.seq (.block 1 (ae [oM 10 8,oM 5 10] (ae [oM 11 1,oM 12 0,oM 13 5,bU 14 3 12 13,bn 15 3 14,ct 16 1000000007 11 15] (ar 16 (ae [oM 17 5,oM 4 17] .ret) .skip)))) (.reg [ak .add 18 8 1,oM 8 18])))
def TJ:aO:=⟨2,19,ae [am 4 0] (.seq (ae [oM 6 0,bd 7 6,am 8 0] (.block 0 (.loop Bb))) (ae [oO 4 (.mv (.k (.c (.d (.int .i64 (-1))))))] .ret)),[(4,none)]⟩
theorem alQ:aM Tryz.prog {} Tryz.f147=some TJ:=by kernel_rfl
theorem aoC (G:au) (l:List Ek) (g:Nat) (caps:List D) (p:Ek→Bool) (hl:l.length≤9223372036854775807) (hp:∀ x∈l,oo Tryz.prog G g caps [bB x] (.w (.c (.d (.bool (p x)))))):∃ n,inK p l n∧aF Tryz.prog G 147 [.sl (l.map bB),.fn g caps] (.w (.c (.d (.int .i64 n)))):=by
  have key:∀ n:Int,(l.any p=true∧(∃ i:Nat,n=(i:Int)∧i<l.length∧p (l.getD i default)=true∧∀ j,j<i→p (l.getD j default)=false))∨(l.any p=false∧n=-1)→aF Tryz.prog G 147 [.sl (l.map bB),.fn g caps] (.w (.c (.d (.int .i64 n)))):=by
    intro n hn;refine aX Tryz.func147 alQ rfl rfl ?_;simp only[TJ,ai,af,seval];refine bO (Dz l g caps) (fun i=>l.length-i) (fun i=>i≤l.length∧∀ j,j<i→p (l.getD j default)=false) 0 ⟨apZ _,fun j hj=>by omega⟩ ?_ ?_
    ·refine aR (fun i=>0) ?_ ?_ rfl rfl <;> simp only[wx,aH,seval] <;> rfl
    ·rintro i ⟨hi,hno⟩;by_cases hlt:i<l.length
     ·have g1:=qS hlt;have hd:=hp _ (oV hlt);unfold bB at hd;cases hpi:p (l.getD i default)
      ·rw[hpi] at hd;simp only[Bb,Dz,af,seval,iteOmega,toNatUp,bc,g1,bB];refine uZ hd rfl (.inl rfl) ?_;simp only[af,seval,iteOmega];refine bA (i+1) (by omega) ⟨by omega,fun j hj=>?_⟩ (aR (fun i=>0) ?_ ?_ rfl rfl)
       ·rcases aqk j i with h | h
        ·exact hno j h
        ·obtain rfl:j=i:=by omega
         exact hpi
       all_goals simp only[wx,aH,aV,seval]
      ·rw[hpi] at hd;have hni:n=(i:Int):=by
         rcases hn with ⟨_,k,rfl,hk,h1,h2⟩ | ⟨h1,_⟩
         ·rcases Nat.lt_trichotomy k i with h | h | h
          ·rw[hno k h] at h1; cases h1
          ·rw[h]
          ·rw[h2 i h] at hpi; cases hpi
         ·have:=aqP.2 ⟨_,oV hlt,hpi⟩;rw[h1] at this; cases this
       subst hni;simp only[Bb,Dz,af,seval,iteOmega,toNatUp,bc,g1,bB];refine uZ hd rfl (.inl rfl) ?_;simp only[af,seval];exact aZ
     ·have hni:n=-1:=by
        rcases hn with ⟨_,k,rfl,hk,h1,h2⟩ | ⟨_,h⟩
        ·rw[hno k (by omega)] at h1; cases h1
        ·exact h
      subst hni;simp only[Bb,Dz,af,seval,iteOmega];exact aZ
  cases ha:l.any p
  ·exact⟨_,.inr ⟨ha,rfl⟩,key _ (.inr ⟨ha,rfl⟩)⟩
  ·have:∃ i,i<l.length∧p (l.getD i default)=true:=by
     obtain⟨x,hx,h1⟩:=aqP.1 ha;obtain⟨i,hi,rfl⟩:=aqs hx;exact⟨i,hi,by rw[apT,apR hi]; exact h1⟩
   obtain⟨i,⟨h1,h2⟩,h3⟩:=NL this;exact⟨_,.inl ⟨ha,Int.natCast_nonneg _⟩,key (i:Int) (.inl ⟨ha,i,rfl,h1,h2,fun j hj=>by
     cases hq:p (l.getD j default)
     ·rfl
     ·have:=h3 j ⟨by omega,hq⟩; omega⟩)⟩
def Jk:aO:=⟨2,9,ae [bG 4 false] (ae [oM 5 0,oM 6 1,ct 7 147 5 6,ak .geq 8 7 0,oM 4 8] .ret),[(4,none)]⟩
theorem alR:aM Tryz.prog {} Tryz.f115=some Jk:=by kernel_rfl
theorem aoD (G:au) (l:List Ek) (g:Nat) (caps:List D) (p:Ek→Bool) (hl:l.length≤9223372036854775807) (hp:∀ x∈l,oo Tryz.prog G g caps [bB x] (.w (.c (.d (.bool (p x)))))):aF Tryz.prog G 115 [.sl (l.map bB),.fn g caps] (.w (.c (.d (.bool (l.any p))))):=by
  refine aX Tryz.func115 alR rfl rfl ?_;obtain⟨n,hn,c⟩:=aoC G l g caps p hl hp;rcases hn with ⟨h1,h2⟩ | ⟨h1,rfl⟩
  ·rw[h1];have g1:(n≥0)=True:=eq_true h2;simp only[Jk,ai,af,seval];refine sC (c) ?_;simp only[g1,af,seval];exact aZ
  ·rw[h1];simp only[Jk,ai,af,seval];refine sD (c) ?_;exact aZ
def TK:aO:=⟨1,5,ae [cX 1 0,bG 2 false] (ae [aL 3 0 1,aA 4 3,oM 2 4] .ret),[(2,none)]⟩
theorem alS:aM Tryz.prog {} Tryz.f116=some TK:=by kernel_rfl
theorem aoE (G:au) (r:Ek):oo Tryz.prog G 116 [] [bB r] (.w (.c (.d (.bool r.cr)))):=by
  refine⟨enters_of Tryz.func116 (by kernel_rfl) rfl,?_⟩;refine aX Tryz.func116 alS rfl rfl ?_;obtain⟨cr,ty,bo⟩:=r;unfold bB;simp only[TK,ai,af,seval];exact aZ
def Jl:aO:=⟨2,10,ae [bG 4 false] (ae [oM 5 0,oM 6 1,oO 7 (.mpGet .i64 (.sl []) false (.t 5) (.t 6)),bd 8 7,ak .gtr 9 8 0,oM 4 9] .ret),[(4,none)]⟩
theorem alT:aM Tryz.prog {} Tryz.f77=some Jl:=by kernel_rfl
theorem sr (G:au) (l:List Ek) (k:Int):aF Tryz.prog G 77 [dW l,.int .i64 k] (.w (.c (.d (.bool (decide (0<(ba l k).length)))))):=by
  refine aX Tryz.func77 alT rfl rfl ?_;have hk:=Ji l k;unfold dW;generalize eT l=E at *
  generalize ba l k=x at *
  by_cases h:0<x.length
  ·rw[decide_eq_true h];have g1:((x.length:Int)>0)=True:=eq_true (by omega);simp only[Jl,ai,af,seval,fo,hk,g1];exact aZ
  ·rw[decide_eq_false h];have g1:((x.length:Int)>0)=False:=eq_false (by omega);simp only[Jl,ai,af,seval,fo,hk,g1];exact aZ
def fF (l:List Ek) (k:Int):List UInt8:=((ba l k).getD 0 default).bo
def cF (l:List Ek) (k:Int):List Int:=iQ (fF l k)
def Jm:aO:=⟨2,15,ae [aQ 4] (.seq (ae [oM 5 0,oM 6 1,ct 7 77 5 6,cW 8 7] (ar 8 (ae [aQ 4] .ret) .skip)) (ae [oM 9 0,oM 10 1,oO 11 (.mpGet .i64 (.sl []) false (.t 9) (.t 10)),oO 12 (.idxSl 3 (.t 11) (kI 0)),aL 13 2 12,aA 14 13,oM 4 14] .ret)),[(4,none)]⟩
theorem alU:aM Tryz.prog {} Tryz.f122=some Jm:=by kernel_rfl
theorem Ku (G:au) (l:List Ek) (k:Int):aF Tryz.prog G 122 [dW l,.int .i64 k] (.w (.c (.d (.sl ((fF l k).map bD))))):=by
  refine aX Tryz.func122 alU rfl rfl ?_;have c:=sr G l k;have hk:=Ji l k;unfold dW fF at *
  generalize eT l=E at *
  generalize ba l k=x at *
  by_cases h:0<x.length
  ·rw[decide_eq_true h] at c;have g:=qS h;generalize x.getD 0 default=r at *
   simp only[Jm,ai,af,seval];refine sC (c) ?_;simp only[fo,hk,bc,g,bB,af,seval,iteOmega,toNatUp];exact aZ
  ·rw[decide_eq_false h] at c;obtain rfl:x=[]:=aqA.1 (by omega);rw[show (([]:List Ek).getD 0 default).bo=[] from rfl];simp only[Jm,ai,af,seval];refine sD (c) ?_;exact aZ
theorem vG {l:List Ek} {n:Nat} (h:∀ r∈l,r.bo.length≤n) (k:Int):(fF l k).length≤n:=by
  unfold fF;rcases aqk 0 (ba l k).length with h1 | h1
  ·exact h _ (arf.1 (oV h1)).1
  ·obtain h2:ba l k=[]:=aqA.1 (by omega);rw[h2]; exact apZ _
def TL:aO:=⟨2,15,ae [aQ 4] (ae [oM 8 0,oM 9 1,ct 10 122 8 9,aY 11 146 10,oM 7 11,aC 12 7 0,aC 13 7 1,oM 5 12,oM 6 13] (ae [oM 14 5,oM 4 14] .ret)),[(4,none)]⟩
theorem alV:aM Tryz.prog {} Tryz.f118=some TL:=by kernel_rfl
theorem wE (G:au) (l:List Ek) (k:Int) (h:∀ r∈l,r.bo.length≤1000000000):aF Tryz.prog G 118 [dW l,.int .i64 k] (.w (.c (.d (.sl ((cF l k).map zD))))):=by
  refine aX Tryz.func118 alV rfl rfl ?_;have c1:=Ku G l k;have c2:=UY G (fF l k) (vG h k);unfold cF dW at *
  generalize eT l=E at *
  generalize fF l k=B at *
  generalize iQ B=N at *
  simp only[TL,ai,af,seval];refine sD (c1) ?_;refine sD (c2) ?_;exact aZ
def uD (l:List Ek):Bool:=decide (0<(ba l 1).length)&&(decide (0<(ba l 4).length)&&(!decide (0<(ba l 2).length)&&(!decide (0<(ba l 3).length)&&!decide (0<(ba l 5).length))))
def vX:aO:=⟨1,24,ae [bG 2 false] (ae [oM 3 0,oO 4 (.call 77 [(.t 3),(kI 1)] none),oM 5 4,bJ 6 0 5 true,oG 7 (.call 77 [(.t 6),(kI 4)] none) 5 true,ek 8 5 7,oM 9 8,bJ 10 0 9 true,oG 11 (.call 77 [(.t 10),(kI 2)] none) 9 true,gn 12 11 9 true,ek 13 9 12,oM 14 13,bJ 15 0 14 true,oG 16 (.call 77 [(.t 15),(kI 3)] none) 14 true,gn 17 16 14 true,ek 18 14 17,oM 19 18,bJ 20 0 19 true,oG 21 (.call 77 [(.t 20),(kI 5)] none) 19 true,gn 22 21 19 true,ek 23 19 22,oM 2 23] .ret),[(2,none)]⟩
theorem alW:aM Tryz.prog {} Tryz.f70=some vX:=by kernel_rfl
theorem aoF (G:au) (l:List Ek):aF Tryz.prog G 70 [dW l] (.w (.c (.d (.bool (uD l))))):=by
  refine aX Tryz.func70 alW rfl rfl ?_;have c1:=sr G l 1;have c4:=sr G l 4;have c2:=sr G l 2;have c3:=sr G l 3;have c5:=sr G l 5;unfold uD;unfold dW at *
  generalize eT l=E at *
  generalize decide (0<(ba l 1).length)=b1 at *
  generalize decide (0<(ba l 4).length)=b4 at *
  generalize decide (0<(ba l 2).length)=b2 at *
  generalize decide (0<(ba l 3).length)=b3 at *
  generalize decide (0<(ba l 5).length)=b5 at *
  cases b1
  ·simp only[vX,ai,af,seval];refine sD (c1) ?_;exact aZ
  cases b4
  ·simp only[vX,ai,af,seval];refine sD (c1) ?_;refine sD (c4) ?_;exact aZ
  cases b2
  case true =>
    simp only[vX,ai,af,seval];refine sD (c1) ?_;refine sD (c4) ?_;refine sD (c2) ?_;exact aZ
  cases b3
  case true =>
    simp only[vX,ai,af,seval];refine sD (c1) ?_;refine sD (c4) ?_;refine sD (c2) ?_;refine sD (c3) ?_;exact aZ
  cases b5 <;> (
    simp only[vX,ai,af,seval];refine sD (c1) ?_;refine sD (c4) ?_;refine sD (c2) ?_;refine sD (c3) ?_;refine sD (c5) ?_;exact aZ
    skip)
def uE (k:Int) (x:List Ek):Bool :=
  if k=0 then decide (x.length=1∧(x.getD 0 default).bo.length=0)
  else if k=1∨k=4 then decide (x.length=1∧(x.getD 0 default).bo.length%2=0)
  else if k=6 then decide (x.length=1)
  else if k=7 then decide (x.length=1∧(x.getD 0 default).bo.length=2)
  else true
def kF:aO:=⟨2,52,ae [bG 4 false] (ae [oM 8 1,oO 9 (.idxSl 3 (.t 8) (kI 0)),aL 10 2 9,aA 11 10,oM 5 11] (.seq (ae [oM 12 0] (.block 0 (ae [ak .eql 14 12 0,oM 13 14] (ar 13 (ae [oM 15 1,bd 16 15,ak .eql 17 16 1,oM 18 17,bJ 19 5 18 true,eY 20 19 18 true,cC .eql 21 20 0 18 true,ek 22 18 21,oM 4 22] .ret) (.seq (ae [ak .eql 24 12 1,oM 23 24] (ar 23 .skip (.reg [ak .eql 25 12 4,oM 23 25]))) (ar 23 (ae [oM 27 5,aY 28 146 27,oM 26 28,aC 29 26 0,aC 30 26 1,oM 6 29,oM 7 30] (ae [oM 31 1,bd 32 31,ak .eql 33 32 1,oM 34 33,bJ 35 7 34 true,ek 36 34 35,oM 4 36] .ret)) (ae [ak .eql 38 12 6,oM 37 38] (ar 37 (ae [oM 39 1,bd 40 39,ak .eql 41 40 1,oM 4 41] .ret) (ae [ak .eql 43 12 7,oM 42 43] (ar 42 (ae [oM 44 1,bd 45 44,ak .eql 46 45 1,oM 47 46,bJ 48 5 47 true,
 eY 49 48 47 true,cC .eql 50 49 2 47 true,ek 51 47 50,oM 4 51] .ret) .skip)))))))))) (ae [bG 4 true] .ret))),[(4,none)]⟩
theorem alX:aM Tryz.prog {} Tryz.f114=some kF:=by kernel_rfl
theorem aoG (G:au) (k:Int) (x:List Ek) (hx:0<x.length) (hl:x.length≤1000000) (hb:(x.getD 0 default).bo.length≤1000000000):aF Tryz.prog G 114 [.int .i64 k,.sl (x.map bB)] (.w (.c (.d (.bool (uE k x))))):=by
  refine aX Tryz.func114 alX rfl rfl ?_;have g:=qS hx;have c:=UY G (x.getD 0 default).bo hb;unfold uE;generalize x.getD 0 default=r at *
  obtain⟨cr,ty,bo⟩:=r;dsimp only at *
  generalize iQ bo=nn at *
  by_cases k0:k=0
  ·rw[if_pos k0];subst k0;by_cases h1:x.length=1
   ·have g1:((x.length:Int)=1)=True:=eq_true (by omega);by_cases h2:bo.length=0
    ·rw[decide_eq_true ⟨h1,h2⟩];have g2:((bo.length:Int)=0)=True:=eq_true (by omega);simp only[kF,ai,af,seval,iteOmega,toNatUp,bc,g,bB,g1,g2];exact aZ
    ·rw[decide_eq_false (fun h=>h2 h.2)];have g2:((bo.length:Int)=0)=False:=eq_false (by omega);simp only[kF,ai,af,seval,iteOmega,toNatUp,bc,g,bB,g1,g2];exact aZ
   ·have g1:((x.length:Int)=1)=False:=eq_false (by omega);rw[decide_eq_false (fun h=>h1 h.1)];simp only[kF,ai,af,seval,iteOmega,toNatUp,bc,g,bB,g1];exact aZ
  ·rw[if_neg k0];have g0:=eq_false k0;by_cases k1:k=1
   ·rw[if_pos (.inl k1)];subst k1;by_cases h1:x.length=1
    ·have g1:((x.length:Int)=1)=True:=eq_true (by omega);by_cases h2:bo.length%2=0
     ·rw[decide_eq_true ⟨h1,h2⟩];rw[decide_eq_true h2] at c;simp only[kF,ai,af,seval,iteOmega,toNatUp,bc,g,bB];refine sC (c) ?_;simp only[g1,af,seval];exact aZ
     ·rw[decide_eq_false (fun h=>h2 h.2)];rw[decide_eq_false h2] at c;simp only[kF,ai,af,seval,iteOmega,toNatUp,bc,g,bB];refine sC (c) ?_;simp only[g1,af,seval];exact aZ
    ·have g1:((x.length:Int)=1)=False:=eq_false (by omega);rw[decide_eq_false (fun h=>h1 h.1)];generalize decide (bo.length%2=0)=d at *
     simp only[kF,ai,af,seval,iteOmega,toNatUp,bc,g,bB];refine sC (c) ?_;simp only[g1,af,seval];exact aZ
   ·have g1':=eq_false k1;by_cases k4:k=4
    ·rw[if_pos (.inr k4)];subst k4;by_cases h1:x.length=1
     ·have g1:((x.length:Int)=1)=True:=eq_true (by omega);by_cases h2:bo.length%2=0
      ·rw[decide_eq_true ⟨h1,h2⟩];rw[decide_eq_true h2] at c;simp only[kF,ai,af,seval,iteOmega,toNatUp,bc,g,bB];refine sC (c) ?_;simp only[g1,af,seval];exact aZ
      ·rw[decide_eq_false (fun h=>h2 h.2)];rw[decide_eq_false h2] at c;simp only[kF,ai,af,seval,iteOmega,toNatUp,bc,g,bB];refine sC (c) ?_;simp only[g1,af,seval];exact aZ
     ·have g1:((x.length:Int)=1)=False:=eq_false (by omega);rw[decide_eq_false (fun h=>h1 h.1)];generalize decide (bo.length%2=0)=d at *
      simp only[kF,ai,af,seval,iteOmega,toNatUp,bc,g,bB];refine sC (c) ?_;simp only[g1,af,seval];exact aZ
    ·have g4':=eq_false k4;rw[if_neg (fun h=>h.elim k1 k4)];by_cases k6:k=6
     ·rw[if_pos k6];subst k6;by_cases h1:x.length=1
      ·have g1:((x.length:Int)=1)=True:=eq_true (by omega);rw[decide_eq_true h1];simp only[kF,ai,af,seval,iteOmega,toNatUp,bc,g,bB,g1];exact aZ
      ·have g1:((x.length:Int)=1)=False:=eq_false (by omega);rw[decide_eq_false h1];simp only[kF,ai,af,seval,iteOmega,toNatUp,bc,g,bB,g1];exact aZ
     ·have g6':=eq_false k6;rw[if_neg k6];by_cases k7:k=7
      ·rw[if_pos k7];subst k7;by_cases h1:x.length=1
       ·have g1:((x.length:Int)=1)=True:=eq_true (by omega);by_cases h2:bo.length=2
        ·rw[decide_eq_true ⟨h1,h2⟩];have g2:((bo.length:Int)=2)=True:=eq_true (by omega);simp only[kF,ai,af,seval,iteOmega,toNatUp,bc,g,bB,g1,g2];exact aZ
        ·rw[decide_eq_false (fun h=>h2 h.2)];have g2:((bo.length:Int)=2)=False:=eq_false (by omega);simp only[kF,ai,af,seval,iteOmega,toNatUp,bc,g,bB,g1,g2];exact aZ
       ·have g1:((x.length:Int)=1)=False:=eq_false (by omega);rw[decide_eq_false (fun h=>h1 h.1)];simp only[kF,ai,af,seval,iteOmega,toNatUp,bc,g,bB,g1];exact aZ
      ·have g7':=eq_false k7;rw[if_neg k7];simp only[kF,ai,af,seval,iteOmega,toNatUp,bc,g,bB,g0,g1',g4',g6',g7'];exact aZ
structure Wk where
  left:List (Int×D)
  last:Option (Int×D)
theorem Lt {α:Type}:∀ (l:List α) (j:Nat) (p:α),l[j]?=some p→∀ x∈l,x∈l.eraseIdx j∨x=p
  | [],_,_,h,_,_=>by simp at h
  | a::l,0,p,h,x,hx=>by
    simp only[List.getElem?_cons_zero,ap2] at h;subst h;rcases aqh.1 hx with rfl | hx
    ·exact .inr rfl
    ·exact .inl hx
  | a::l,j+1,p,h,x,hx=>by
    rw[aqR] at h;rw[List.eraseIdx_cons_succ];rcases aqh.1 hx with rfl | hx
    ·exact .inl aqj
    ·rcases Lt l j p h x hx with h | h
     ·exact .inl (aqf _ h)
     ·exact .inr h
theorem O3 {α:Type} {l:List α} {j:Nat} {p:α} (h:l[j]?=some p):(l.eraseIdx j).length<l.length:=by
  obtain⟨h1,_⟩:=aqd.1 h;rw[List.length_eraseIdx,if_pos h1]; omega
def ox (l:List Ek) (P:Int→Prop) (t:Wk):Prop:=(∀ p∈t.left,p∈eT l)∧∀ p∈eT l,p∈t.left∨P p.1
theorem ox.start (l:List Ek) (P:Int→Prop):ox l P ⟨eT l,none⟩:=⟨fun _ h=>h,fun _ h=>.inl h⟩
theorem ox.next {l:List Ek} {P:Int→Prop} {t:Wk} (h:ox l P t) {j:Nat} {p:Int×D} (hj:t.left[j]?=some p) (hP:P p.1):ox l P ⟨t.left.eraseIdx j,some p⟩ :=
  ⟨fun x hx=>h.1 x (List.mem_of_mem_eraseIdx hx),fun x hx=>(h.2 x hx).elim (fun h1=>(Lt _ _ _ hj x h1).imp id (fun e:x=p=>by rw[e]; exact hP)) .inr⟩
theorem ox.done {l:List Ek} {P:Int→Prop} {t:Wk} (h:ox l P t) (he:t.left=[]) {k:Int} (hk:ba l k≠[]):P k:=by
  rcases h.2 _ (agp hk) with h1 | h1
  ·rw[he] at h1; cases h1
  ·exact h1
theorem agr {l:List Ek} {k:Int} (h:7<k) (ha:(ba l k).any (fun r=>r.cr)=true):ml l=true:=by
  obtain⟨r,h1,h2⟩:=aqP.1 ha;obtain⟨h3,h4⟩:=arf.1 h1;have h4:r.ty=k:=of_decide_eq_true h4;exact aqP.2 ⟨r,h3,by rw[h2,arZ,h4]; exact decide_eq_true h⟩
theorem alY {l:List Ek} (h:∀ k,ba l k≠[]→¬ (7<k∧(ba l k).any (fun r=>r.cr)=true)):ml l=false:=by
  refine aqU.2 fun r hr hq=>?_
  rw[aqm,decide_eq_true_eq] at hq;have hm:r∈ba l r.ty:=arf.2 ⟨hr,decide_eq_true rfl⟩;exact h r.ty (fun e=>by rw[e] at hm; cases hm) ⟨hq.2,aqP.2 ⟨r,hm,hq.1⟩⟩
def U9 (t:Wk):St:=⟨bw [(6,.w (.c (.ptr 1 1 0 0)))],hL [(1,.it .i64 t.left t.last)],uL [1]⟩
def O4:bp := .seq (.nextM 7 (.t 6) [aC 8 7 0]) (.seq (ar 8 .skip (.exit 0)) (.block 1 (ae [oO 9 (.mpEnt (.t 6)),aC 10 9 0,aC 11 9 1,oM 3 10,oM 4 11] (ae [oM 12 3,ak .gtr 13 12 7,oM 14 13,bJ 15 4 14 true,oG 16 (.call 115 [(.t 15),(.k (.c (.d (.fn 116 []))))] none) 14 true,ek 17 14 16] (ar 17 (ae [bG 2 true] .ret) .skip)))))
def TM:aO:=⟨1,18,ae [bG 2 false] (.seq (ae [oM 5 0,oO 6 (.mpIter (.t 5))] (.block 0 (.loop O4))) (ae [bG 2 false] .ret)),[(2,none)]⟩
theorem alZ:aM Tryz.prog {} Tryz.f72=some TM:=by kernel_rfl
theorem Va (G:au) (l:List Ek) (hl:l.length≤1000000):aF Tryz.prog G 72 [dW l] (.w (.c (.d (.bool (ml l))))):=by
  refine aX Tryz.func72 alZ rfl rfl ?_;unfold dW;have hst:=ox.start l fun k=>¬ (7<k∧(ba l k).any (fun r=>r.cr)=true)
  simp only[TM,ai,af,seval,fo];refine bO U9 (fun t=>t.left.length) (ox l fun k=>¬ (7<k∧(ba l k).any (fun r=>r.cr)=true)) ⟨eT l,none⟩ hst ?_ ?_
  ·refine aR (fun _=>48) ?_ ?_ rfl rfl <;> simp only[wx,aH,seval] <;> first | rfl | exact⟨rfl,rfl⟩ | skip
  ·rintro⟨left,last⟩ hI;simp only[O4,U9,af,seval];refine TF (id:=1) (s:=1) (q:=.i64) (left:=left) (last:=last) rfl rfl ?_ ?_
   ·intro he;rw[alY fun k hk=>hI.done he hk];simp only[af,seval];exact aZ
   ·intro j p hj;obtain⟨e1,e2⟩:=Re (hI.1 p (aqX hj));have hnx:=fun h=>hI.next hj h
    have hlt:=O3 hj;generalize left.eraseIdx j=left' at *
    clear hj hI;obtain⟨k,d⟩:=p;dsimp only at *
    obtain rfl:d=D.sl ((ba l k).map bB):=congrArg Prod.snd e1;clear e1;have c:=aoD G (ba l k) 116 [] (fun r=>r.cr) (by have:=List.length_filter_le (fun r:Ek=>decide (r.ty=k)) l; unfold ba; omega) fun x _=>aoE G x
    by_cases hk:k>7
    ·have g1:=eq_true hk;cases hc:(ba l k).any fun r=>r.cr
     ·rw[hc] at c;have hn:=hnx (fun h=>by rw[hc] at h; cases h.2);simp only[af,seval,fo,g1];refine sD (c) ?_;refine bA (⟨left',some (k,D.sl ((ba l k).map bB))⟩:Wk) hlt hn (aR (fun _=>1) ?_ ?_ rfl rfl) <;> simp only[wx,aH,seval] <;> first | rfl | exact⟨rfl,rfl⟩ | skip
     ·rw[agr hk hc];rw[hc] at c;simp only[af,seval,fo,g1];refine sD (c) ?_;exact aZ
    ·have g1:=eq_false hk;have hn:=hnx (fun h=>hk h.1);simp only[af,seval,fo,g1];refine bA (⟨left',some (k,D.sl ((ba l k).map bB))⟩:Wk) hlt hn (aR (fun _=>1) ?_ ?_ rfl rfl) <;> simp only[wx,aH,seval] <;> first | rfl | exact⟨rfl,rfl⟩ | skip
theorem Rh {l:List Ek} {k:Int} (h:(ba l k).length=1) {r:Ek} (hr:r∈l) (hk:r.ty=k):(ba l k).getD 0 default=r:=by
  have hm:r∈ba l k:=arf.2 ⟨hr,decide_eq_true hk⟩
  match hx:ba l k,h with
  | [x],_ =>
    rw[hx] at hm;rw[apY.1 hm]; rfl
theorem Jn {l:List Ek} {r:Ek} (hr:r∈l):ba l r.ty≠[]:=fun e=>by
  have hm:r∈ba l r.ty:=arf.2 ⟨hr,decide_eq_true rfl⟩;rw[e] at hm; cases hm
theorem Ri {l:List Ek} {k:Int} (h:ba l k≠[]):0<(ba l k).length:=Nat.pos_of_ne_zero fun e=>h (aqA.1 e)
theorem al3 (l:List Ek):ry l↔(0<l.length∧(l.getD (l.length-1) default).ty=0∧∀ k,ba l k≠[]→uE k (ba l k)=true):=by
  constructor
  ·rintro⟨⟨h1,h2,h3,h4,h5,h6,h7⟩,hb⟩;obtain⟨i1,i2⟩:=aj3 (l:=l) (k:=0) (j:=0) (by omega);have hg:=rM (l:=l) (k:=0) (j:=0) (by omega);rw[h2] at i1 i2;refine⟨by omega,i2,fun k hk=>?_⟩;have hp:=Ri hk;have hm:=arf.1 (oV hp);have hty:((ba l k).getD 0 default).ty=k:=of_decide_eq_true hm.2;have hb1:xq ((ba l k).getD 0 default):=hb _ hm.1;unfold uE;split
   ·rename_i e;subst e;rw[← dR,← hg];exact decide_eq_true ⟨h1,h3⟩
   ·split
    ·rename_i e;refine decide_eq_true ⟨?_,hb1.1 (by rw[hty]; exact e)⟩;rw[dR] at h4 h5;rcases e with rfl | rfl <;> omega
    ·split
     ·rename_i e;subst e;rw[dR] at h6;exact decide_eq_true (by omega)
     ·split
      ·rename_i e;subst e;rw[dR] at h7;exact decide_eq_true ⟨by omega,hb1.2 hty⟩
      ·rfl
  ·rintro⟨hl,h0,hf⟩;have hlast:l.getD (l.length-1) default∈l:=oV (by omega);have f0:=hf 0 (h0 ▸ Jn hlast);have f0:(ba l 0).length=1∧((ba l 0).getD 0 default).bo.length=0:=of_decide_eq_true f0;have few:∀ k,(k=1∨k=4∨k=6∨k=7)→(di l k).length≤1:=by
     intro k hk;rw[dR];by_cases he:ba l k=[]
     ·rw[he]; exact apZ _
     ·have:=hf k he;rcases hk with rfl | rfl | rfl | rfl
      ·exact Nat.le_of_eq (of_decide_eq_true this:_∧_).1
      ·exact Nat.le_of_eq (of_decide_eq_true this:_∧_).1
      ·exact Nat.le_of_eq (of_decide_eq_true this:_=1)
      ·exact Nat.le_of_eq (of_decide_eq_true this:_∧_).1
   have n0:(di l 0).length=1:=by rw[dR]; exact f0.1
   have hidx:(di l 0).getD 0 0=l.length-1:=by
     have hm:l.length-1∈di l 0:=arf.2 ⟨arH.2 (by omega),decide_eq_true h0⟩
     match hx:di l 0,n0 with
     | [x],_ =>
       rw[hx] at hm;rw[apY.1 hm]; rfl
   refine⟨⟨n0,hidx,?_,few 1 (by simp),few 4 (by simp),few 6 (by simp),few 7 (by simp)⟩,fun r hr=>⟨fun hk=>?_,fun hk=>?_⟩⟩
   ·rw[rM (by omega)]; exact f0.2
   ·have h1:=hf r.ty (Jn hr);have h2:(ba l r.ty).length=1∧((ba l r.ty).getD 0 default).bo.length%2=0:=by
      rcases hk with hk | hk <;> (rw[hk] at h1 ⊢; exact of_decide_eq_true h1)
    rw[Rh h2.1 hr rfl] at h2;exact h2.2
   ·have h1:=hf r.ty (Jn hr);have h2:(ba l r.ty).length=1∧((ba l r.ty).getD 0 default).bo.length=2:=by
      rw[hk] at h1 ⊢; exact of_decide_eq_true h1
    rw[Rh h2.1 hr rfl] at h2;exact h2.2
theorem acq {es:List (Int×List Ek)} {g:Nat→Nat} (h:∀ j,j<es.length→g (8*j+3)=8*j+3):(ee es 0).map (fun p=>(p.1,p.2.ren g))=ee es 0:=by
  refine aq2 fun j=>?_
  rw[aqH,yz];cases hj:es[j]? with
  | none=>rfl
  | some p =>
    have:=h j (aqd.1 hj).1;simp only[aq4,C.ren,aqO,this]
theorem acr (es:List (Int×List Ek)) (p:Int×List Ek):ee (es++[p]) 0=ee es 0++[(p.1,.own (8*es.length+3) 3 0 p.2.length)]:=by
  have key:∀ (es:List (Int×List Ek)) (b:Nat),ee (es++[p]) b=ee es b++[(p.1,.own (8*(b+es.length)+3) 3 0 p.2.length)]:=by
    intro es
    induction es with
    | nil=>intro b; rfl
    | cons q r ih=>intro b; rw[aqE,ee,ih,ee,aqx,show b+1+r.length=b+(r.length+1) by omega,aqE]
  rw[key,aqO]
theorem ags {es:List (Int×List Ek)} {j k:Nat} (hj:j<es.length) (p:Int×List Ek) {g:Nat→Nat} (h:∀ i,i≠j→g (8*i+3)=8*i+3) (hk:g (8*j+3)=k):(ee (es.set j p) 0).map (fun q=>(q.1,q.2.ren g))=(ee es 0).set j (p.1,.own k 3 0 p.2.length):=by
  refine aq2 fun i=>?_
  rw[aqH,yz,ar2,ar2,Rf];by_cases e:j=i
  ·subst e;rw[if_pos rfl,if_pos rfl,if_pos hj,if_pos hj];simp only[aq4,C.ren,aqO,hk]
  ·rw[if_neg e,if_neg e,yz];cases hi:es[i]? with
   | none=>rfl
   | some q=>simp only[aq4,C.ren,aqO,h i (fun q=>e q.symm)]
def oz (n:Nat):Nat→Nat:=fun i=>if i=8*n+3 then 392 else i
theorem y5 (n:Nat):oz n 1=1:=if_neg (by omega)
theorem tO (n:Nat):oz n (8*n+3)=392:=if_pos rfl
theorem qy {n j:Nat} (h:j≠n):oz n (8*j+3)=8*j+3:=if_neg (by omega)
theorem Rj (n j:Nat):oz n 1≠oz n (8*j+3):=by
  rw[y5];by_cases h:j=n
  ·rw[h,tO]; decide
  ·rw[qy h]; omega
theorem O5 {n i j:Nat} (h:oz n (8*i+3)=oz n (8*j+3)):i=j:=by
  by_cases h1:i=n <;> by_cases h2:j=n
  ·omega
  ·rw[h1,tO,qy h2] at h; omega
  ·rw[h2,tO,qy h1] at h; omega
  ·rw[qy h1,qy h2] at h; omega
theorem agt {σ:St} {fl:List (Nat×V)} {es:List (Int×List Ek)} {k:Int} {x:Ek} (h1:rm σ.f (oz es.length) fl) (hm:σ.h 1=some (.mp .i64 (ee es 0++[(k,.own 392 3 0 1)]))) (hw:σ.h 392=some (.row 3 [bB x]))
    (hr:∀ j,σ.h (8*j+3)=jq es (8*j+3)) (hf:(fl.flatMap fun p=>p.2.ids).all (fun i=>kO i)=true):fv σ ⟨bw fl,jq (es++[(k,[x])]),kO⟩:=by
  refine HU (oz es.length) h1 ?_ (fun j p hp=>?_) (Rj _) (fun i j _ _=>O5) hf
  ·rw[y5,hm,acr,ap8,acq fun j hj=>qy (by omega)];simp only[apW,ap4,C.ren,tO,aqw]
  ·by_cases h:j=es.length
   ·subst h;rw[aql (ap3 _),arE] at hp;cases hp;rw[tO,hw]; rfl
   ·rw[qy h,hr,CJ];rcases aqk j es.length with h2 | h2
    ·rw[aqM h2] at hp;rw[hp]; rfl
    ·rw[aql h2,aqI (by simp; omega)] at hp;cases hp
theorem agu {σ:St} {fl:List (Nat×V)} {es:List (Int×List Ek)} {j0:Nat} {k:Int} {y:List Ek} {x:Ek} (hj:es[j0]?=some (k,y)) (h1:rm σ.f (oz j0) fl) (hm:σ.h 1=some (.mp .i64 ((ee es 0).set j0 (k,.own 392 3 0 (y.length+1))))) (hw:σ.h 392=some (.row 3 (y.map bB++[bB x])))
    (hr:∀ j,j≠j0→σ.h (8*j+3)=jq es (8*j+3)) (hf:(fl.flatMap fun p=>p.2.ids).all (fun i=>kO i)=true):fv σ ⟨bw fl,jq (es.set j0 (k,y++[x])),kO⟩:=by
  have hlt:=(aqd.1 hj).1;refine HU (oz j0) h1 ?_ (fun j p hp=>?_) (Rj _) (fun i j _ _=>O5) hf
  ·rw[y5,hm,ags hlt (k,y++[x]) (k:=392) (fun i hi=>qy hi) (tO _),apS]; rfl
  ·rw[ar2] at hp;by_cases h:j0=j
   ·subst h;rw[if_pos rfl,if_pos hlt] at hp;cases hp;rw[tO,hw,ap8]; rfl
   ·rw[if_neg h] at hp;rw[qy fun e=>h e.symm,hr _ fun e=>h e.symm,CJ,hp]; rfl
def DC (l:List Ek) (i:Nat):St:=⟨bw [(4,.w (.c (.d (.sl (l.map bB))))),(6,.w (.c (.mp 1))),(34,.w (.c (.d (.sl (l.map bB))))),(35,.w (.c (.d (.int .i64 (l.length:Int))))),(36,.w (.c (.d (.int .i64 (i:Int)))))],jq (iU l i),kO⟩
def Vw (l:List Ek) (t:Wk):St:=⟨bw [(6,.w (.c (.d (dW l)))),(52,.w (.c (.ptr 1 1 0 0)))],hL [(1,.it .i64 t.left t.last)],uL [1]⟩
theorem agv (l:List Ek) (i:Nat) (hi:i≤l.length):∀ (j:Nat) (p:Int×List Ek),(iU l i)[j]?=some p→p.2.length≤l.length:=by
  intro j p hp;have hm:=aqX hp;have h1:=HT (FS l i) (show (p.1,p.2)∈iU l i from hm);rw[Jg l i hi] at h1;split at h1
  ·cases h1
  ·rw[← Option.some.inj h1];have:=List.length_filter_le (fun r:Ek=>decide (r.ty=p.1)) (l.take i);rw[ap0] at this;unfold ba;omega
def Bc:bp := ae [aU .lss 37 36 35] (.seq (ar 37 .skip (.exit 0)) (.seq (.block 1 (ae [bU 38 3 34 36,bn 39 3 38,oO 8 (.alloc [cD,ah,.nil]),aS 3 8 39] (.reg [oM 40 6,aL 41 1 8,oO 42 (.loadB .sc (.t 41)),oM 43 6,aL 44 1 8,oO 45 (.loadB .sc (.t 44)),oO 46 (.mpGet .i64 (.sl []) false (.t 43) (.t 45)),oO 47 (.loadB (.ag 3) (.t 8)),oO 48 (.bldSl false 1 3 (.agg [(.bool false),dH,(.sl [])]) [(0,(.t 47))]),oO 49 (.app false 3 40 (.t 46) (.t 48)),oN (.mpSet .i64 (.t 40) (.t 42) (.t 49))]))) (.reg [ak .add 50 36 1,oM 36 50])))
def O6:bp := .seq (.nextM 53 (.t 52) [aC 54 53 0]) (.seq (ar 54 .skip (.exit 2)) (.block 3 (ae [oO 55 (.mpEnt (.t 52)),aC 56 55 0,aC 57 55 1,oM 9 56,oM 10 57] (ae [oM 58 9,oM 59 10,ct 60 114 58 59,cW 61 60] (ar 61 (ae [oO 2 (.mv (.k (.c (.d (.mp .i64 []))))),bG 3 false] .ret) .skip)))))
def y6:aO:=⟨1,63,ae [oO 2 (.mv (.k (.c (.d (.mp .i64 []))))),bG 3 false] (ae [oM 12 0,aY 13 113 12,oM 11 13,aC 14 11 0,aC 15 11 1,oM 4 14,oM 5 15] (.seq (ae [oM 16 5,ak .neq 17 16 0,oM 18 17,bJ 19 4 18 false,eY 20 19 18 false,cC .eql 21 20 0 18 false,cv 22 18 21,oM 23 22,bJ 24 4 23 false,bJ 25 4 23 false,eY 26 25 23 false,cC .sub 27 26 1 23 false,oG 28 (.idxSl 3 (.t 24) (.t 27)) 23 false,dF 29 1 28 23 false,dt 30 29 23 false,cC .neq 31 30 0 23 false,cv 32 23 31] (ar 32 (ae [oO 2 (.mv (.k (.c (.d (.mp .i64 []))))),bG 3 false] .ret) .skip)) (ae [oO 33 (.mkMp .i64 none),oM 6 33] (.seq (ae [oM 34 4,bd 35 34,am 36 0] (.block 0 (.loop Bc))) (.seq (.seq (.ghost 6 (.reg [oM 51 6,oO 52 (.mpIter (.t 51))])) (.block 2 (.loop O6))) (ae [oM 62 6,oM 2 62,bG 3 true]
 .ret)))))),[(2,none),(3,none)]⟩
theorem al8:aM Tryz.prog { bx:=[42,45,47],gh:=[(10,6)] } Tryz.f69=some y6:=by kernel_rfl
theorem Kv (G:au) (b:List UInt8) (hb:b.length≤1000000000):aF Tryz.prog G 69 [.sl (b.map bD)] (.tup [.c (.d (dW (mW b))),.c (.d (.bool (decide (iE b))))]):=by
  refine aX Tryz.func69 al8 rfl rfl ?_;have c:=aoA G b hb;have hno:¬ iE b→mW b=[]∧decide (iE b)=false:=fun h=>⟨if_neg h,decide_eq_false h⟩
  by_cases he:gQ b=0
  ·obtain⟨q1,q2,q3,q4⟩:=Uf he;have hyes:ry (br b)→mW b=br b∧decide (iE b)=true:=fun h=>⟨if_pos ⟨he,h⟩,decide_eq_true ⟨he,h⟩⟩
   have hno:¬ ry (br b)→mW b=[]∧decide (iE b)=false:=fun h=>hno fun h2=>h h2.2
   have h64:=(wg q1).2.1;have hbo:∀ r∈br b,r.bo.length≤65535:=fun r hr=>(r9 (q4 r hr)).2.2
   have hfm:=al3 (br b);rw[he] at c;generalize br b=l at *
   by_cases h0:0<l.length
   ·have g:=qS (l:=l) (i:=l.length-1) (by omega);have gl:((l.length:Int)=0)=False:=eq_false (by omega);have gt:((l.length:Int)-1).toNat=l.length-1:=by omega
    by_cases h1:(l.getD (l.length-1) default).ty=0
    ·have gty:=eq_true h1;have az:=u4 l;obtain⟨R,hR⟩:∃ R,R=l.getD (l.length-1) default:=⟨_,rfl⟩
     rw[← hR] at g gty;have hfm2:ry l↔∀ k,ba l k≠[]→uE k (ba l k)=true:=⟨fun h=>(hfm.1 h).2.2,fun h=>hfm.2 ⟨h0,h1,h⟩⟩
     clear hfm q1 q2 q3 q4 hR h1;obtain⟨Rc,Rt,Rb⟩:=R;dsimp only at gty;simp only[y6,ai,af,seval];refine sC (c) ?_;simp only[gl,gt,bc,g,bB,gty,fo,af,seval,iteOmega];refine bO (DC l) (fun i=>l.length-i) (fun i=>i≤l.length) 0 (apZ _) ?_ ?_
     ·refine HU (fun i=>if i=1 then 264 else 0) ?_ ?_ (fun j p hp=>by cases hp) (fun j=>?_) (fun i j hi=>by cases hi) rfl
      ·simp only[wx,aH,seval,fo]
      ·simp only[af,seval]; rfl
      ·rw[if_pos rfl,if_neg (by omega)]; decide
     ·intro i hi;have u64:kO 64=false:=Jj 8;have u392:kO 392=false:=Jj 49;have h1r:=alO (iU l i);by_cases hlt:i<l.length
      ·have g:=qS hlt;have hst:iU l (i+1)=dD (iU l i) (l.getD i default).ty ((bL (iU l i) (l.getD i default).ty).getD []++[l.getD i default]):=rfl;have hln:=agv l i hi;generalize l.getD i default=x at *
       obtain⟨es,hes⟩:∃ es,es=iU l i:=⟨_,rfl⟩
       rw[← hes] at hst h1r hln;obtain⟨X,hX⟩:∃ X,X=x:=⟨_,rfl⟩
       rcases TH es 0 x.ty with ⟨m1,m2⟩ | ⟨j,y,m1,m2,m3,m4⟩
       ·rw[m2] at hst;rw[arv,aqz,GM _ m2,← hX] at hst;have p1:=fun c=>GM (es:=ee es 0) (k:=x.ty) c m1
        obtain⟨xc,xt,xb⟩:=x;dsimp only at *
        simp only[Bc,DC,← hes,af,aa,seval,iteOmega,toNatUp,bc,g,bB,fo,u64,u392,h1r,m1,p1,cg];refine bA (i+1) (by omega) (by omega) ?_
        show fv _ ⟨bw _,jq (iU l (i+1)),kO⟩
        rw[hst,hX];refine agt ?_ ?_ ?_ (fun j=>by dsimp only; rw[upd_ne _ _ (by omega),upd_ne _ _ (by omega),upd_ne _ _ (by omega),upd_ne _ _ (by omega)]) rfl
        ·simp only[wx,aH,aV,seval,fo,y5] <;> first | rfl | exact⟨rfl,rfl⟩ | skip
        ·simp only[af,seval]
        ·simp only[af,seval,bB]
       ·rw[m1] at hst;rw[aq9,(m4 .nil).2,← hX] at hst;rw[aqO] at m3;have p1:=fun c=>(m4 c).1
        have hyl:=hln j _ m2;dsimp only at hyl;have hrow:jq es (8*j+3)=some (.row 3 (y.map bB)):=by rw[CJ,m2]; rfl
        have n1:(8*j+3==64)=false:=by rw[beq_eq_false_iff_ne]; omega
        have n2:(1==8*j+3)=false:=by rw[beq_eq_false_iff_ne]; omega
        have az2:=u4 y;obtain⟨xc,xt,xb⟩:=x;dsimp only at *
        simp only[Bc,DC,← hes,af,aa,seval,iteOmega,toNatUp,bc,g,bB,fo,u64,u392,h1r,m3,p1,cg,n1,n2,hrow];refine bA (i+1) (by omega) (by omega) ?_
        show fv _ ⟨bw _,jq (iU l (i+1)),kO⟩
        rw[hst,hX];refine agu m2 ?_ ?_ ?_ (fun i hi=>by dsimp only; rw[upd_ne _ _ (by omega),upd_ne _ _ (by omega),upd_ne _ _ (by omega),upd_ne _ _ (by omega),upd_ne _ _ (by omega)]) rfl
        ·simp only[wx,aH,aV,seval,fo,y5] <;> first | rfl | exact⟨rfl,rfl⟩ | skip
        ·simp only[af,seval]
        ·simp only[af,seval,bB]
      ·obtain rfl:i=l.length:=by omega
       have u416:kO 416=false:=Jj 52;simp only[Bc,DC,af,seval,iteOmega];refine alM (id:=1) (q:=.i64) (es:=ee (iU l l.length) 0) (ds:=eT l) rfl h1r (Y4 _) ?_;generalize upd (killAll (jq (iU l l.length)) ((ee (iU l l.length) 0).map (·.2))) 1 none=K;simp only[af,seval,fo,u416];refine bO (Vw l) (fun t=>t.left.length) (ox l fun k=>uE k (ba l k)=true) ⟨eT l,none⟩ (ox.start l _) ?_ ?_
       ·refine aR (fun _=>416) ?_ ?_ rfl rfl <;> simp only[wx,aH,seval,dW] <;> first | rfl | exact⟨rfl,rfl⟩ | skip
       ·rintro⟨left,last⟩ hI;simp only[O6,Vw,dW,af,seval];refine TF (id:=1) (s:=1) (q:=.i64) (left:=left) (last:=last) rfl rfl ?_ ?_
        ·intro hle;obtain⟨e1,e2⟩:=hyes (hfm2.2 fun k hk=>hI.done hle hk);rw[e1,e2];simp only[af,seval];exact bz
        ·intro j p hj;obtain⟨e1,e2⟩:=Re (hI.1 p (aqX hj));have hnx:=fun h=>hI.next hj h
         have hle:=O3 hj;generalize left.eraseIdx j=left' at *
         clear hj hI;obtain⟨k,d⟩:=p;dsimp only at *
         obtain rfl:d=D.sl ((ba l k).map bB):=congrArg Prod.snd e1;clear e1;have hp:=Ri e2;have c2:=aoG G k (ba l k) hp (by have:=List.length_filter_le (fun r:Ek=>decide (r.ty=k)) l; unfold ba; omega) (by have:=hbo _ (arf.1 (oV hp)).1; unfold ba; omega);cases hc:uE k (ba l k)
         ·rw[hc] at c2;obtain⟨e1,e3⟩:=hno fun h=>by have:=hfm2.1 h k e2; rw[hc] at this; cases this
          rw[e1,e3,show eT []=[] from rfl];simp only[af,seval,fo];refine sD (c2) ?_;exact bz
         ·rw[hc] at c2;have hn:=hnx hc;simp only[af,seval,fo];refine sD (c2) ?_;refine bA (⟨left',some (k,D.sl ((ba l k).map bB))⟩:Wk) hle hn (aR (fun _=>1) ?_ ?_ rfl rfl) <;> simp only[wx,aH,seval,dW] <;> first | rfl | exact⟨rfl,rfl⟩ | skip
    ·obtain⟨e1,e2⟩:=hno fun h=>h1 (hfm.1 h).2.1
     rw[e1,e2,yy];have gty:=eq_false h1;generalize l.getD (l.length-1) default=R at *
     obtain⟨Rc,Rt,Rb⟩:=R;dsimp only at gty;simp only[y6,ai,af,seval];refine sC (c) ?_;simp only[gl,gt,bc,g,bB,gty,af,seval,iteOmega];exact bz
   ·obtain⟨e1,e2⟩:=hno fun h=>h0 (hfm.1 h).1
    rw[e1,e2,yy];have gl:((l.length:Int)=0)=True:=eq_true (by omega);simp only[y6,ai,af,seval];refine sC (c) ?_;simp only[gl,af,seval];exact bz
  ·obtain⟨e1,e2⟩:=hno fun h=>he h.1
   rw[e1,e2,yy];have g1:(gQ b=0)=False:=eq_false he;generalize gQ b=e at *
   generalize br b=l at *
   simp only[y6,ai,af,seval];refine sC (c) ?_;simp only[g1,af,seval];exact bz
def EG (id:Int):Bool:=decide (0≤id∧id≤4294967295)
def BQ:aO:=⟨1,9,ae [bG 2 false] (ae [oM 3 0,oO 4 (.bin .leq (kI 0) (.t 3)),oM 5 4,bJ 6 0 5 true,cC .lss 7 6 4294967296 5 true,ek 8 5 7,oM 2 8] .ret),[(2,none)]⟩
theorem agw:aM Tryz.prog {} Tryz.f82=some BQ:=by kernel_rfl
theorem al9 (G:au) (id:Int):aF Tryz.prog G 82 [.int .i64 id] (.w (.c (.d (.bool (EG id))))):=by
  refine aX Tryz.func82 agw rfl rfl ?_;unfold EG;by_cases h1:0≤id
  ·by_cases h2:id<4294967296
   ·have g1:(0≤id)=True:=eq_true h1;have g2:(id<4294967296)=True:=eq_true h2;rw[decide_eq_true (show 0≤id∧id≤4294967295 by omega)];simp only[BQ,ai,af,seval,g1,g2];exact aZ
   ·have g1:(0≤id)=True:=eq_true h1;have g2:(id<4294967296)=False:=eq_false h2;rw[decide_eq_false (show ¬ (0≤id∧id≤4294967295) by omega)];simp only[BQ,ai,af,seval,g1,g2];exact aZ
  ·have g1:(0≤id)=False:=eq_false h1;rw[decide_eq_false (show ¬ (0≤id∧id≤4294967295) by omega)];simp only[BQ,ai,af,seval,g1];exact aZ
def Rk:aO:=⟨2,15,ae [aQ 4] (ae [oM 8 0,oM 9 1,oO 10 (.s2b false (.t 9)),oO 11 (.call 83 [(.t 8),(.t 10),(kI 32)] none),oM 7 11,aC 12 7 0,aC 13 7 1,oM 5 12,oM 6 13] (ae [oM 14 5,oM 4 14] .ret)),[(4,none)]⟩
theorem agx:aM Tryz.prog {} Tryz.f34=some Rk:=by kernel_rfl
theorem ama (G:au) (hF:G.at 0=some (.ra (dY.map wD))) (hG:G.at 1=some (.ra (cy.map wD))) (key:List UInt8) (s:ByteArray) (hk:key.length=32) (hi:s.size≤1000):aF Tryz.prog G 34 [.sl (key.map bD),.str s] (.w (.c (.d (.sl ((j5 key s.data.toList 32).map bD))))):=by
  refine aX Tryz.func34 agx rfl rfl ?_;have hl:s.data.toList.length=s.size:=rfl;have hm:s.size≤maxLen:=by unfold maxLen; omega
  have c:=Df G hF hG key s.data.toList (by omega) (by omega) 32 (by decide) (by decide);rw[(vB key s.data.toList).1,(vB key s.data.toList).2] at c;generalize j5 key s.data.toList 32=K at *
  simp only[Rk,ai,af,seval,hm];refine sD (c) ?_;exact aZ
def HV:aO:=⟨1,35,ae [am 2 0,oO 3 (.alloc [.nil,.nil]),bG 4 false] (ae [oM 12 0,oO 13 (.call 110 [(.t 12),(kI 4)] none),oM 11 13,aC 14 11 0,aC 15 11 1,aC 16 11 2,oM 5 14,oM 6 15,oM 7 16] (.seq (ae [oM 17 5,oO 18 (.slice 1 (.t 17) (some (kI 2)) none none),aY 19 68 18,oO 20 (.bin .neq (.t 19) (.k (.c aW)))] (ar 20 (ae [oO 21 (.build [.nil,.nil] []),am 2 0,aS 2 3 21,bG 4 false] .ret) .skip)) (ae [oM 23 6,oO 24 (.call 110 [(.t 23),(kI 32)] none),oM 22 24,aC 25 22 0,aC 26 22 1,aC 27 22 2,oM 8 25,oM 9 26,oM 10 27] (ae [oM 28 5,oO 29 (.slice 1 (.t 28) none (some (kI 2)) none),aY 30 68 29,oO 31 (.conv .i64 (.t 30)),oM 32 8,oM 33 9,oO 34 (.build [.nil,.nil] [(0,1,(.t 32)),(1,1,(.t 33))]),oM 2 31,aS 2 3 34,bG 4 true] .ret)))),[(2,none),(3,(some (.ag 2))),(4,none)]⟩
theorem agy:aM Tryz.prog {} Tryz.f97=some HV:=by kernel_rfl
theorem amb (G:au) (V:List UInt8) (hV:V.length=68):aF Tryz.prog G 97 [.sl (V.map bD)] (if V.getD 2 0=0∧V.getD 3 0=0 then .tup [.c (.d (.int .i64 (bq (aK V 0 2):Int))),.c (.d (gD (aK V 4 32) (aK V 36 32))),.c (.d (.bool true))] else .tup [.c (.d (.int .i64 0)),.c (.d (gD [] [])),.c (.d (.bool false))]):=by
  refine aX Tryz.func97 agy rfl rfl ?_;have c1:=tK G V 4 (by omega) (by omega);have c2:=tK G (V.drop 4) 32 (by simp; omega) (by simp; omega);have c3:=kH G ((V.take 4).drop 2) (by simp; omega);have c4:=kH G ((V.take 4).take 2) (by simp; omega);have e1:(V.take 4).take 2=aK V 0 2:=by unfold aK; rw[arU]; rfl
  have e2:(V.drop 4).take 32=aK V 4 32:=rfl;have e3:(V.drop 4).drop 32=aK V 36 32:=by
    unfold aK;rw[arx,apX (by simp; omega)]
  have hz:bq ((V.take 4).drop 2)=0↔V.getD 2 0=0∧V.getD 3 0=0:=by
    have:(V.take 4).drop 2=[V.getD 2 0,V.getD 3 0]:=by
      match V,hV with
      | a::b::c::d::l,_=>rfl
    rw[this];generalize V.getD 2 0=a;generalize V.getD 3 0=b;have ha:=a.toNat_lt;have hb:=b.toNat_lt;have e:bq [a,b]=a.toNat*256+b.toNat:=by simp only[bq,List.foldl]; omega
    rw[e];constructor
    ·intro h;exact⟨UInt8.toNat_inj.1 (show a.toNat=0 by omega),UInt8.toNat_inj.1 (show b.toNat=0 by omega)⟩
    ·rintro⟨rfl,rfl⟩;rfl
  have l4:((V.take 4).drop 2).length=2:=by simp; omega
  have t4:((V.take 4).drop 2).take 2=(V.take 4).drop 2:=apX (by omega);have l5:(V.take 4).length=4:=by simp; omega
  have b4:=(jk 2 (aK V 0 2) (fp (by omega)) (by decide)).1;rw[e1] at c4;rw[e2,e3] at c2;by_cases h:V.getD 2 0=0∧V.getD 3 0=0
  ·rw[if_pos h];rw[hz.2 h] at c3;simp only[HV,ai,af,seval];refine sC (c1) ?_;simp only[l5,t4,af,seval,toNatUp];refine sD (c3) ?_;refine sC (c2) ?_;simp only[e1,l5,af,seval,toNatUp];refine bM c4 (by simp only[af,seval]) (.inl rfl) ?_;simp only[af,aa,seval,iteOmega];exact lS (by simp only[af,seval] <;> rfl) (by simp only[af,seval] <;> rfl) (by simp only[af,seval])
  ·rw[if_neg h];have g:(((bq ((V.take 4).drop 2):Nat):Int)=0)=False:=eq_false (by have:=mt hz.1 h; omega);simp only[HV,ai,af,seval];refine sC (c1) ?_;simp only[l5,t4,af,seval,toNatUp];refine sC (c3) ?_;simp only[g,af,aa,seval];exact lS (by simp only[af,seval] <;> rfl) (by simp only[af,seval] <;> rfl) (by simp only[af,seval])
def HW:aO:=⟨1,11,ae [am 2 0,am 3 0] (.seq (ae [oM 4 0,bd 5 4,ak .neq 6 5 104] (ar 6 (ae [am 2 0,am 3 3] .ret) .skip)) (ae [oM 7 0,oO 8 (.slice 1 (.t 7) none (some (kI 4)) none),aY 9 68 8,oO 10 (.conv .i64 (.t 9)),oM 2 10,am 3 0] .ret)),[(2,none),(3,none)]⟩
theorem agz:aM Tryz.prog {} Tryz.f94=some HW:=by kernel_rfl
theorem amc (G:au) (c:List UInt8) (hc:c.length≤9223372036854775807):aF Tryz.prog G 94 [.sl (c.map bD)] (.tup [.c (.d (.int .i64 (kg c:Int))),.c (.d (.int .i64 (zY c)))]):=by
  refine aX Tryz.func94 agz rfl rfl ?_;unfold kg zY;by_cases h:c.length=104
  ·rw[if_neg (by omega),if_neg (by omega)];have c1:=kH G (aK c 0 4) (by rw[fp (by omega)]; decide);have b1:=(jk 4 (aK c 0 4) (fp (by omega)) (by decide)).1;have t1:c.take 4=aK c 0 4:=rfl;generalize bq (aK c 0 4)=n at *
   simp only[HW,ai,af,seval,toNatUp,h,t1];refine sC c1 ?_;simp only[af,seval,iteOmega];exact bz
  ·rw[if_pos h,if_pos h];simp only[HW,ai,af,seval,iteOmega];exact bz
def rB (l:List Fd):Nat→List (Int×D)
  | 0=>[]
  | i+1=>dD (rB l i) (l.getD i default).ty (.bool true)
theorem Vb (l:List Fd) (y:Int):∀ i,bL (rB l i) y=if ∃ k,k<i∧(l.getD k default).ty=y then some (.bool true) else none
  | 0=>by simp[rB,agm]
  | i+1=>by
    simp only[rB,Q9,Vb l y i];by_cases h:y=(l.getD i default).ty
    ·rw[if_pos h,if_pos ⟨i,by omega,h.symm⟩]
    ·rw[if_neg h];by_cases h2:∃ k,k<i∧(l.getD k default).ty=y
     ·obtain⟨k,h3,h4⟩:=h2;rw[if_pos ⟨k,h3,h4⟩,if_pos ⟨k,by omega,h4⟩]
     ·have h5:¬ ∃ k,k<i+1∧(l.getD k default).ty=y:=by
        rintro⟨k,h3,h4⟩;rcases aqk k i with g | g
        ·exact h2 ⟨k,g,h4⟩
        ·obtain rfl:k=i:=by omega
         exact h h4.symm
      rw[if_neg h2,if_neg h5]
def uU:bp := ae [aU .lss 21 20 19] (.seq (ar 21 .skip (.exit 0)) (.seq (.block 1 (ae [bU 22 2 18 20,bn 23 2 22,oO 5 (.alloc [ah,.nil]),aS 2 5 23] (.seq (ae [aL 24 0 5,aA 25 24,aY 26 82 25,cW 27 26,oM 28 27,bJ 29 3 28 false,dF 30 0 5 28 false,dt 31 30 28 false,oG 32 (.mpGet .i64 (.bool false) false (.t 29) (.t 31)) 28 false,cv 33 28 32,oM 34 33,dF 35 1 5 34 false,dt 36 35 34 false,eY 37 36 34 false,cC .neq 38 37 32 34 false,cv 39 34 38] (ar 39 (ae [bG 2 false] .ret) .skip)) (.reg [oM 40 3,aL 41 0 5,aA 42 41,oN (.mpSet .i64 (.t 40) (.t 42) (.k (.c (.d (.bool true)))))])))) (.reg [ak .add 43 20 1,oM 20 43])))
def BR:aO:=⟨1,44,ae [cX 1 0,bG 2 false] (.seq (ae [aL 6 0 1,aA 7 6,bd 8 7,ak .lss 9 8 1,oM 10 9,dF 11 0 1 10 false,dt 12 11 10 false,eY 13 12 10 false,cC .gtr 14 13 4 10 false,cv 15 10 14] (ar 15 (ae [bG 2 false] .ret) .skip)) (ae [oO 16 (.mkMp .i64 none),oM 3 16] (.seq (ae [aL 17 0 1,aA 18 17,bd 19 18,am 20 0] (.block 0 (.loop uU))) (ae [bG 2 true] .ret)))),[(2,none)]⟩
theorem agA:aM Tryz.prog {} Tryz.f33=some BR:=by kernel_rfl
def xB (l:List Fd) (i:Nat):St:=⟨bw [(3,.w (.c (.mp 1))),(18,.w (.c (.d (.sl (l.map bf))))),(19,.w (.c (.d (.int .i64 (l.length:Int))))),(20,.w (.c (.d (.int .i64 (i:Int)))))],hL [(1,.mp .i64 (lO (rB l i)))],uL [1]⟩
theorem CL (G:au) (l:List Fd) (hl:l.length≤9223372036854775807):aF Tryz.prog G 33 [cH l] (.w (.c (.d (.bool (decide (eR l)))))):=by
  refine aX Tryz.func33 agA rfl rfl ?_;unfold cH;rcases aqk l.length 1 with h1 | h1
  ·have hno:¬ eR l:=fun h=>by have:=h.1; omega
   rw[decide_eq_false hno];simp only[BR,ai,af,seval,iteOmega];exact aZ
  ·rcases aqk 4 l.length with h4 | h4
   ·have hno:¬ eR l:=fun h=>by have:=h.2.1; omega
    have g4:((l.length:Int)>4)=True:=eq_true (by omega);rw[decide_eq_false hno];simp only[BR,ai,af,seval,iteOmega,g4];exact aZ
   ·have g4:((l.length:Int)>4)=False:=eq_false (by omega);simp only[BR,ai,af,seval,iteOmega,fo,g4];refine bO (xB l) (fun i=>l.length-i) (fun i=>i≤l.length∧∀ j,j<i→ny (l.getD j default)∧∀ k,k<j→(l.getD k default).ty≠(l.getD j default).ty) 0 ⟨apZ _,fun j hj=>by omega⟩ ?_ ?_
    ·refine aR (fun i=>128) ?_ ?_ rfl rfl <;> simp only[wx,aH,seval,rB,fo]
    ·rintro i ⟨hi,hok⟩;by_cases hlt:i<l.length
     ·have g:=kM hlt;have hno:¬ ny (l.getD i default)→¬ eR l:=fun h hr=>h (pq hr hlt).1
      have hno2:∀ k,k<i→(l.getD k default).ty=(l.getD i default).ty→¬ eR l:=fun k hk e hr=>(pq hr hlt).2 k hk e
      have hgo:ny (l.getD i default)→(∀ k,k<i→(l.getD k default).ty≠(l.getD i default).ty)→∀ j,j<i+1→ny (l.getD j default)∧∀ k,k<j→(l.getD k default).ty≠(l.getD j default).ty:=fun a b j hj=>by
        rcases aqk j i with h | h
        ·exact hok j h
        ·obtain rfl:j=i:=by omega
         exact⟨a,b⟩
      have hms:=Vb l (l.getD i default).ty i;have hst:rB l (i+1)=dD (rB l i) (l.getD i default).ty (.bool true):=rfl;have ci:=al9 G (l.getD i default).ty;by_cases h0:0≤(l.getD i default).ty∧(l.getD i default).ty≤4294967295
      ·rw[show EG (l.getD i default).ty=true from decide_eq_true h0] at ci;by_cases h5:∃ k,k<i∧(l.getD k default).ty=(l.getD i default).ty
       ·obtain⟨k,h6,h7⟩:=h5;rw[if_pos ⟨k,h6,h7⟩] at hms;rw[decide_eq_false (hno2 k h6 h7)];simp only[uU,xB,af,aa,seval,iteOmega,toNatUp,fo,bc,g,bf];refine sC (ci) ?_;simp only[fo,hms,af,seval];exact aZ
       ·rw[if_neg h5] at hms;by_cases h3:(l.getD i default).da.length=32
        ·simp only[uU,xB,af,aa,seval,iteOmega,toNatUp,fo,bc,g,bf];refine sC (ci) ?_;simp only[fo,hms,h3,af,seval,iteOmega];refine bA (i+1) (by omega) ⟨by omega,hgo ⟨by omega,by omega,h3⟩ fun k hk e=>h5 ⟨k,hk,e⟩⟩ (aR (fun _=>1) ?_ ?_ rfl (by simp only[aqb,ar5,Ob.ids,Q8]; rfl)) <;> simp only[wx,aH,aV,seval,fo,rB]
        ·rw[decide_eq_false (hno fun h=>h3 h.2.2)];have h4':(((l.getD i default).da.length:Int)=32)=False:=eq_false (by omega);simp only[uU,xB,af,aa,seval,iteOmega,toNatUp,fo,bc,g,bf];refine sC (ci) ?_;simp only[fo,hms,h4',af,seval];exact aZ
      ·rw[show EG (l.getD i default).ty=false from decide_eq_false h0] at ci;rw[decide_eq_false (hno fun h=>h0 ⟨h.1,h.2.1⟩)];simp only[uU,xB,af,aa,seval,iteOmega,toNatUp,fo,bc,g,bf];refine sD (ci) ?_;exact aZ
     ·obtain rfl:i=l.length:=by omega
      rw[decide_eq_true (SZ (by omega) (by omega) hok)];simp only[uU,xB,af,seval,iteOmega];exact aZ
def Vd (l T:List Fd) (ni:Int) (i:Nat):St:=⟨bw [(2,.w (.c (.ptr 2 1 0 0))),(5,.w (.c (.d (.int .i64 ni)))),(6,.w (.c (.own 1 2 0 (fb l i).length))),(33,.w (.c (.d (.sl (T.map bf))))),(34,.w (.c (.d (.int .i64 (T.length:Int))))),(35,.w (.c (.d (.int .i64 (i:Int)))))],hL [(1,.row 2 ((fb l i).map bf)),(2,.box [.nil])],uL [1,2]⟩
theorem acs {l:List Fd} (h:0≤(l.getD 0 default).ty):((l.getD 0 default).ty+1).tmod 4294967296=gS l:=by
  unfold gS;exact Int.tmod_eq_emod_of_nonneg (by omega)
def AL:bp := ae [aU .lss 36 35 34] (.seq (ar 36 .skip (.exit 0)) (.seq (.block 1 (ae [bU 37 2 33 35,bn 38 2 37,oO 8 (.alloc [ah,.nil]),aS 2 8 38] (.seq (ae [aL 39 0 8,aA 40 39,oM 41 5,aU .eql 42 40 41] (ar 42 (ae [oO 43 (.build [.nil] []),aS 1 2 43,am 3 7] .ret) .skip)) (.reg [oM 44 6,aL 45 0 8,aA 46 45,aL 47 1 8,aA 48 47,oO 49 (.bldSl false 1 1 (.sl []) [(0,(.t 48))]),aY 50 35 49,oO 51 (.build [ah,.nil] [(0,1,(.t 46)),(1,1,(.t 50))]),oO 52 (.bldSl false 1 2 (.agg [dH,(.sl [])]) [(0,(.t 51))]),oO 53 (.app false 2 32 (.t 44) (.t 52)),oM 6 53])))) (.reg [ak .add 54 35 1,oM 35 54])))
def HX:aO:=⟨1,57,ae [cX 1 0,oO 2 (.alloc [.nil]),am 3 0] (.seq (ae [bn 9 1 1,aY 10 33 9,cW 11 10] (ar 11 (ae [oO 12 (.build [.nil] []),aS 1 2 12,am 3 3] .ret) .skip)) (ae [aL 13 0 1,aA 14 13,oO 15 (.idxSl 2 (.t 14) (kI 0)),bn 16 2 15,oO 4 (.alloc [ah,.nil]),aS 2 4 16] (ae [aL 17 0 4,aA 18 17,ak .add 19 18 1,ak .rem 20 19 4294967296,oM 5 20] (ae [oM 21 5,aL 22 1 4,aA 23 22,oO 24 (.call 34 [(.t 23),(.k (.c (.d (.str ⟨#[115,101,99,116,105,109,101,32,110,101,120,116]⟩))))] none),oO 25 (.build [ah,.nil] [(0,1,(.t 21)),(1,1,(.t 24))]),oO 26 (.bldSl true 1 2 (.agg [dH,(.sl [])]) [(0,(.t 25))]),oM 6 26] (.seq (ae [aL 27 0 1,aA 28 27,aL 29 0 1,aA 30 29,bd 31 30,oO 32 (.min [(.t 31),(kI 3)]),oO 33 (.slice 2 (.t 28) none (some (.t 32)) none),bd 34 33,am 35 0] (.block 0 (.loop AL)))
 (ae [oM 55 6,oO 56 (.build [.nil] [(0,1,(.t 55))]),aS 1 2 56,am 3 0] .ret)))))),[(2,(some (.ag 1))),(3,none)]⟩
theorem agB:aM Tryz.prog { own:=[26] } Tryz.f10=some HX:=by kernel_rfl
theorem amd (G:au) (hF:G.at 0=some (.ra (dY.map wD))) (hG:G.at 1=some (.ra (cy.map wD))) (l:List Fd) (hl:l.length≤9223372036854775807):aF Tryz.prog G 10 [cH l] (.tup [.c (.d (cH (oH l))),.c (.d (.int .i64 (mj l)))]):=by
  refine aX Tryz.func10 agB rfl rfl ?_;have c1:=CL G l hl;by_cases hr:eR l
  ·rw[decide_eq_true hr] at c1;have r1:=hr.1;have r2:=hr.2.1;have g0:=kM (l:=l) (i:=0) (by omega);obtain⟨⟨m1,m2,m3⟩,_⟩:=pq hr (i:=0) (by omega);have c2:=ama G hF hG (l.getD 0 default).da ⟨vz.toArray⟩ m3 (by decide);rw[show j5 (l.getD 0 default).da (⟨vz.toArray⟩:ByteArray).data.toList 32=sQ (l.getD 0 default).da from rfl] at c2;have ha:=acs m1;have hn1:0≤gS l∧gS l<4294967296:=by unfold gS; omega
   have hO0:fb l 0=[⟨gS l,sQ (l.getD 0 default).da⟩]:=rfl;have hmin:=Qz l.length 3;obtain⟨n3,hn3⟩:∃ n3,n3=min l.length 3:=⟨_,rfl⟩
   rw[← hn3,show ((3:Nat):Int)=3 from rfl] at hmin;have n3l:n3≤l.length:=by omega
   have hT:(l.take n3).length=n3:=by simp; omega
   have hTm:(l.map bf).take n3=(l.take n3).map bf:=(List.map_take ..).symm;obtain⟨ni,hni⟩:∃ ni,ni=gS l:=⟨_,rfl⟩
   rw[← hni] at ha hO0;unfold cH at *
   generalize hk0:l.getD 0 default=k0 at *
   simp only[HX,ai,af,seval];refine sC (c1) ?_;simp only[bc,g0,bf,ha,af,aa,seval,iteOmega,toNatUp];have haz:=lP l;refine sC (c2) ?_;simp only[hmin,hTm,haz,af,seval,iteOmega,toNatUp];refine bO (Vd l (l.take n3) ni) (fun i=>4-i) (fun i=>i≤n3∧∀ j,j<i→(l.getD j default).ty≠ni) 0 ⟨apZ _,fun j hj=>by omega⟩ ?_ ?_
   ·refine aR (fun i=>if i=1 then 208 else 16) ?_ ?_ rfl rfl <;> simp only[wx,aH,seval,hO0,hT] <;> first | exact⟨rfl,rfl⟩ | rfl | skip
   ·rintro i ⟨hi,hd⟩;clear c1 c2;have hOl:(fb l i).length=i+1:=by simp[fb]; omega
    have az:=lP (fb l i);have est:Vd l (l.take n3) ni i=⟨bw [(2,.w (.c (.ptr 2 1 0 0))),(5,.w (.c (.d (.int .i64 ni)))),(6,.w (.c (.own 1 2 0 (fb l i).length))),(33,.w (.c (.d (.sl ((l.take n3).map bf))))),(34,.w (.c (.d (.int .i64 ((l.take n3).length:Int))))),(35,.w (.c (.d (.int .i64 (i:Int)))))],hL [(1,.row 2 ((fb l i).map bf)),(2,.box [.nil])],uL [1,2]⟩:=rfl;rw[hT] at est;by_cases hlt:i<n3
    ·have gT:(l.take n3)[i]?=some (l.getD i default):=by rw[List.getElem?_take_of_lt hlt]; exact kM (by omega)
     have hs:=S5 (l:=l) (i:=i) (by omega);obtain⟨⟨_,_,x3⟩,_⟩:=pq hr (i:=i) (by omega);have cj:=dT G [(l.getD i default).da] (by simp) (by rw[aqD,aqF,ap7,x3]; decide);simp only[apW,ap4,aqD,aqF,ap7] at cj;by_cases he:(l.getD i default).ty=ni
     ·obtain⟨e1,e2⟩:=S4 hr (i:=i) (by omega) (by omega) (he.trans hni);have ge:((l.getD i default).ty=ni)=True:=eq_true he;rw[e1,e2,est];clear hd hs hO0 est;generalize fb l i=O at *
      generalize l.getD i default=x at *
      generalize l.take n3=T at *
      simp only[AL,af,aa,seval,iteOmega,toNatUp,bc,gT,bf,ge];exact eM (by simp only[af,seval] <;> rfl) (by simp only[af,seval])
     ·have ge:((l.getD i default).ty=ni)=False:=eq_false he;have hd':∀ j,j<i+1→(l.getD j default).ty≠ni:=fun j hj=>by
        rcases aqk j i with h | h
        ·exact hd j h
        ·obtain rfl:j=i:=by omega
         exact he
      rw[est];clear hd hO0 est;generalize hO:fb l i=O at *
      generalize hxi:l.getD i default=x at *
      generalize hTT:l.take n3=T at *
      simp only[AL,af,aa,seval,iteOmega,toNatUp,bc,gT,bf,ge];refine sC (cj) ?_;simp only[cg,af,seval,iteOmega];refine bA (i+1) (by omega) ⟨by omega,hd'⟩ (aR (fun i=>if i=1 then 424 else 2) ?_ ?_ rfl rfl) <;> simp only[hs,hT,ap8,bf,wx,aH,aV,seval]
    ·obtain⟨e1,e2⟩:=IZ hr (i:=i) (by omega) (by omega) (fun j hj=>by rw[← hni]; exact hd j hj) (by omega);have e2:oH l=fb l i:=e2;rw[e1,e2,est];clear hd hO0 est;generalize fb l i=O at *
     simp only[AL,af,aa,seval,iteOmega];exact eM (by simp only[af,seval,iteOmega] <;> rfl) (by simp only[af,seval])
  ·rw[decide_eq_false hr] at c1;obtain⟨e1,e2⟩:=S0 hr;rw[e1,e2];unfold cH at *
   simp only[HX,ai,af,seval];refine sD (c1) ?_;exact eM (by simp only[af,seval] <;> rfl) (by simp only[af,seval])
def rC (l:List Fd) (id:Int):Int:=match lG l id with | some i=>(i:Int) | none=>-1
def Ee (l:List Fd) (g:Nat) (caps:List D) (i:Nat):St:=⟨bw [(0,.w (.c (.d (.sl (l.map bf))))),(1,.w (.c (.d (.fn g caps)))),(7,.w (.c (.d (.int .i64 (l.length:Int))))),(8,.w (.c (.d (.int .i64 (i:Int)))))],hL [],uL []⟩
def AM:bp := ae [aU .lss 9 8 7] (.seq (ar 9 .skip (.exit 0)) (.seq (.block 1 (ae [oM 10 8,oM 5 10] (ae [oM 11 1,oM 12 0,oM 13 5,bU 14 2 12 13,bn 15 2 14,ct 16 1000000007 11 15] (ar 16 (ae [oM 17 5,oM 4 17] .ret) .skip)))) (.reg [ak .add 18 8 1,oM 8 18])))
def Rl:aO:=⟨2,19,ae [am 4 0] (.seq (ae [oM 6 0,bd 7 6,am 8 0] (.block 0 (.loop AM))) (ae [oO 4 (.mv (.k (.c (.d (.int .i64 (-1))))))] .ret)),[(4,none)]⟩
theorem agC:aM Tryz.prog {} Tryz.f95=some Rl:=by kernel_rfl
theorem ame (G:au) (l:List Fd) (g:Nat) (caps:List D) (id:Int) (hl:l.length≤9223372036854775807) (hp:∀ x:Fd,oo Tryz.prog G g caps [bf x] (.w (.c (.d (.bool (decide (x.ty=id))))))):aF Tryz.prog G 95 [.sl (l.map bf),.fn g caps] (.w (.c (.d (.int .i64 (rC l id))))):=by
  refine aX Tryz.func95 agC rfl rfl ?_;simp only[Rl,ai,af,seval];refine bO (Ee l g caps) (fun i=>l.length-i) (fun i=>i≤l.length∧∀ j,j<i→(l.getD j default).ty≠id) 0 ⟨apZ _,fun j hj=>by omega⟩ ?_ ?_
  ·refine aR (fun i=>0) ?_ ?_ rfl rfl <;> simp only[wx,aH,seval] <;> rfl
  ·rintro i ⟨hi,hn⟩;have haz:=lP l;by_cases hlt:i<l.length
   ·have g1:=kM hlt;have hd:=hp (l.getD i default);by_cases he:(l.getD i default).ty=id
    ·rw[decide_eq_true he] at hd;have e:rC l id=i:=by unfold rC; rw[afp hlt he hn]
     rw[e];simp only[AM,Ee,af,seval,iteOmega,toNatUp,bc,g1];generalize l.getD i default=x at *
     refine uZ hd (by simp only[af,seval,bf]) (.inl rfl) ?_;simp only[af,seval];exact aZ
    ·rw[decide_eq_false he] at hd;have hn':∀ j,j<i+1→(l.getD j default).ty≠id:=fun j hj=>by
       rcases aqk j i with h | h
       ·exact hn j h
       ·obtain rfl:j=i:=by omega
        exact he
     simp only[AM,Ee,af,seval,iteOmega,toNatUp,bc,g1];generalize l.getD i default=x at *
     refine uZ hd (by simp only[af,seval,bf]) (.inl rfl) ?_;simp only[af,seval,iteOmega];refine bA (i+1) (by omega) ⟨by omega,hn'⟩ (aR (fun i=>0) ?_ ?_ rfl rfl) <;> simp only[wx,aH,aV,seval]
   ·have e:rC l id=-1:=by unfold rC; rw[ab6 fun j hj=>hn j (by omega)]
    rw[e];simp only[AM,Ee,af,seval,iteOmega];exact aZ
def HY:aO:=⟨2,8,ae [cX 2 0,bG 3 false] (ae [aL 4 0 2,aA 5 4,aA 6 1,aU .eql 7 5 6,oM 3 7] .ret),[(3,none)]⟩
theorem agE:aM Tryz.prog {} Tryz.f96=some HY:=by kernel_rfl
theorem amf (G:au) (id:Int) (x:Fd):oo Tryz.prog G 96 [.ref [.int .i64 id]] [bf x] (.w (.c (.d (.bool (decide (x.ty=id)))))):=by
  refine⟨enters_of Tryz.func96 (by kernel_rfl) rfl,?_⟩;refine M3 Tryz.func96 agE rfl rfl ?_;unfold bf;by_cases h:x.ty=id
  ·rw[decide_eq_true h];simp only[HY,aqE,aqz,apW,ap4,D.up,iM,af,seval,h];exact aZ
  ·rw[decide_eq_false h];have g:(x.ty=id)=False:=eq_false h;simp only[HY,aqE,aqz,apW,ap4,D.up,iM,af,seval,g];exact aZ
def rS:aO:=⟨4,71,ae [cX 4 0,cX 6 2,aQ 8,am 9 0] (.seq (ae [bn 14 1 4,aY 15 33 14,cW 16 15] (ar 16 (ae [aQ 8,am 9 3] .ret) .skip)) (.seq (ae [oM 17 1,ak .lss 18 17 0,oM 19 18,bJ 20 1 19 false,cC .geq 21 20 65536 19 false,cv 22 19 21] (ar 22 (ae [aQ 8,am 9 4] .ret) .skip)) (.seq (ae [aL 23 0 6,aA 24 23,bd 25 24,ak .neq 26 25 32,oM 27 26,dF 28 1 6 27 false,dt 29 28 27 false,eY 30 29 27 false,cC .neq 31 30 32 27 false,cv 32 27 31] (ar 32 (ae [aQ 8,am 9 5] .ret) .skip)) (.seq (ae [oM 33 3,bd 34 33,ak .neq 35 34 16] (ar 35 (ae [aQ 8,am 9 3] .ret) .skip)) (ae [aL 36 0 4,aA 37 36,oO 38 (.idxSl 2 (.t 37) (kI 0)),aL 39 0 38,aA 40 39,oO 41 (.conv .u64 (.t 40)),oO 42 (.call 62 [(.t 41),(kI 4)] none),oM 10 42] (ae [oM 43 1,oO 44 (.conv .u64 (.t 43)),
 oO 45 (.call 62 [(.t 44),(kI 2)] none),oO 46 (.call 62 [(.k (.c aW)),(kI 2)] none),aL 47 0 6,aA 48 47,aL 49 1 6,aA 50 49,oO 51 (.bldSl false 4 1 (.sl []) [(0,(.t 45)),(1,(.t 46)),(2,(.t 48)),(3,(.t 50))]),aY 52 35 51,oM 11 52] (ae [aL 54 0 4,aA 55 54,oO 56 (.idxSl 2 (.t 55) (kI 0)),aL 57 1 56,aA 58 57,oM 59 10,oM 60 3,oO 61 (.bldSl false 2 1 (.sl []) [(0,(.t 59)),(1,(.t 60))]),oM 62 11,gq 63 63 58 61 62,oM 53 63,aC 64 53 0,aC 65 53 1,oM 12 64,oM 13 65] (ae [oM 66 10,oM 67 3,oM 68 12,oO 69 (.bldSl false 3 1 (.sl []) [(0,(.t 66)),(1,(.t 67)),(2,(.t 68))]),aY 70 35 69,oM 8 70,am 9 0] .ret)))))))),[(8,none),(9,none)]⟩
theorem agG:aM Tryz.prog {} Tryz.f48=some rS:=by kernel_rfl
theorem TO (G:au) (l:List Fd) (algo:Int) (up dn nonce:List UInt8) (hl:l.length≤9223372036854775807):aF Tryz.prog G 48 [cH l,.int .i64 algo,gD up dn,.sl (nonce.map bD)] (.tup [.c (.d (.sl ((mV l algo up dn nonce).map bD))),.c (.d (.int .i64 (lF l algo up dn nonce)))]):=by
  refine aX Tryz.func48 agG rfl rfl ?_;have c1:=CL G l hl;by_cases hr:eR l
  ·rw[decide_eq_true hr] at c1;have e0:lF l algo up dn nonce=if algo<0∨65535<algo then 4 else if up.length≠32∨dn.length≠32 then 5 else if nonce.length≠16 then 3 else 0:=if_pos hr
   rcases arX algo 0 with h1 | h1
   ·have e:lF l algo up dn nonce=4:=by rw[e0,if_pos (.inl h1)]
    rw[vS e (by decide),e];unfold cH gD at *
    simp only[rS,ai,af,seval];refine sD (c1) ?_;exact bz
   ·rcases arX 65535 algo with h2 | h2
    ·have e:lF l algo up dn nonce=4:=by rw[e0,if_pos (.inr h2)]
     have g2:(algo≥65536)=True:=eq_true (by omega);rw[vS e (by decide),e];unfold cH gD at *
     simp only[rS,ai,af,seval];refine sC (c1) ?_;simp only[g2,af,seval,iteOmega];exact bz
    ·have g2:(algo≥65536)=False:=eq_false (by omega);rw[if_neg (by omega)] at e0;by_cases h3:up.length=32
     ·by_cases h4:dn.length=32
      ·rw[if_neg (by omega)] at e0;by_cases h5:nonce.length=16
       ·rw[if_neg (by omega)] at e0;have eB:mV l algo up dn nonce=dC (l.getD 0 default) algo up dn nonce:=if_pos e0;rw[e0,eB];have g0:=kM (l:=l) (i:=0) (by have:=hr.1; omega);obtain⟨⟨m1,m2,m3⟩,_⟩:=pq hr (i:=0) (by have:=hr.1; omega);have r1:=hr.1;clear e0 eB;generalize l.getD 0 default=m at *
        have hp:=QN algo h3 h4;have hi:(ic m).length=4:=bS _ _;have ha:dB m.da [ic m,nonce] ((jL algo up dn).length:Int)=0:=A4 m3 (by simp) (fun x hx=>by simp at hx; rcases hx with rfl | rfl <;> omega) (by omega);have hs:(fq m.da [ic m,nonce] (jL algo up dn)).length=84:=by rw[nS ha,apS,kZ,lQ,hp]
        have d1:=iJ G m.ty.toNat 4 (by decide);rw[show (4:Int).toNat=4 from rfl,show aG m.ty.toNat 4=ic m from rfl,show ((m.ty.toNat:Nat):Int)=m.ty by omega] at d1;have d2:=iJ G algo.toNat 2 (by decide);rw[show (2:Int).toNat=2 from rfl,show ((algo.toNat:Nat):Int)=algo by omega] at d2;have d0:=iJ G 0 2 (by decide);rw[show aG 0 (2:Int).toNat=[0,0] from by decide] at d0;have d3:=dT G [aG algo.toNat 2,[0,0],up,dn] (by simp) (by rw[OX]; omega);rw[OX] at d3;have d4:=IL G m.da [ic m,nonce] (jL algo up dn) (by omega) (by simp) (fun x hx=>by simp at hx; rcases hx with rfl | rfl <;> omega) (by omega);rw[ha] at d4;have d5:=dT G [ic m,nonce,fq m.da [ic m,nonce] (jL algo up dn)] (by simp) (by simp only[aqD,aqF,apS,aqZ,hi,h5,hs]; omega);rw[afo] at d5;unfold dI at d4;generalize dC m algo up dn nonce=B at *
        generalize fq m.da [ic m,nonce] (jL algo up dn)=S at *
        generalize jL algo up dn=P at *
        generalize ic m=I at *
        generalize aG algo.toNat 2=A at *
        simp only[apW,ap4] at d0 d3 d4 d5;have haz:=lP l;unfold cH gD at *
        simp only[rS,ai,af,seval];refine sC (c1) ?_;simp only[g2,h3,h4,h5,bc,g0,bf,af,seval,iteOmega,toNatUp];refine sD (d1) ?_;refine sD (d2) ?_;refine sD (d0) ?_;refine bM d3 (by simp only[af,seval] <;> rfl) (.inl rfl) ?_;simp only[af,seval,iteOmega,toNatUp,bc,g0,bf];refine sD (d4) ?_;refine sD (d5) ?_;exact bz
       ·rw[if_pos h5] at e0;rw[vS e0 (by decide),e0];unfold cH gD at *
        simp only[rS,ai,af,seval];refine sC (c1) ?_;simp only[g2,h3,h4,af,seval,iteOmega];exact bz
      ·have e:lF l algo up dn nonce=5:=by rw[e0,if_pos (.inr h4)]
       rw[vS e (by decide),e];unfold cH gD at *
       simp only[rS,ai,af,seval];refine sC (c1) ?_;simp only[g2,h3,af,seval,iteOmega];exact bz
     ·have e:lF l algo up dn nonce=5:=by rw[e0,if_pos (.inl h3)]
      rw[vS e (by decide),e];unfold cH gD at *
      simp only[rS,ai,af,seval];refine sC (c1) ?_;simp only[g2,af,seval,iteOmega];exact bz
  ·rw[decide_eq_false hr] at c1;have e:lF l algo up dn nonce=3:=if_neg hr;rw[vS e (by decide),e];unfold cH gD at *
   simp only[rS,ai,af,seval];refine sD (c1) ?_;exact bz
set_option maxHeartbeats 6400000
def TP:aO:=⟨1,13,ae [aQ 2,am 3 0] (ae [oM 4 0,oO 5 (.bldSl false 1 1 dH [(0,(.t 4))]),aY 6 60 5,oO 7 (.call 59 [(kI 2),(.t 6)] none),oO 8 (.call 59 [(kI 0),(.k (.c .nil))] none),oO 9 (.bldSl false 2 3 (.agg [(.bool false),dH,(.sl [])]) [(0,(.t 7)),(1,(.t 8))]),aY 10 58 9,aC 11 10 0,aC 12 10 1,oM 2 11,oM 3 12] .ret),[(2,none),(3,none)]⟩
theorem amg:aM Tryz.prog {} Tryz.f71=some TP:=by kernel_rfl
theorem Kw (G:au) (k:Int) (hk:0≤k∧k≤65535):aF Tryz.prog G 71 [.int .i64 k] (.tup [.c (.d (.sl ((kU k).map bD))),.c (.d (.int .i64 0))]):=by
  refine aX Tryz.func71 amg rfl rfl ?_;have hs:dp [k]:=fun n hn=>by rw[apY.1 hn]; exact hk
  have c1:=tZ G [k] (by simp) hs;simp only[apW,ap4,zD] at c1;have c2:=nz G 2 (bH [k]);have c3:=nz G 0 [];have bl:(bH [k]).length=2:=iW _;obtain⟨q1,q2⟩:=Di (l:=[⟨true,2,bH [k]⟩,⟨true,0,[]⟩]) (by
    intro r hr;simp only[aqh,arS,or_false] at hr;rcases hr with rfl | rfl
    ·exact jA (by decide) (by omega)
    ·exact jA (by decide) (by decide)) (by simp)
  have c4:=U0 G [⟨true,2,bH [k]⟩,⟨true,0,[]⟩] (by simp) (by
    intro r hr;simp only[aqh,arS,or_false] at hr;rcases hr with rfl | rfl
    ·dsimp only; omega
    ·simp)
  rw[q1,q2] at c4;have hR:kU k=cu [⟨true,2,bH [k]⟩,⟨true,0,[]⟩]:=rfl;rw[← hR] at c4;simp only[apW,ap4,bB] at c4 c3;clear q1 q2 hR;generalize kU k=R at *
  generalize bH [k]=B at *
  simp only[TP,ai,af,seval];refine sD (c1) ?_;refine sD (c2) ?_;refine sD (c3) ?_;refine sD (c4) ?_;exact bz
def qa (ns:List (List UInt8)):Prop:=(∀ n∈ns,n.length=16)∧1≤ns.length∧ns.length≤8
instance (ns:List (List UInt8)):Decidable (qa ns):=by unfold qa; infer_instance
def wF (ns:List (List UInt8)) (i:Nat):St:=⟨bw [(0,.w (.c (.d (dI ns)))),(5,.w (.c (.d (dI ns)))),(6,.w (.c (.d (.int .i64 (ns.length:Int))))),(7,.w (.c (.d (.int .i64 (i:Int)))))],hL [],uL []⟩
def vh:bp := ae [aU .lss 8 7 6] (.seq (ar 8 .skip (.exit 0)) (.seq (.block 1 (ae [bU 9 1 5 7,aA 10 9,oM 4 10] (ae [oM 11 4,bd 12 11,ak .neq 13 12 16] (ar 13 (ae [bG 2 false] .ret) .skip)))) (.reg [ak .add 14 7 1,oM 7 14])))
def TQ:aO:=⟨1,23,ae [bG 2 false] (.seq (ae [oM 5 0,bd 6 5,am 7 0] (.block 0 (.loop vh))) (ae [oM 15 0,bd 16 15,ak .geq 17 16 1,oM 18 17,bJ 19 0 18 true,eY 20 19 18 true,cC .leq 21 20 8 18 true,ek 22 18 21,oM 2 22] .ret)),[(2,none)]⟩
theorem amh:aM Tryz.prog {} Tryz.f73=some TQ:=by kernel_rfl
theorem aoH (G:au) (ns:List (List UInt8)) (hn:ns.length≤1000000):aF Tryz.prog G 73 [dI ns] (.w (.c (.d (.bool (decide (qa ns)))))):=by
  refine aX Tryz.func73 amh rfl rfl ?_;simp only[TQ,ai,af,seval];refine bO (wF ns) (fun i=>ns.length-i) (fun i=>i≤ns.length∧∀ n∈ns.take i,n.length=16) 0 ⟨apZ _,by rw[arb]; exact fun n h=>by cases h⟩ ?_ ?_
  ·refine aR (fun _=>0) ?_ ?_ rfl rfl <;> simp only[wx,aH,seval] <;> first | rfl | exact⟨rfl,rfl⟩ | skip
  ·rintro i ⟨hi,hp⟩;by_cases hlt:i<ns.length
   ·have g:=HD hlt;have hm:ns.getD i []∈ns:=by rw[apT,apR hlt]; exact aqr hlt
    have hs:=Mc hlt;generalize ns.getD i []=x at *
    by_cases h1:x.length=16
    ·have g1:((x.length:Int)=16)=True:=eq_true (by omega);have hn:∀ n∈ns.take (i+1),n.length=16:=by
       rw[hs];intro n q;rcases aqg.1 q with q | q
       ·exact hp n q
       ·rw[apY.1 q]; exact h1
     simp only[vh,wF,af,seval,iteOmega,toNatUp,bc,g,g1];refine bA (i+1) (by omega) ⟨by omega,hn⟩ (aR (fun i=>i) ?_ ?_ rfl rfl) <;> simp only[wx,aH,aV,seval] <;> first | rfl | exact⟨rfl,rfl⟩ | skip
    ·have g1:((x.length:Int)=16)=False:=eq_false (by omega);rw[decide_eq_false (fun q:qa ns=>h1 (q.1 x hm))];simp only[vh,wF,af,seval,iteOmega,toNatUp,bc,g,g1];exact aZ
   ·rw[apX (by omega)] at hp;by_cases h1:1≤ns.length
    ·have g1:((ns.length:Int)≥1)=True:=eq_true (by omega);by_cases h2:ns.length≤8
     ·have g2:((ns.length:Int)≤8)=True:=eq_true (by omega);rw[decide_eq_true (show qa ns from ⟨hp,h1,h2⟩)];simp only[vh,wF,af,seval,iteOmega,g1,g2];exact aZ
     ·have g2:((ns.length:Int)≤8)=False:=eq_false (by omega);rw[decide_eq_false (fun q:qa ns=>h2 q.2.2)];simp only[vh,wF,af,seval,iteOmega,g1,g2];exact aZ
    ·have g1:((ns.length:Int)≥1)=False:=eq_false (by omega);rw[decide_eq_false (fun q:qa ns=>h1 q.2.1)];simp only[vh,wF,af,seval,iteOmega,g1];exact aZ
def s7 (p:gC):List Ek:=(if p.ho.size=0 then [] else [⟨true,6,p.ho.data.toList⟩])++(if p.pt=0 then [] else [⟨true,7,bH [p.pt]⟩])
theorem Kx (p:gC):s7 p++[⟨true,0,[]⟩]=mm p:=by unfold s7 mm; rw[ap6]
def y7:aO:=⟨1,26,ae [cX 1 0,aQ 2] (ae [aQ 3] (.seq (ae [aL 4 2 1,aA 5 4,oO 6 (.bin .neq (.t 5) (.k (.c (.d (.str ⟨#[]⟩)))))] (ar 6 (.reg [oM 7 3,aL 8 2 1,aA 9 8,oO 10 (.s2b false (.t 9)),oO 11 (.call 59 [(kI 6),(.t 10)] none),oO 12 (.bldSl false 1 3 (.agg [(.bool false),dH,(.sl [])]) [(0,(.t 11))]),oO 13 (.app false 3 40 (.t 7) (.t 12)),oM 3 13]) .skip)) (.seq (ae [aL 14 3 1,aA 15 14,ak .neq 16 15 0] (ar 16 (.reg [oM 17 3,aL 18 3 1,aA 19 18,oO 20 (.bldSl false 1 1 dH [(0,(.t 19))]),aY 21 60 20,oO 22 (.call 59 [(kI 7),(.t 21)] none),oO 23 (.bldSl false 1 3 (.agg [(.bool false),dH,(.sl [])]) [(0,(.t 22))]),oO 24 (.app false 3 40 (.t 17) (.t 23)),oM 3 24]) .skip)) (ae [oM 25 3,oM 2 25] .ret)))),[(2,none)]⟩
theorem ami:aM Tryz.prog {} Tryz.f75=some y7:=by kernel_rfl
theorem aoI (G:au) (p:gC) (h:p.ho.size≤1000000) (hs:dp [p.pt]):aF Tryz.prog G 75 [j6 p] (.w (.c (.d (.sl ((s7 p).map bB))))):=by
  refine aX Tryz.func75 ami rfl rfl ?_;have c1:=nz G 6 p.ho.data.toList;have c2:=tZ G [p.pt] (by simp) hs;simp only[apW,ap4,zD] at c2;have c3:=nz G 7 (bH [p.pt]);have sd:p.ho.size≤maxLen:=by unfold maxLen; omega
  unfold j6 s7;by_cases h1:p.ho.size=0
  ·have e1:=afr h1;rw[if_pos h1];by_cases h2:p.pt=0
   ·have g2:=eq_true h2;rw[if_pos h2];simp only[y7,ai,af,seval,e1,g2];exact aZ
   ·have g2:=eq_false h2;rw[if_neg h2];simp only[y7,ai,bB,af,seval,e1,g2];refine sD (c2) ?_;refine sC (c3) ?_;simp only[cg,af,seval];exact aZ
  ·have e1:=afs h1;rw[if_neg h1];by_cases h2:p.pt=0
   ·have g2:=eq_true h2;rw[if_pos h2];simp only[y7,ai,bB,af,seval,e1,sd];refine sC (c1) ?_;simp only[cg,g2,af,seval];exact aZ
   ·have g2:=eq_false h2;rw[if_neg h2];simp only[y7,ai,bB,af,seval,e1,sd];refine sC (c1) ?_;simp only[cg,g2,af,seval];refine sD (c2) ?_;refine sC (c3) ?_;simp only[cg,af,seval];exact aZ
def Ky (r:List Fd) (c:Ch) (v a:Int) (ns:List (List UInt8)) (i:Nat):St:=⟨bw [(6,.w (.c (.rp [.sl (r.map bf)]))),(13,.w (.c (.own 1 3 0 (jE r c v a ns i).length))),(14,.w (.c (.d (.int .i64 a)))),(15,.w (.c (.ptr 2 1 0 0))),(66,.w (.c (.d (dI ns)))),(67,.w (.c (.d (.int .i64 (ns.length:Int))))),(68,.w (.c (.d (.int .i64 (i:Int)))))],
  hL [(1,.row 3 ((jE r c v a ns i).map bB)),(2,.box [.d (.sl ((cI c v a 0).map bD)),.d (.sl ((cI c v a 1).map bD))])],uL [1,2]⟩
def GN:bp := ae [aU .lss 69 68 67] (.seq (ar 69 .skip (.exit 0)) (.seq (.block 1 (ae [bU 70 1 66 68,aA 71 70,oM 18 71] (ae [bn 73 1 6,oM 74 14,bn 75 2 15,oM 76 18,Ei 77 48 73 74 75 76,oM 72 77,aC 78 72 0,aC 79 72 1,oM 19 78,oM 20 79] (.reg [oM 80 13,oM 81 19,oO 82 (.build [cD,ah,.nil] [(1,1,(kI 5)),(2,1,(.t 81))]),oO 83 (.bldSl false 1 3 (.agg [(.bool false),dH,(.sl [])]) [(0,(.t 82))]),oO 84 (.app false 3 40 (.t 80) (.t 83)),oM 13 84])))) (.reg [ak .add 85 68 1,oM 68 85])))
def CM:aO:=⟨5,87,ae [cX 5 0,cX 6 1,cX 7 2,aQ 10] (ae [oM 22 3,oO 23 (.call 118 [(.t 22),(kI 1)] none),aL 24 0 5,aA 25 24,ct 26 117 23 25,oM 21 26,aC 27 21 0,aC 28 21 1,oM 11 27,oM 12 28] (.seq (ae [oM 29 12,cW 30 29] (ar 30 (ae [oO 31 (.call 59 [(kI 1),(.k (.c .nil))] none),oO 32 (.bldSl true 1 3 (.agg [(.bool false),dH,(.sl [])]) [(0,(.t 31))]),oM 10 32] .ret) .skip)) (ae [oM 33 11,oO 34 (.bldSl false 1 1 dH [(0,(.t 33))]),aY 35 60 34,oO 36 (.call 59 [(kI 1),(.t 35)] none),oO 37 (.bldSl true 1 3 (.agg [(.bool false),dH,(.sl [])]) [(0,(.t 36))]),oM 13 37] (ae [oM 39 3,oO 40 (.call 118 [(.t 39),(kI 4)] none),aL 41 1 5,aA 42 41,ct 43 117 40 42,oM 38 43,aC 44 38 0,aC 45 38 1,oM 14 44,oM 12 45] (.seq (ae [oM 46 12,cW 47 46] (ar 47 (ae [oM 48 13,oO 49 (.call 59 [(kI 4),(.k (.c .nil))] none),
 oO 50 (.bldSl false 1 3 (.agg [(.bool false),dH,(.sl [])]) [(0,(.t 49))]),oO 51 (.app false 3 40 (.t 48) (.t 50)),oM 10 51] .ret) .skip)) (ae [oM 52 13,oM 53 14,oO 54 (.bldSl false 1 1 dH [(0,(.t 53))]),aY 55 60 54,oO 56 (.call 59 [(kI 4),(.t 55)] none),oO 57 (.bldSl false 1 3 (.agg [(.bool false),dH,(.sl [])]) [(0,(.t 56))]),oO 58 (.app false 3 40 (.t 52) (.t 57)),oM 13 58] (ae [bn 60 6 7,oM 61 11,oM 62 14,gq 63 119 60 61 62,oM 59 63,aC 64 59 0,aC 65 59 1,oO 15 (.alloc [.nil,.nil]),aS 2 15 64,oM 16 65] (.seq (ae [oM 66 4,bd 67 66,am 68 0] (.block 0 (.loop GN))) (ae [oM 86 13,oM 10 86] .ret))))))))),[(10,none)]⟩
theorem amj:aM Tryz.prog { own:=[32,37] } Tryz.f74=some CM:=by kernel_rfl
theorem aoJ (G:au) (hF:G.at 0=some (.ra (dY.map wD))) (hG:G.at 1=some (.ra (cy.map wD))) (p:gC) (r:List Fd) (c:Ch) (l:List Ek) (ns:List (List UInt8)) (h1:p.pr.length≤1000000) (h2:p.al.length≤1000000) (hr:r.length≤1000000) (hb:∀ r∈l,r.bo.length≤65535) (hn:ns.length≤8)
    (vC:eV c) (s1:dp p.pr) (s2:dp p.al):aF Tryz.prog G 74 [j6 p,cH r,bX c,dW l,dI ns] (.w (.c (.fr 3 ((iR p r c (cF l 1) (cF l 4) ns).map bB)))):=by
  refine aX Tryz.func74 amj rfl rfl ?_;have d1:=wE G l 1 fun r hr=>by have:=hb r hr; omega
  have d4:=wE G l 4 fun r hr=>by have:=hb r hr; omega
  have n1:(cF l 1).length≤65535:=aqG (yT _) (vG hb 1);have n4:(cF l 4).length≤65535:=aqG (yT _) (vG hb 4);have c1:=U6 G (cF l 1) p.pr (by omega) h1;have c4:=U6 G (cF l 4) p.al (by omega) h2;have k1:=nz G 1 [];have k4:=nz G 4 [];simp only[ap4] at k1 k4
  have hA:iR p r c (cF l 1) (cF l 4) ns=match gB (cF l 1) p.pr with
    | none=>[⟨true,1,[]⟩]
    | some v=>⟨true,1,bH [v]⟩::match gB (cF l 4) p.al with
      | none=>[⟨true,4,[]⟩]
      | some a=>⟨true,4,bH [a]⟩::jM r c v a ns:=rfl
  have i1:∀ v,gB (cF l 1) p.pr=some v→0≤v∧v≤65535:=fun v h=>s1 v (rW h).2
  have i4:∀ v,gB (cF l 4) p.al=some v→0≤v∧v≤65535:=fun v h=>s2 v (rW h).2
  generalize cF l 1=N1 at *
  generalize cF l 4=N4 at *
  rw[hA];clear hA;unfold j6 cH dW at *
  generalize eT l=E at *
  rcases hv:gB N1 p.pr with _ | v
  ·rw[hv] at c1;simp only[arv,arI] at c1;unfold bX;simp only[CM,ai,bB,af,seval];refine sD (d1) ?_;refine sD (c1) ?_;refine sD (k1) ?_;exact iP
  ·rw[hv] at c1;simp only[aq9,arF] at c1;have j1:=i1 v hv;have b1:=tZ G [v] (by simp) (fun n hn=>by rw[apY.1 hn]; exact j1);simp only[apW,ap4,zD] at b1;have q1:=nz G 1 (bH [v]);rcases ha:gB N4 p.al with _ | a
   ·rw[ha] at c4;simp only[arv,arI] at c4;dsimp only;generalize bH [v]=B1 at *
    unfold bX;simp only[CM,ai,bB,af,seval];refine sD (d1) ?_;refine sD (c1) ?_;refine sD (b1) ?_;refine sD (q1) ?_;refine sD (d4) ?_;refine sD (c4) ?_;refine sC (k4) ?_;simp only[cg,af,seval];exact iP
   ·rw[ha] at c4;simp only[aq9,arF] at c4;have j4:=i4 a ha;have b4:=tZ G [a] (by simp) (fun n hn=>by rw[apY.1 hn]; exact j4);simp only[apW,ap4,zD] at b4;have q4:=nz G 4 (bH [a]);have kz:=U8 G hF hG c v a;rw[tW vC j1 j4] at kz;have cm:=fun n:List UInt8=>TO G r a (cI c v a 0) (cI c v a 1) n (by omega)
    have y0:jE r c v a ns 0=[⟨true,1,bH [v]⟩,⟨true,4,bH [a]⟩]:=rfl;have ye:(⟨true,1,bH [v]⟩::⟨true,4,bH [a]⟩::jM r c v a ns:List Ek)=jE r c v a ns ns.length:=by unfold jE; rw[aqy]
    dsimp only;rw[ye];clear ye;unfold bX gD cH at *
    simp only[CM,ai,af,seval];refine sD (d1) ?_;refine sD (c1) ?_;refine sD (b1) ?_;refine sD (q1) ?_;refine sD (d4) ?_;refine sD (c4) ?_;refine sD (b4) ?_;refine sC (q4) ?_;simp only[cg,af,seval];refine sD (kz) ?_;refine bO (Ky r c v a ns) (fun i=>ns.length-i) (fun i=>i≤ns.length) 0 (apZ _) ?_ ?_
    ·refine aR (fun i=>if i=1 then 464 else 120) ?_ ?_ rfl rfl <;> simp only[y0,bB,wx,aH,seval] <;> first | rfl | exact⟨rfl,rfl⟩ | skip
    ·intro i hi;have az:=u4 (jE r c v a ns i);have yl:=HE r c v a ns i;by_cases hlt:i<ns.length
     ·have g:=HD hlt;have cm:=cm (ns.getD i []);have hs:=ab7 (r:=r) (c:=c) (v:=v) (a:=a) hlt;generalize ns.getD i []=x at *
      generalize hR:jE r c v a ns i=Rw at *
      generalize lF r a (cI c v a 0) (cI c v a 1) x=e at *
      simp only[GN,Ky,hR,af,seval,iteOmega,toNatUp,bc,g];refine sC (cm) ?_;simp only[cg,af,seval,iteOmega];refine bA (i+1) (by omega) (by omega) (aR (fun i=>if i=1 then 672 else 2) ?_ ?_ rfl rfl) <;> simp only[hs,ap8,bB,wx,aH,aV,seval] <;> first | rfl | exact⟨rfl,rfl⟩ | skip
     ·obtain rfl:i=ns.length:=by omega
      simp only[GN,Ky,af,seval,iteOmega];exact iP
theorem agI {b:List UInt8} (hF:iE b):rz b↔uD (br b)=true:=by
  unfold rz uD;rw[dR,dR,dR,dR,dR];simp only[aqm,Bool.not_eq_true',decide_eq_true_eq,decide_eq_false_iff_not];constructor
  ·rintro⟨_,h1,h2,h3⟩;omega
  ·rintro⟨h1,h2,h3,h4,h5⟩;exact⟨hF,by omega,by omega,by omega⟩
theorem Kz {l:List Ek} {k:Int} (h:0<(ba l k).length):jv l k=cF l k:=by
  unfold jv cF fF;rw[rM (by rw[dR]; exact h)]
theorem amk {l:List Ek} (h:uD l=true):0<(ba l 1).length∧0<(ba l 4).length:=by
  unfold uD at h;simp only[aqm,decide_eq_true_eq] at h;exact⟨h.1,h.2.1⟩
theorem Jo (ns:List (List UInt8)) (ho:ByteArray):sY ns ho↔qa ns∧ho.size≤255:=⟨fun ⟨a,b,c,d⟩=>⟨⟨d,a,b⟩,c⟩,fun ⟨⟨d,a,b⟩,c⟩=>⟨a,b,c,d⟩⟩
theorem aml {p:gC} {r:List Fd} {c:Ch} {x y:List Int} {ns:List (List UInt8)} (vC:eV c) (vR:eR r) (s1:dp p.pr) (s2:dp p.al) (hn:qa ns):(∀ e∈iR p r c x y ns,0≤e.ty∧e.ty≤7∧e.bo.length≤255)∧(iR p r c x y ns).length≤10:=by
  have l2:∀ v:Int,(bH [v]).length≤255:=fun v=>by rw[iW]; exact (show 2*1≤255 by decide)
  have nl:=hn.2.2;unfold iR;rcases hv:gB x p.pr with _ | v
  ·refine⟨fun e he=>?_,by simp⟩;rw[apY.1 he];exact jA (by decide) (by decide)
  ·have j1:=s1 v (rW hv).2;rcases ha:gB y p.al with _ | a
   ·refine⟨fun e he=>?_,by simp⟩;simp only[aqh,arS,or_false] at he;rcases he with rfl | rfl
    ·exact jA (by decide) (l2 v)
    ·exact jA (by decide) (by decide)
   ·have j4:=s2 a (rW ha).2;have e:(⟨true,1,bH [v]⟩::⟨true,4,bH [a]⟩::jM r c v a ns:List Ek)=jE r c v a ns ns.length:=by unfold jE; rw[aqy]
    dsimp only;rw[e];have yl:=HE r c v a ns ns.length;exact⟨S7 vR (tW vC j1 j4) j4 hn.1,by omega⟩
def nu:aO:=⟨5,91,ae [cX 5 0,cX 6 1,cX 7 2,aQ 10,am 11 0] (.seq (ae [bn 15 6 7,aY 16 61 15,cW 17 16,oM 18 17,oG 19 (.load (.ag 1) (.t 6)) 18 false,oG 20 (.call 33 [(.t 19)] none) 18 false,gn 21 20 18 false,cv 22 18 21] (ar 22 (ae [aQ 10,am 11 3] .ret) .skip)) (.seq (ae [aL 23 0 5,aA 24 23,aY 25 56 24,cW 26 25,oM 27 26,dF 28 1 5 27 false,dt 29 28 27 false,oG 30 (.call 56 [(.t 29)] none) 27 false,gn 31 30 27 false,cv 32 27 31,oM 33 32,dF 34 3 5 33 false,dt 35 34 33 false,oG 36 (.bldSl false 1 1 dH [(0,(.t 35))]) 33 false,oG 37 (.call 56 [(.t 36)] none) 33 false,gn 38 37 33 false,cv 39 33 38] (ar 39 (ae [aQ 10,am 11 4] .ret) .skip)) (ae [oM 41 3,aY 42 69 41,oM 40 42,aC 43 40 0,aC 44 40 1,oM 12 43,oM 13 44] (.seq (.block 0 (ae [oM 46 13,cW 47 46,oM 48 47,
 bJ 49 12 48 false,oG 50 (.call 70 [(.t 49)] none) 48 false,gn 51 50 48 false,cv 52 48 51,oM 45 52] (ar 45 (ae [oO 53 (.call 71 [(kI 1)] none),aC 54 53 0,aC 55 53 1,oM 10 54,oM 11 55] .ret) (ae [oM 57 12,aY 58 72 57,oM 56 58] (ar 56 (ae [oO 59 (.call 71 [(kI 0)] none),aC 60 59 0,aC 61 59 1,oM 10 60,oM 11 61] .ret) (ae [oM 63 4,aY 64 73 63,cW 65 64,oM 66 65,dF 67 2 5 66 false,dt 68 67 66 false,oG 69 (.lenStr (.t 68)) 66 false,cC .gtr 70 69 255 66 false,cv 71 66 70,oM 62 71] (ar 62 (ae [oO 72 (.call 71 [(kI 2)] none),aC 73 72 0,aC 74 72 1,oM 10 73,oM 11 74] .ret) .skip))))))) (ae [bn 75 4 5,bn 76 1 6,bn 77 6 7,oM 78 12,oM 79 4,oO 80 (.call 74 [(.t 75),(.t 76),(.t 77),(.t 78),(.t 79)] (some (0,3))),bn 81 4 5,aY 82 75 81,oO 83 (.app false 3 40 (.t 80) (.t 82)),oM 14 83]
 (ae [oM 84 14,oO 85 (.call 59 [(kI 0),(.k (.c .nil))] none),oO 86 (.bldSl false 1 3 (.agg [(.bool false),dH,(.sl [])]) [(0,(.t 85))]),oO 87 (.app false 3 40 (.t 84) (.t 86)),aY 88 58 87,aC 89 88 0,aC 90 88 1,oM 10 89,oM 11 90] .ret)))))),[(10,none),(11,none)]⟩
theorem amm:aM Tryz.prog { own:=[80] } Tryz.f27=some nu:=by kernel_rfl
theorem aoK (G:au) (hF:G.at 0=some (.ra (dY.map wD))) (hG:G.at 1=some (.ra (cy.map wD))) (p:gC) (r:List Fd) (c:Ch) (b:List UInt8) (ns:List (List UInt8)) (h1:p.pr.length≤1000000) (h2:p.al.length≤1000000) (h3:p.ho.size≤1000000) (hr:r.length≤1000000) (hb:b.length≤1000000000) (hn:ns.length≤1000000) (hm:∀ n∈ns,n.length≤1000000):aF Tryz.prog G 27 [j6 p,cH r,bX c,.sl (b.map bD),.sl (ns.map fun l=>D.sl (l.map bD))] (.tup [.c (.d (.sl ((kV p r c b ns).map bD))),.c (.d (.int .i64 (iS p r c)))]):=by
  refine aX Tryz.func27 amm rfl rfl ?_;have c1:=wm G hF hG c;have c2:=CL G r (by omega);have hno:∀ e,iS p r c=e→e≠0→kV p r c b ns=[]:=fun e q1 q2=>if_pos (by rw[q1]; exact q2)
  by_cases vC:eV c
  case neg =>
    rw[decide_eq_false vC] at c1;have E:iS p r c=3:=by unfold iS; rw[if_pos fun h=>vC h.1]
    rw[hno 3 E (by decide),E];unfold j6 cH bX at *
    simp only[nu,ai,af,seval];refine sD (c1) ?_;exact bz
  rw[decide_eq_true vC] at c1;by_cases vR:eR r
  case neg =>
    rw[decide_eq_false vR] at c2;have E:iS p r c=3:=by unfold iS; rw[if_pos fun h=>vR h.2]
    rw[hno 3 E (by decide),E];unfold j6 cH bX at *
    simp only[nu,ai,af,seval];refine sD (c1) ?_;refine sD (c2) ?_;exact bz
  rw[decide_eq_true vR] at c2;have c3:=ww G p.pr (by omega);have c4:=ww G p.al (by omega);have c5:=ww G [p.pt] (by simp);simp only[apW,ap4,zD] at c5;by_cases s1:dp p.pr
  case neg =>
    rw[decide_eq_false s1] at c3;have E:iS p r c=4:=by unfold iS; rw[if_neg (not_not_intro ⟨vC,vR⟩),if_pos fun h=>s1 h.1]
    rw[hno 4 E (by decide),E];unfold j6 cH bX at *
    simp only[nu,ai,af,seval];refine sD (c1) ?_;refine sD (c2) ?_;refine sD (c3) ?_;exact bz
  rw[decide_eq_true s1] at c3;by_cases s2:dp p.al
  case neg =>
    rw[decide_eq_false s2] at c4;have E:iS p r c=4:=by unfold iS; rw[if_neg (not_not_intro ⟨vC,vR⟩),if_pos fun h=>s2 h.2.1]
    rw[hno 4 E (by decide),E];unfold j6 cH bX at *
    simp only[nu,ai,af,seval];refine sD (c1) ?_;refine sD (c2) ?_;refine sD (c3) ?_;refine sD (c4) ?_;exact bz
  rw[decide_eq_true s2] at c4;by_cases s3:dp [p.pt]
  case neg =>
    rw[decide_eq_false s3] at c5;have E:iS p r c=4:=by unfold iS; rw[if_neg (not_not_intro ⟨vC,vR⟩),if_pos fun h=>s3 h.2.2]
    rw[hno 4 E (by decide),E];unfold j6 cH bX at *
    simp only[nu,ai,af,seval];refine sD (c1) ?_;refine sD (c2) ?_;refine sD (c3) ?_;refine sD (c4) ?_;refine sD (c5) ?_;exact bz
  rw[decide_eq_true s3] at c5;have E:iS p r c=0:=by unfold iS; rw[if_neg (not_not_intro ⟨vC,vR⟩),if_neg (not_not_intro ⟨s1,s2,s3⟩)]
  have B0:kV p r c b ns=if ¬ rz b then kU 1 else if ml (br b)=true then kU 0 else if ¬ sY ns p.ho then kU 2 else cu (iR p r c (jv (br b) 1) (jv (br b) 4) ns++mm p):=if_neg (not_not_intro E)
  rw[E];clear hno E;have c6:=Kv G b hb;have r1:=Kw G 1 (by decide);have r0:=Kw G 0 (by decide);have r2:=Kw G 2 (by decide);by_cases hFm:iE b
  case neg =>
    rw[decide_eq_false hFm,show mW b=[] from if_neg hFm] at c6;rw[B0,if_pos fun q=>hFm q.1];generalize kU 1=R at *
    generalize dW []=M at *
    clear B0 r0 r2;unfold j6 cH bX at *
    simp only[nu,ai,af,seval];refine sD (c1) ?_;refine sD (c2) ?_;refine sD (c3) ?_;refine sD (c4) ?_;refine sD (c5) ?_;refine sD (c6) ?_;refine sD (r1) ?_;exact bz
  rw[decide_eq_true hFm,show mW b=br b from if_pos hFm] at c6;obtain⟨hbo,hl⟩:=Cx (b:=b);have hQ:=agI hFm;generalize br b=L at *
  have c7:=aoF G L;rcases hq:uD L with _ | _
  ·rw[hq] at c7;rw[B0,if_pos fun q=>by rw[hQ.1 q] at hq; cases hq];generalize kU 1=R at *
   clear B0 r0 r2;unfold j6 cH bX dW at *
   generalize eT L=M at *
   simp only[nu,ai,af,seval];refine sD (c1) ?_;refine sD (c2) ?_;refine sD (c3) ?_;refine sD (c4) ?_;refine sD (c5) ?_;refine sD (c6) ?_;refine sD (c7) ?_;refine sD (r1) ?_;exact bz
  obtain⟨a1,a4⟩:=amk hq;rw[hq] at c7;rw[if_neg (not_not_intro (hQ.2 hq)),Kz a1,Kz a4] at B0;have c8:=Va G L (by omega);rcases hS:ml L with _ | _
  case true =>
    rw[hS] at c8;rw[B0,if_pos hS];generalize kU 0=R at *
    clear B0 r1 r2;unfold j6 cH bX dW at *
    generalize eT L=M at *
    simp only[nu,ai,af,seval];refine sD (c1) ?_;refine sD (c2) ?_;refine sD (c3) ?_;refine sD (c4) ?_;refine sD (c5) ?_;refine sD (c6) ?_;refine sD (c7) ?_;refine sD (c8) ?_;refine sD (r0) ?_;exact bz
  rw[hS] at c8;rw[if_neg (by rw[hS]; decide)] at B0;have c9:=aoH G ns hn;by_cases hN:qa ns
  case neg =>
    rw[decide_eq_false hN] at c9;rw[B0,if_pos fun q=>hN ((Jo _ _).1 q).1];generalize kU 2=R at *
    clear B0 r0 r1;unfold j6 cH bX dW at *
    generalize eT L=M at *
    simp only[nu,ai,af,seval];refine sD (c1) ?_;refine sD (c2) ?_;refine sD (c3) ?_;refine sD (c4) ?_;refine sD (c5) ?_;refine sD (c6) ?_;refine sD (c7) ?_;refine sD (c8) ?_;refine sD (c9) ?_;refine sD (r2) ?_;exact bz
  rw[decide_eq_true hN] at c9;by_cases hH:p.ho.size≤255
  case neg =>
    have gH:((p.ho.size:Int)>255)=True:=eq_true (by omega);rw[B0,if_pos fun q=>hH ((Jo _ _).1 q).2];generalize kU 2=R at *
    clear B0 r0 r1;unfold j6 cH bX dW at *
    generalize eT L=M at *
    simp only[nu,ai,af,seval];refine sD (c1) ?_;refine sD (c2) ?_;refine sD (c3) ?_;refine sD (c4) ?_;refine sD (c5) ?_;refine sD (c6) ?_;refine sD (c7) ?_;refine sD (c8) ?_;refine sC (c9) ?_;simp only[gH,af,seval];refine sD (r2) ?_;exact bz
  have gH:((p.ho.size:Int)>255)=False:=eq_false (by omega);rw[if_neg (not_not_intro ((Jo _ _).2 ⟨hN,hH⟩))] at B0;have ca:=aoJ G hF hG p r c L ns h1 h2 hr hbo hN.2.2 vC s1 s2;have cp:=aoI G p h3 s3;have ce:=nz G 0 [];obtain⟨ok,ol⟩:=aml (x:=cF L 1) (y:=cF L 4) vC vR s1 s2 hN;obtain⟨q1,q2⟩:=anW hH ok ol;have hl3:=HF p;have cn:=UZ G (iR p r c (cF L 1) (cF L 4) ns++mm p) (by rw[apS]; omega) (fun e he=>by
    have:e.bo.length≤255:=((aqg.1 he).elim (ok e) (I0 hH e)).2.2;omega)
  rw[q1,q2,← Kx] at cn;rw[B0,← Kx];have ap:=u4 (s7 p);have aq:=u4 (iR p r c (cF L 1) (cF L 4) ns);have pl:(s7 p).length≤3:=by have:=congrArg List.length (Kx p); rw[apS] at this; omega
  clear B0 r0 r1 r2 ok q1 q2;generalize cu (iR p r c (cF L 1) (cF L 4) ns++(s7 p++[⟨true,0,[]⟩]))=R at *
  generalize iR p r c (cF L 1) (cF L 4) ns=X at *
  generalize s7 p=Y at *
  simp only[ap8,apW,ap4,bB] at cn ce;unfold j6 cH bX dW dI at *
  generalize eT L=M at *
  have tk:∀ a:D,((X++Y).map bB++[a]).take (X.length+Y.length+1)=X.map bB++(Y.map bB++[a]):=fun a=>by rw[apX (by simp; omega),ap8,ap6]
  simp only[nu,ai,af,seval];refine sD (c1) ?_;refine sD (c2) ?_;refine sD (c3) ?_;refine sD (c4) ?_;refine sD (c5) ?_;refine sD (c6) ?_;refine sD (c7) ?_;refine sD (c8) ?_;refine sC (c9) ?_;simp only[gH,af,seval];refine sD (ca) ?_;refine sC (cp) ?_;simp only[cg,ap,af,seval,iteOmega];refine sC (ce) ?_;simp only[cg,af,seval,iteOmega];refine bM cn (by simp only[af,seval,iteOmega,tk] <;> rfl) (.inr (JN _ _ _ _)) ?_;simp only[af,seval];exact bz
def qc (l:List Ek):Int:=if 8<(ba l 5).length then 8 else if ¬ ∀ x∈oJ l,x.length=104 then 3 else 0
def z7 (l:List Ek):List (List UInt8):=if qc l=0 then oJ l else []
def lA (x:List Ek):List (List UInt8):=x.map (·.bo)
def DD (x:List Ek) (i:Nat):St:=⟨bw [(4,.w (.c (.own 1 1 0 (lA (x.take i)).length))),(12,.w (.c (.d (.sl (x.map bB))))),(13,.w (.c (.d (.int .i64 (x.length:Int))))),(14,.w (.c (.d (.int .i64 (i:Int)))))],hL [(1,.row 1 ((lA (x.take i)).map fun l=>D.sl (l.map bD)))],uL [1]⟩
theorem Y5 (l:List (List UInt8)):eZ 1 (l.map fun l=>D.sl (l.map bD))=true:=xW _ (fun _=>rfl) l
def Be:bp := ae [aU .lss 15 14 13] (.seq (ar 15 .skip (.exit 0)) (.seq (.block 1 (ae [bU 16 3 12 14,bn 17 3 16,oO 6 (.alloc [cD,ah,.nil]),aS 3 6 17] (.seq (ae [aL 18 2 6,aA 19 18,bd 20 19,ak .neq 21 20 104] (ar 21 (ae [aQ 2,am 3 3] .ret) .skip)) (.reg [oM 22 4,aL 23 2 6,aA 24 23,oO 25 (.bldSl false 1 1 (.sl []) [(0,(.t 24))]),oO 26 (.app false 1 24 (.t 22) (.t 25)),oM 4 26])))) (.reg [ak .add 27 14 1,oM 14 27])))
def Jp:aO:=⟨1,29,ae [aQ 2,am 3 0] (.seq (ae [oM 7 0,oO 8 (.mpGet .i64 (.sl []) false (.t 7) (kI 5)),bd 9 8,ak .gtr 10 9 8] (ar 10 (ae [aQ 2,am 3 8] .ret) .skip)) (ae [oO 4 (.nilOwn 1)] (.seq (ae [oM 11 0,oO 12 (.mpGet .i64 (.sl []) false (.t 11) (kI 5)),bd 13 12,am 14 0] (.block 0 (.loop Be))) (ae [oM 28 4,oM 2 28,am 3 0] .ret)))),[(2,none),(3,none)]⟩
theorem amn:aM Tryz.prog { own:=[4] } Tryz.f121=some Jp:=by kernel_rfl
theorem aoL (G:au) (l:List Ek) (hl:l.length≤1000000):aF Tryz.prog G 121 [dW l] (.tup [.c (.d (dI (z7 l))),.c (.d (.int .i64 (qc l)))]):=by
  refine aX Tryz.func121 amn rfl rfl ?_;have hk:=Ji l 5;have hE:qc l=if 8<(ba l 5).length then 8 else if ¬ ∀ x∈lA (ba l 5),x.length=104 then 3 else 0:=rfl
  have hR:z7 l=if qc l=0 then lA (ba l 5) else []:=rfl
  generalize qc l=e at *
  generalize z7 l=R at *
  unfold dW;generalize eT l=E at *
  generalize ba l 5=x at *
  by_cases h8:8<x.length
  ·rw[if_pos h8] at hE;subst hE;rw[if_neg (by decide)] at hR;subst hR;have g1:((x.length:Int)>8)=True:=eq_true (by omega);simp only[Jp,ai,dI,af,seval,fo,hk,g1];exact bz
  ·rw[if_neg h8] at hE;have g1:((x.length:Int)>8)=False:=eq_false (by omega);simp only[Jp,ai,dI,af,seval,fo,hk,g1];refine bO (DD x) (fun i=>x.length-i) (fun i=>i≤x.length∧∀ b∈lA (x.take i),b.length=104) 0 ⟨apZ _,by rw[arb]; exact fun n h=>by cases h⟩ ?_ ?_
   ·refine aR (fun _=>32) ?_ ?_ rfl rfl <;> simp only[wx,aH,seval] <;> first | rfl | exact⟨rfl,rfl⟩ | skip
   ·rintro i ⟨hi,hp⟩;have az:=Y5 (lA (x.take i));have bl:(lA (x.take i)).length=i:=by unfold lA; rw[ap1,ap0]; omega
    by_cases hlt:i<x.length
    ·have g:=qS hlt;have hm:(x.getD i default).bo∈lA x:=aqa.2 ⟨_,oV hlt,rfl⟩;have hs:lA (x.take (i+1))=lA (x.take i)++[(x.getD i default).bo]:=by unfold lA; rw[Al hlt,ap8]; rfl
     generalize x.getD i default=r at *
     obtain⟨rc,rt,rb⟩:=r;dsimp only at *
     by_cases h1:rb.length=104
     ·have g2:((rb.length:Int)=104)=True:=eq_true (by omega);have hn:∀ b∈lA (x.take (i+1)),b.length=104:=by
        rw[hs];intro n q;rcases aqg.1 q with q | q
        ·exact hp n q
        ·rw[apY.1 q]; exact h1
      generalize hB:lA (x.take i)=B at *
      simp only[Be,DD,hB,af,aa,seval,iteOmega,toNatUp,bc,g,bB,g2,cg];refine bA (i+1) (by omega) ⟨by omega,hn⟩ (aR (fun _=>208) ?_ ?_ rfl rfl) <;> simp only[hs,ap8,wx,aH,aV,seval] <;> first | rfl | exact⟨rfl,rfl⟩ | skip
     ·rw[if_pos fun q=>h1 (q rb hm)] at hE;subst hE;rw[if_neg (by decide)] at hR;subst hR;have g2:((rb.length:Int)=104)=False:=eq_false (by omega);generalize hB:lA (x.take i)=B at *
      simp only[Be,DD,hB,af,aa,seval,iteOmega,toNatUp,bc,g,bB,g2];exact bz
    ·obtain rfl:i=x.length:=by omega
     rw[aqy] at hp az bl;rw[if_neg (not_not_intro hp)] at hE;subst hE;rw[if_pos rfl] at hR;subst hR;simp only[Be,DD,aqy,af,seval,iteOmega];exact bz
def fG (lo lm:List Ek) (k:Int):Option Int:=if (cF lm k).length=1∧(cF lm k).getD 0 0∈cF lo k then some ((cF lm k).getD 0 0) else none
def CN:aO:=⟨3,28,ae [am 6 0,bG 7 false] (ae [oM 9 1,oM 10 2,ct 11 118 9 10,oM 8 11] (.seq (ae [oM 12 8,bd 13 12,ak .neq 14 13 1,oM 15 14,bJ 16 0 15 false,bJ 17 2 15 false,oG 18 (.call 118 [(.t 16),(.t 17)] none) 15 false,bJ 19 8 15 false,oG 20 (.idxSl 1 (.t 19) (kI 0)) 15 false,dt 21 20 15 false,oG 22 (.call 148 [(.t 18),(.t 21)] none) 15 false,gn 23 22 15 false,cv 24 15 23] (ar 24 (ae [am 6 0,bG 7 false] .ret) .skip)) (ae [oM 25 8,oO 26 (.idxSl 1 (.t 25) (kI 0)),aA 27 26,oM 6 27,bG 7 true] .ret))),[(6,none),(7,none)]⟩
theorem amo:aM Tryz.prog {} Tryz.f120=some CN:=by kernel_rfl
theorem Ve (G:au) (lo lm:List Ek) (k:Int) (ho:∀ r∈lo,r.bo.length≤65535) (hm:∀ r∈lm,r.bo.length≤65535):aF Tryz.prog G 120 [dW lo,dW lm,.int .i64 k] (.tup [.c (.d (.int .i64 ((fG lo lm k).getD 0))),.c (.d (.bool (fG lo lm k).isSome))]):=by
  refine aX Tryz.func120 amo rfl rfl ?_;have c1:=wE G lm k fun r hr=>by have:=hm r hr; omega
  have c2:=wE G lo k fun r hr=>by have:=ho r hr; omega
  have n2:(cF lo k).length≤65535:=aqG (yT _) (vG ho k);have c3:=U5 G (cF lo k) ((cF lm k).getD 0 0) (by omega);have hT:fG lo lm k=if (cF lm k).length=1∧(cF lm k).getD 0 0∈cF lo k then some ((cF lm k).getD 0 0) else none:=rfl
  unfold dW at *
  generalize fG lo lm k=T at *
  generalize cF lo k=O at *
  generalize hN:cF lm k=N at *
  generalize eT lo=E1 at *
  generalize eT lm=E2 at *
  by_cases h1:N.length=1
  ·have g1:((N.length:Int)=1)=True:=eq_true (by omega);have g:=wU (l:=N) (i:=0) (by omega);generalize N.getD 0 0=v at *
   by_cases h2:v∈O
   ·rw[if_pos ⟨h1,h2⟩] at hT;rw[decide_eq_true h2] at c3;subst hT;rw[aq9,arF];simp only[CN,ai,af,seval];refine sC (c1) ?_;simp only[g1,af,seval];refine sC (c2) ?_;simp only[bc,g,zD,af,seval,iteOmega,toNatUp];refine sC (c3) ?_;simp only[bc,g,zD,af,seval,iteOmega,toNatUp];exact bz
   ·rw[if_neg fun q=>h2 q.2] at hT;rw[decide_eq_false h2] at c3;subst hT;rw[arv,arI];simp only[CN,ai,af,seval];refine sC (c1) ?_;simp only[g1,af,seval];refine sC (c2) ?_;simp only[bc,g,zD,af,seval,iteOmega,toNatUp];refine sD (c3) ?_;exact bz
  ·have g1:((N.length:Int)=1)=False:=eq_false (by omega);rw[if_neg fun q=>h1 q.1] at hT;subst hT;rw[arv,arI];simp only[CN,ai,af,seval];refine sC (c1) ?_;simp only[g1,af,seval];exact bz
theorem aoM {b:List UInt8} {v:Int} (h:v∈iQ b):0≤v∧v≤65535:=by
  unfold iQ at h;split at h
  ·rename_i he;unfold rx oI at h;obtain⟨i,hi,rfl⟩:=aqa.1 h;have:=arH.1 hi;exact aj2 (by omega)
  ·cases h
theorem Vf {lo lm:List Ek} {k v:Int} (h:fG lo lm k=some v):0≤v∧v≤65535:=by
  unfold fG at h;split at h
  ·rename_i q;cases h;exact aoM q.2
  ·cases h
def rD (lo lm:List Ek):Int:=if ¬ ((fG lo lm 1).isSome=true∧(fG lo lm 4).isSome=true∧0<(ba lm 5).length) then 10 else qc lm
def xC (c:Ch) (lo lm:List Ek):xr:=if rD lo lm=0 then ⟨(fG lo lm 1).getD 0,(fG lo lm 4).getD 0,cI c ((fG lo lm 1).getD 0) ((fG lo lm 4).getD 0) 0,cI c ((fG lo lm 1).getD 0) ((fG lo lm 4).getD 0) 1,oJ lm,fF lm 6,(bq (fF lm 7):Int)⟩ else xu
theorem qL:nI xu=.agg [.int .i64 0,.int .i64 0,.sl [],.sl [],.sl [],.str ⟨#[]⟩,.int .i64 0]:=rfl
def vY:aO:=⟨3,68,ae [cX 3 0,oO 6 (.alloc [ah,ah,.nil,.nil,.nil,(.d (.str ⟨#[]⟩)),ah]),am 7 0] (ae [oM 17 1,oM 18 2,oO 19 (.call 120 [(.t 17),(.t 18),(kI 1)] none),oM 16 19,aC 20 16 0,aC 21 16 1,oM 8 20,oM 9 21] (ae [oM 23 1,oM 24 2,oO 25 (.call 120 [(.t 23),(.t 24),(kI 4)] none),oM 22 25,aC 26 22 0,aC 27 22 1,oM 10 26,oM 11 27] (.seq (ae [oM 28 9,cW 29 28,oM 30 29,bJ 31 11 30 false,gn 32 31 30 false,cv 33 30 32,oM 34 33,bJ 35 2 34 false,oG 36 (.call 77 [(.t 35),(kI 5)] none) 34 false,gn 37 36 34 false,cv 38 34 37] (ar 38 (ae [oO 39 (.build [ah,ah,.nil,.nil,.nil,(.d (.str ⟨#[]⟩)),ah] []),aS 7 6 39,am 7 10] .ret) .skip)) (ae [oM 41 2,aY 42 121 41,oM 40 42,aC 43 40 0,aC 44 40 1,oM 12 43,oM 13 44] (.seq (ae [oM 45 13,ak .neq 46 45 0] (ar 46 (ae [oO 47 (.build [ah,ah,.nil,.nil,.nil,(.d (.str ⟨#[]⟩)),ah] []),
 oM 48 13,aS 7 6 47,oM 7 48] .ret) .skip)) (ae [bn 50 6 3,oM 51 8,oM 52 10,gq 53 119 50 51 52,oM 49 53,aC 54 49 0,aC 55 49 1,oO 14 (.alloc [.nil,.nil]),aS 2 14 54,oM 15 55] (ae [oM 56 8,oM 57 10,bn 58 2 14,oM 59 12,oM 60 2,oO 61 (.call 122 [(.t 60),(kI 6)] none),oO 62 (.b2s (.t 61)),oM 63 2,oO 64 (.call 122 [(.t 63),(kI 7)] none),aY 65 68 64,oO 66 (.conv .i64 (.t 65)),oO 67 (.build [ah,ah,.nil,.nil,.nil,(.d (.str ⟨#[]⟩)),ah] [(0,1,(.t 56)),(1,1,(.t 57)),(2,2,(.t 58)),(4,1,(.t 59)),(5,1,(.t 62)),(6,1,(.t 66))]),aS 7 6 67,am 7 0] .ret))))))),[(6,(some (.ag 7))),(7,none)]⟩
theorem amq:aM Tryz.prog {} Tryz.f78=some vY:=by kernel_rfl
theorem aoN (G:au) (hF:G.at 0=some (.ra (dY.map wD))) (hG:G.at 1=some (.ra (cy.map wD))) (c:Ch) (lo lm:List Ek) (vC:eV c) (ho:∀ r∈lo,r.bo.length≤65535) (hm:∀ r∈lm,r.bo.length≤65535) (hl:lm.length≤1000000) (h7:(fF lm 7).length≤2):aF Tryz.prog G 78 [bX c,dW lo,dW lm] (.tup [.c (.d (nI (xC c lo lm))),.c (.d (.int .i64 (rD lo lm)))]):=by
  refine aX Tryz.func78 amq rfl rfl ?_;have c1:=Ve G lo lm 1 ho hm;have c4:=Ve G lo lm 4 ho hm;have c5:=sr G lm 5;have c6:=aoL G lm hl;have b6:=Ku G lm 6;have b7:=Ku G lm 7;have hE:rD lo lm=if ¬ ((fG lo lm 1).isSome=true∧(fG lo lm 4).isSome=true∧0<(ba lm 5).length) then 10 else qc lm:=rfl
  have hT:xC c lo lm=if rD lo lm=0 then ⟨(fG lo lm 1).getD 0,(fG lo lm 4).getD 0,cI c ((fG lo lm 1).getD 0) ((fG lo lm 4).getD 0) 0,cI c ((fG lo lm 1).getD 0) ((fG lo lm 4).getD 0) 1,oJ lm,fF lm 6,(bq (fF lm 7):Int)⟩ else xu:=rfl
  have hCR:qc lm=0→z7 lm=oJ lm:=fun h=>if_pos h
  have j1:=fun v=>Vf (lo:=lo) (lm:=lm) (k:=1) (v:=v)
  have j4:=fun v=>Vf (lo:=lo) (lm:=lm) (k:=4) (v:=v)
  have gt:=kH G (fF lm 7) (by omega);have gb:bq (fF lm 7)<65536:=by
    rcases aqk (fF lm 7).length 2 with h | h
    ·match hx:fF lm 7,h with
     | [],_=>decide
     | [x],_=>have:=(jk 1 [x] rfl (by decide)).1; omega
    ·exact (jk 2 (fF lm 7) (by omega) (by decide)).1
  unfold dW at *
  generalize xC c lo lm=T at *
  generalize rD lo lm=e at *
  generalize fG lo lm 1=t1 at *
  generalize fG lo lm 4=t4 at *
  generalize (ba lm 5).length=n5 at *
  generalize qc lm=ce at *
  generalize z7 lm=cR at *
  generalize oJ lm=cL at *
  generalize bq (fF lm 7)=P7 at *
  generalize fF lm 6=B6 at *
  generalize fF lm 7=B7 at *
  generalize eT lo=E1 at *
  generalize eT lm=E2 at *
  have bad:e=10→T=xu:=fun h=>by rw[hT,if_neg (by rw[h]; decide)]
  rcases t1 with _ | v
  ·rw[if_pos (fun q=>by cases q.1)] at hE;rw[bad hE,hE,qL];simp only[arv,arI] at c1;unfold bX;generalize t4.getD 0=w4 at *
   generalize t4.isSome=s4 at *
   simp only[vY,ai,af,seval];refine sD (c1) ?_;refine sD (c4) ?_;exact bz
  ·simp only[aq9,arF] at c1;rcases t4 with _ | a
   ·rw[if_pos (fun q=>by cases q.2.1)] at hE;rw[bad hE,hE,qL];simp only[arv,arI] at c4;unfold bX;simp only[vY,ai,af,seval];refine sD (c1) ?_;refine sD (c4) ?_;exact bz
   ·simp only[aq9,arF] at c4;by_cases h5:0<n5
    ·rw[decide_eq_true h5] at c5;rw[if_neg (not_not_intro ⟨rfl,rfl,h5⟩)] at hE;subst hE;by_cases h0:e=0
     ·subst h0;rw[if_pos rfl] at hT;subst hT;rw[hCR rfl] at c6;have kz:=U8 G hF hG c v a;rw[tW vC (j1 v rfl) (j4 a rfl)] at kz;simp only[aq9];unfold nI dI bX gD at *
      generalize cI c v a 0=U at *
      generalize cI c v a 1=W at *
      simp only[vY,ai,af,seval];refine sD (c1) ?_;refine sD (c4) ?_;refine sD (c5) ?_;refine sD (c6) ?_;refine sD (kz) ?_;refine sC (b6) ?_;simp only[Gg,af,seval];refine sD (b7) ?_;refine sD (gt) ?_;exact bz
     ·have g0:=eq_false h0;rw[if_neg h0] at hT;subst hT;rw[qL];unfold dI bX at *
      generalize (cR.map fun l=>D.sl (l.map bD))=cc at *
      simp only[vY,ai,af,seval];refine sD (c1) ?_;refine sD (c4) ?_;refine sD (c5) ?_;refine sC (c6) ?_;simp only[g0,af,aa,seval];exact bz
    ·rw[decide_eq_false h5] at c5;rw[if_pos (fun q=>h5 q.2.2)] at hE;rw[bad hE,hE,qL];unfold bX;simp only[vY,ai,af,seval];refine sD (c1) ?_;refine sD (c4) ?_;refine sD (c5) ?_;exact bz
theorem amr {x y:List Int} (h:fX x y=0):cF (gz x y) 1=x∧cF (gz x y) 4=y:=by
  obtain⟨h1,h2,_⟩:=zI h;obtain⟨a1,a4,_⟩:=Uy x y;unfold cF fF;rw[a1,a4];exact⟨rK h1,rK h2⟩
theorem TR {q:List UInt8} (h:nJ q):cF (br q) 1=mX q∧cF (br q) 4=mY q:=by
  obtain⟨_,_,h3,h4⟩:=h;have h5:=(J7 h3).2.1;rw[h4] at h5;have:=amr h3;rw[← h5] at this;exact this
theorem agJ {q:List UInt8} (hF:iE q):nJ q↔(fX (cF (br q) 1) (cF (br q) 4)=0∧df (cF (br q) 1) (cF (br q) 4)=q):=by
  constructor
  ·intro h;obtain⟨e1,e2⟩:=TR h;rw[e1,e2];exact⟨h.2.2.1,h.2.2.2⟩
  ·rintro⟨h1,h2⟩;have:=(Vu h1).1;rw[h2] at this;exact this
def CO:aO:=⟨1,31,ae [oO 2 (.mv (.k (.c (.d (.mp .i64 []))))),bG 3 false] (ae [oM 9 0,aY 10 69 9,oM 8 10,aC 11 8 0,aC 12 8 1,oM 4 11,oM 5 12] (.seq (ae [oM 13 5,cW 14 13] (ar 14 (ae [oO 2 (.mv (.k (.c (.d (.mp .i64 []))))),bG 3 false] .ret) .skip)) (ae [oM 16 4,oO 17 (.call 118 [(.t 16),(kI 1)] none),oM 18 4,oO 19 (.call 118 [(.t 18),(kI 4)] none),ct 20 24 17 19,oM 15 20,aC 21 15 0,aC 22 15 1,oM 6 21,oM 7 22] (ae [oM 23 4,oM 24 7,ak .eql 25 24 0,oM 26 25,bJ 27 6 26 true,bJ 28 0 26 true,oG 29 (.call 81 [(.t 27),(.t 28)] none) 26 true,ek 30 26 29,oM 2 23,oM 3 30] .ret)))),[(2,none),(3,none)]⟩
theorem ams:aM Tryz.prog {} Tryz.f76=some CO:=by kernel_rfl
theorem aoO (G:au) (b:List UInt8) (hb:b.length≤1000000000):aF Tryz.prog G 76 [.sl (b.map bD)] (.tup [.c (.d (dW (mW b))),.c (.d (.bool (decide (nJ b))))]):=by
  refine aX Tryz.func76 ams rfl rfl ?_;have c:=Kv G b hb;by_cases hF:iE b
  ·have hQ:=agJ hF;rw[decide_eq_true hF,show mW b=br b from if_pos hF] at c;rw[show mW b=br b from if_pos hF];obtain⟨hbo,hl⟩:=Cx (b:=b);generalize br b=L at *
   have d1:=wE G L 1 fun r hr=>by have:=hbo r hr; omega
   have d4:=wE G L 4 fun r hr=>by have:=hbo r hr; omega
   have n1:(cF L 1).length≤65535:=aqG (yT _) (vG hbo 1);have n4:(cF L 4).length≤65535:=aqG (yT _) (vG hbo 4);have cq:=U4 G (cF L 1) (cF L 4) (by omega) (by omega);have cs:=rV G (df (cF L 1) (cF L 4)) b;unfold dW at *
   generalize cF L 1=N1 at *
   generalize cF L 4=N4 at *
   generalize eT L=E at *
   by_cases h0:fX N1 N4=0
   ·rw[h0] at cq;have hd:decide (nJ b)=(df N1 N4==b):=by
      by_cases h1:df N1 N4=b
      ·rw[decide_eq_true (hQ.2 ⟨h0,h1⟩),h1]; simp
      ·rw[decide_eq_false fun q=>h1 (hQ.1 q).2]; simp[h1]
    rw[hd];generalize (df N1 N4==b)=d at *
    generalize df N1 N4=R at *
    clear hQ hd;simp only[CO,ai,af,seval];refine sD (c) ?_;refine sD (d1) ?_;refine sD (d4) ?_;refine sD (cq) ?_;refine sD (cs) ?_;exact bz
   ·have g0:=eq_false h0;rw[decide_eq_false fun q=>h0 (hQ.1 q).1];generalize fX N1 N4=e at *
    generalize df N1 N4=R at *
    clear hQ;simp only[CO,ai,af,seval];refine sD (c) ?_;refine sD (d1) ?_;refine sD (d4) ?_;refine sC (cq) ?_;simp only[g0,af,seval];exact bz
  ·rw[decide_eq_false hF,show mW b=[] from if_neg hF,yy] at c;rw[decide_eq_false fun q:nJ b=>hF q.1,show mW b=[] from if_neg hF,yy];simp only[CO,ai,af,seval];refine sD (c) ?_;exact bz
theorem TS {b:List UInt8} (h:iE b):(ba (br b) 1).length≤1∧(ba (br b) 4).length≤1∧(ba (br b) 6).length≤1∧(ba (br b) 7).length≤1:=by
  obtain⟨_,⟨_,_,_,h4,h5,h6,h7⟩,_⟩:=h;rw[dR] at h4 h5 h6 h7;exact⟨h4,h5,h6,h7⟩
theorem Ef {l:List Ek} {k:Int} (h:ba l k=[]):fF l k=[]∧cF l k=[]:=by
  have:fF l k=[]:=by unfold fF; rw[h]; rfl
  exact⟨this,by unfold cF; rw[this]; rfl⟩
theorem Vg {lo lm:List Ek} {k:Int} {x:List Int} (h:(ba lm k).length≤1) (hx:cF lo k=x):je lm k x=fG lo lm k:=by
  unfold je fG;rw[hx,dR];by_cases h1:(ba lm k).length=1
  ·rw[if_pos h1,Kz (by omega)]
  ·have h2:ba lm k=[]:=aqA.1 (by omega);rw[if_neg h1,(Ef h2).2,if_neg (by simp)]
theorem amt {l:List Ek} (h:(ba l 6).length≤1):xv l=fF l 6:=by
  unfold xv;rw[dR];by_cases h1:(ba l 6).length=1
  ·rw[if_pos h1,rM (by rw[dR]; omega)]; rfl
  ·rw[if_neg h1,(Ef (aqA.1 (by omega))).1]
theorem amu {l:List Ek} (h:(ba l 7).length≤1):xw l=(bq (fF l 7):Int):=by
  unfold xw;rw[dR];by_cases h1:(ba l 7).length=1
  ·rw[if_pos h1,rM (by rw[dR]; omega)]; rfl
  ·rw[if_neg h1,(Ef (aqA.1 (by omega))).1]; rfl
theorem hm7 {b:List UInt8} (h:iE b):(fF (br b) 7).length≤2:=by
  obtain⟨_,_,_,h7⟩:=TS h;rcases aqk 0 (ba (br b) 7).length with h1 | h1
  ·have hm:=arf.1 (oV h1);have:=(h.2.2 _ hm.1).2 (of_decide_eq_true hm.2);exact Nat.le_of_eq this
  ·rw[(Ef (aqA.1 (by omega))).1]; decide
theorem aoP {c:Ch} {q b:List UInt8} (vC:eV c) (hq:nJ q) (hF:iE b) (hS:ml (br b)=false) (h2:¬ 0<(ba (br b) 2).length):iF c q b=rD (br q) (br b)∧uz c q b=xC c (br q) (br b):=by
  obtain⟨k1,k4,k6,k7⟩:=TS hF;obtain⟨x1,x4⟩:=TR hq;have o1:=Vg (lo:=br q) (lm:=br b) k1 x1;have o4:=Vg (lo:=br q) (lm:=br b) k4 x4;have e:iF c q b=rD (br q) (br b):=by
    unfold iF rD qc;rw[if_neg (not_not_intro vC),if_neg (not_not_intro hq),if_neg (not_not_intro hF),if_neg (by rw[hS]; decide),dR,if_neg (by omega),o1,o4,dR];by_cases h:(fG (br q) (br b) 1).isSome=true∧(fG (br q) (br b) 4).isSome=true∧0<(ba (br b) 5).length
    ·rw[if_neg (not_not_intro h),if_neg (not_not_intro ⟨h.1,h.2.1,by omega⟩)]
    ·rw[if_pos h,if_pos fun g=>h ⟨g.1,g.2.1,by omega⟩]
  refine⟨e,?_⟩;unfold uz xC;rw[e,o1,o4,amt k6,amu k7]
def tP:aO:=⟨3,43,ae [cX 3 0,oO 6 (.alloc [ah,ah,.nil,.nil,.nil,(.d (.str ⟨#[]⟩)),ah]),am 7 0] (.seq (ae [bn 11 6 3,aY 12 61 11,cW 13 12] (ar 13 (ae [oO 14 (.build [ah,ah,.nil,.nil,.nil,(.d (.str ⟨#[]⟩)),ah] []),aS 7 6 14,am 7 3] .ret) .skip)) (ae [oM 16 1,aY 17 76 16,oM 15 17,aC 18 15 0,aC 19 15 1,oM 8 18,oM 9 19] (.seq (ae [oM 20 9,cW 21 20] (ar 21 (ae [oO 22 (.build [ah,ah,.nil,.nil,.nil,(.d (.str ⟨#[]⟩)),ah] []),aS 7 6 22,am 7 3] .ret) .skip)) (ae [oM 24 2,aY 25 69 24,oM 23 25,aC 26 23 0,aC 27 23 1,oM 10 26,oM 9 27] (.seq (ae [oM 28 9,cW 29 28] (ar 29 (ae [oO 30 (.build [ah,ah,.nil,.nil,.nil,(.d (.str ⟨#[]⟩)),ah] []),aS 7 6 30,am 7 3] .ret) .skip)) (.seq (ae [oM 31 10,aY 32 72 31] (ar 32 (ae [oO 33 (.build [ah,ah,.nil,.nil,.nil,(.d (.str ⟨#[]⟩)),ah] []),
 aS 7 6 33,am 7 11] .ret) .skip)) (.seq (ae [oM 34 10,oO 35 (.call 77 [(.t 34),(kI 2)] none)] (ar 35 (ae [oO 36 (.build [ah,ah,.nil,.nil,.nil,(.d (.str ⟨#[]⟩)),ah] []),aS 7 6 36,am 7 7] .ret) .skip)) (ae [bn 37 6 3,oM 38 8,oM 39 10,gq 40 78 37 38 39,aC 41 40 0,aC 42 40 1,aS 7 6 41,oM 7 42] .ret)))))))),[(6,(some (.ag 7))),(7,none)]⟩
theorem amv:aM Tryz.prog {} Tryz.f28=some tP:=by kernel_rfl
theorem aoQ (G:au) (hF:G.at 0=some (.ra (dY.map wD))) (hG:G.at 1=some (.ra (cy.map wD))) (c:Ch) (q b:List UInt8) (hq:q.length≤1000000000) (hb:b.length≤1000000000):aF Tryz.prog G 28 [bX c,.sl (q.map bD),.sl (b.map bD)] (.tup [.c (.d (nI (uz c q b))),.c (.d (.int .i64 (iF c q b)))]):=by
  refine aX Tryz.func28 amv rfl rfl ?_;have c1:=wm G hF hG c;have hno:∀ e,iF c q b=e→e≠0→uz c q b=xu:=fun e h1 h2=>if_neg (by rw[h1]; exact h2)
  by_cases vC:eV c
  case neg =>
    rw[decide_eq_false vC] at c1;have E:iF c q b=3:=if_pos vC;rw[hno 3 E (by decide),E,qL];unfold bX at *
    simp only[tP,ai,af,seval];refine sD (c1) ?_;exact bz
  rw[decide_eq_true vC] at c1;have c2:=aoO G q hq;by_cases hQ:nJ q
  case neg =>
    rw[decide_eq_false hQ] at c2;have E:iF c q b=3:=by unfold iF; rw[if_neg (not_not_intro vC),if_pos hQ]
    rw[hno 3 E (by decide),E,qL];unfold bX dW at *
    simp only[tP,ai,af,seval];refine sD (c1) ?_;refine sD (c2) ?_;exact bz
  rw[decide_eq_true hQ,show mW q=br q from if_pos hQ.1] at c2;have c3:=Kv G b hb;by_cases hFm:iE b
  case neg =>
    rw[decide_eq_false hFm] at c3;have E:iF c q b=3:=by unfold iF; rw[if_neg (not_not_intro vC),if_neg (not_not_intro hQ),if_pos hFm]
    rw[hno 3 E (by decide),E,qL];unfold bX dW at *
    simp only[tP,ai,af,seval];refine sD (c1) ?_;refine sD (c2) ?_;refine sD (c3) ?_;exact bz
  rw[decide_eq_true hFm,show mW b=br b from if_pos hFm] at c3;obtain⟨hbo,hl⟩:=Cx (b:=b);obtain⟨hbq,_⟩:=Cx (b:=q);have c4:=Va G (br b) (by omega);rcases hS:ml (br b) with _ | _
  case true =>
    rw[hS] at c4;have E:iF c q b=11:=by unfold iF; rw[if_neg (not_not_intro vC),if_neg (not_not_intro hQ),if_neg (not_not_intro hFm),if_pos hS]
    rw[hno 11 E (by decide),E,qL];unfold bX dW at *
    generalize eT (br q)=E1 at *
    generalize eT (br b)=E2 at *
    simp only[tP,ai,af,seval];refine sD (c1) ?_;refine sD (c2) ?_;refine sD (c3) ?_;refine sD (c4) ?_;exact bz
  rw[hS] at c4;have c5:=sr G (br b) 2;by_cases h2:0<(ba (br b) 2).length
  ·rw[decide_eq_true h2] at c5;have E:iF c q b=7:=by unfold iF; rw[if_neg (not_not_intro vC),if_neg (not_not_intro hQ),if_neg (not_not_intro hFm),if_neg (by rw[hS]; decide),if_pos (by rw[dR]; omega)]
   rw[hno 7 E (by decide),E,qL];unfold bX dW at *
   generalize eT (br q)=E1 at *
   generalize eT (br b)=E2 at *
   simp only[tP,ai,af,seval];refine sD (c1) ?_;refine sD (c2) ?_;refine sD (c3) ?_;refine sD (c4) ?_;refine sD (c5) ?_;exact bz
  ·rw[decide_eq_false h2] at c5;obtain⟨e1,e2⟩:=aoP vC hQ hFm hS h2;rw[e1,e2];have c6:=aoN G hF hG c (br q) (br b) vC hbq hbo (by omega) (hm7 hFm);generalize xC c (br q) (br b)=T at *
   generalize rD (br q) (br b)=e at *
   unfold nI at *
   unfold bX dW at *
   generalize eT (br q)=E1 at *
   generalize eT (br b)=E2 at *
   simp only[tP,ai,af,seval];refine sD (c1) ?_;refine sD (c2) ?_;refine sD (c3) ?_;refine sD (c4) ?_;refine sD (c5) ?_;refine sD (c6) ?_;exact bz
theorem amw:fX [0] [15]=0∧(df [0] [15]).length≤100:=by
  have h:fX [0] [15]=0:=by decide
  have e:df [0] [15]=cu (gz [0] [15]):=if_pos h;refine⟨h,?_⟩;rw[e];have:(cu (gz [0] [15])).length≤3*(2+4):=yO (m:=2) fun e he=>by
    rcases aqh.1 he with rfl | he
    ·show (bH [0]).length≤2; rw[iW]; exact ap3 _
    ·rcases aqh.1 he with rfl | he
     ·show (bH [15]).length≤2; rw[iW]; exact ap3 _
     ·rw[apY.1 he]; exact apZ _
  omega
theorem y8 (cl:Bool) (K:List UInt8) (n m:Int):bX (bV cl K n m)=.agg [.bool cl,.sl (K.map bD),.sl (((bV cl K 0 0).sk).map bD),.sl (((bV cl K 0 0).rk).map bD),.int .i64 n,.int .i64 m]:=rfl
theorem agK (l:List (List UInt8)):D.noU8 (.sl (l.map fun l=>D.sl (l.map bD)))=true:=by
  show (l.map _).all _=true
  rw[List.all_map,ap9];exact fun _ _=>rfl
theorem aoR (l:List UInt8) (e:Int):V.byt (.tup [.c (.d (.sl (l.map bD))),.c (.d (.int .i64 e))])=true:=by
  have h:(l.map bD).all D.isU8=true:=by
    rw[List.all_map,ap9];exact fun _ _=>rfl
  show (((l.map bD).all D.isU8&&_)=true)
  rw[h]; rfl
theorem agM {p:gC} {r:List Fd} {c:Ch} {b:List UInt8} {ns:List (List UInt8)}:(kV p r c b ns).length≤4000:=by
  by_cases h0:iS p r c=0
  ·obtain⟨vC,vR,s1,s2,s3⟩:=Vv h0;have rf:∀ k:Int,(kU k).length≤4000:=fun k=>by
     have:(kU k).length≤2*(2+4):=yO (m:=2) fun e he=>by
       rcases aqh.1 he with rfl | he
       ·show (bH [k]).length≤2; rw[iW]; exact ap3 _
       ·rw[apY.1 he]; exact apZ _
     omega
   unfold kV;rw[if_neg (not_not_intro h0)];by_cases h1:rz b
   ·rw[if_neg (not_not_intro h1)];split
    ·exact rf 0
    ·by_cases hn:sY ns p.ho
     ·rw[if_neg (not_not_intro hn)];have ok:(∀ e∈iR p r c (jv (br b) 1) (jv (br b) 4) ns,0≤e.ty∧e.ty≤7∧e.bo.length≤255)∧(iR p r c (jv (br b) 1) (jv (br b) 4) ns).length≤10:=by
        unfold iR;rcases hx:gB (jv (br b) 1) p.pr with _ | v
        ·exact⟨fun e he=>(by rw[apY.1 he]; exact jA (by decide) (by decide)),show 1≤10 by decide⟩
        ·rcases hy:gB (jv (br b) 4) p.al with _ | a
         ·refine⟨fun e he=>?_,show 2≤10 by decide⟩;rcases aqh.1 he with rfl | he
          ·exact jA (by decide) (by rw[iW]; exact (show 2*1≤255 by decide))
          ·rw[apY.1 he]; exact jA (by decide) (by decide)
         ·have v2:=s1 _ (rW hx).2;have b2:=s2 _ (rW hy).2;have:=S7 (ns:=ns) vR (tW vC v2 b2) b2 hn.2.2.2;have e:jE r c v a ns ns.length=⟨true,1,bH [v]⟩::⟨true,4,bH [a]⟩::jM r c v a ns:=by unfold jE; rw[aqy]
          rw[e] at this;refine⟨this,?_⟩;have:=HE r c v a ns ns.length;rw[e] at this;have h8:=hn.2.1
          show (⟨true,1,bH [v]⟩::⟨true,4,bH [a]⟩::jM r c v a ns:List Ek).length≤10
          omega
      have h9:=yO (m:=255) fun e he=>((aqg.1 he).elim (ok.1 e) (I0 hn.2.2.1 e)).2.2
      have h3:=HF p;have h10:=ok.2;rw[apS] at h9;omega
     ·rw[if_pos hn]; exact rf 2
   ·rw[if_pos h1]; exact rf 1
  ·rw[show kV p r c b ns=[] from if_pos h0]; exact apZ _
def uk:Nat→V
  | 0=>.w (.c .nil)
  | j+1=>.w (.c (.own 4 1 0 (j+1)))
def um (s:Nat):Nat→List (Nat×Ob)
  | 0=>[]
  | j+1=>[(4,.row 1 ((fL s (j+1)).map fun l=>D.sl (l.map bD)))]
def DF (s n:Nat) (R:List D) (K A1 A2 B1 B2:List UInt8) (j:Nat):St:=⟨bw [(0,.w (.c (.d (.int .i64 (s:Int))))),(1,.w (.c (.d (.int .i64 (n:Int))))),(5,.w (.c (.rp [.sl R]))),(6,.w (.c (.ptr 1 1 0 0))),(8,.w (.c (.ptr 2 1 0 0))),(9,.w (.c (.ptr 3 1 0 0))),(10,uk j),(11,.w (.c (.d (.int .i64 (j:Int)))))],
  hL ((1,.box [.d (.int .i64 0),.d (.int .i64 0),.nil,.nil,.nil,.d (.str ⟨#[]⟩),.d (.int .i64 0)])::(2,.box [.d (.bool true),.d (.sl (K.map bD)),.d (.sl (A1.map bD)),.d (.sl (A2.map bD)),.d (.int .i64 0),.d (.int .i64 0)])::(3,.box [.d (.bool false),.d (.sl (K.map bD)),.d (.sl (B1.map bD)),.d (.sl (B2.map bD)),.d (.int .i64 0),.d (.int .i64 0)])::um s j),uL [1,2,3,4]⟩
def Bf:bp := .seq (ae [oM 30 11,oM 31 1,aU .lss 32 30 31] (ar 32 .skip (.exit 0))) (.seq (.block 1 (.reg [oM 35 10,oM 36 0,oM 37 11,ak .add 38 37 1,oO 39 (.bin .mul (kI 2000000) (.t 38)),aU .add 40 36 39,oO 41 (.call 11 [(.t 40),(kI 16)] none),oO 42 (.bldSl false 1 1 (.sl []) [(0,(.t 41))]),oO 43 (.app false 1 24 (.t 35) (.t 42)),oM 10 43])) (.reg [oM 33 11,ak .add 34 33 1,oM 11 34]))
def TT:aO:=⟨3,137,ae [cX 5 2,oO 6 (.alloc [ah,ah,.nil,.nil,.nil,(.d (.str ⟨#[]⟩)),ah]),bG 7 false] (ae [oM 26 0,aY 27 23 26,oM 25 27,aC 28 25 0,aC 29 25 1,oO 8 (.alloc [cD,.nil,.nil,.nil,ah,ah]),oO 9 (.alloc [cD,.nil,.nil,.nil,ah,ah]),aS 6 8 28,aS 6 9 29] (ae [aQ 10] (.seq (ae [am 11 0] (.block 0 (.loop Bf))) (ae [oO 45 (.bldSl false 1 1 dH [(0,(kI 0))]),oO 46 (.bldSl false 1 1 dH [(0,(kI 15))]),ct 47 24 45 46,oM 44 47,aC 48 44 0,aC 49 44 1,oM 12 48,oM 13 49] (ae [bn 51 6 8,oM 52 12,oO 53 (.call 25 [(.t 51),(kI 0),(.t 52)] none),oM 50 53,aC 54 50 0,aC 55 50 1,aC 56 50 2,aS 6 8 54,oM 14 55,oM 15 56] (ae [bn 58 6 9,oM 59 14,ct 60 26 58 59,oM 57 60,aC 61 57 0,aC 62 57 1,aC 63 57 2,aC 64 57 3,aS 6 9 61,oM 16 62,oM 12 63,oM 17 64] (ae [oO 66 (.bldSl false 1 1 dH [(0,(kI 0))]),
 oO 67 (.bldSl false 1 1 dH [(0,(kI 15))]),oO 68 (.build [.nil,.nil,(.d (.str ⟨#[]⟩)),ah] [(0,1,(.t 66)),(1,1,(.t 67))]),bn 69 1 5,bn 70 6 9,oM 71 12,oM 72 10,oO 73 (.call 27 [(.t 68),(.t 69),(.t 70),(.t 71),(.t 72)] none),oM 65 73,aC 74 65 0,aC 75 65 1,oM 18 74,oM 19 75] (ae [bn 77 6 9,oM 78 18,oO 79 (.call 25 [(.t 77),(kI 0),(.t 78)] none),oM 76 79,aC 80 76 0,aC 81 76 1,aC 82 76 2,aS 6 9 80,oM 14 81,oM 20 82] (ae [bn 84 6 8,oM 85 14,ct 86 26 84 85,oM 83 86,aC 87 83 0,aC 88 83 1,aC 89 83 2,aC 90 83 3,aS 6 8 87,oM 21 88,oM 18 89,oM 22 90] (ae [bn 92 6 8,oM 93 12,oM 94 18,gq 95 28 92 93 94,oM 91 95,aC 96 91 0,aC 97 91 1,oO 23 (.alloc [ah,ah,.nil,.nil,.nil,(.d (.str ⟨#[]⟩)),ah]),aS 7 23 96,oM 24 97] (ae [oO 98 (.loadX (.ag 7) (.t 23) [(.t 6)]),oM 99 13,ak .eql 100 99 0,
 oM 101 100,bJ 102 15 101 true,cC .eql 103 102 0 101 true,ek 104 101 103,oM 105 104,bJ 106 17 105 true,cC .eql 107 106 0 105 true,ek 108 105 107,oM 109 108,bJ 110 19 109 true,cC .eql 111 110 0 109 true,ek 112 109 111,oM 113 112,bJ 114 20 113 true,cC .eql 115 114 0 113 true,ek 116 113 115,oM 117 116,bJ 118 22 117 true,cC .eql 119 118 0 117 true,ek 120 117 119,oM 121 120,bJ 122 24 121 true,cC .eql 123 122 0 121 true,ek 124 121 123,oM 125 124,dF 126 4 23 125 true,oG 127 (.loadX .sc (.t 126) [(.t 6)]) 125 true,eY 128 127 125 true,bJ 129 1 125 true,rh .eql 130 128 129 125 true,ek 131 125 130,oM 132 131,dF 133 4 9 132 true,oG 134 (.loadX .sc (.t 133) [(.t 6)]) 132 true,cC .eql 135 134 1 132 true,ek 136 132 135,aS 7 6 98,oM 7 136] .ret))))))))))),[(6,(some (.ag 7))),(7,none)]⟩
theorem amx:aM Tryz.prog { lx:=[(98,[6]),(127,[6]),(134,[6])] } Tryz.f8=some TT:=by kernel_rfl
theorem Vh (G:au) (hF:G.at 0=some (.ra (dY.map wD))) (hG:G.at 1=some (.ra (cy.map wD))) (s t n:Nat) (hs:s<1000) (ht:t≤5) (h1:1≤n) (h8:n≤8):aF Tryz.prog G 8 [.int .i64 (s:Int),.int .i64 (n:Int),cH (bW s (bu (s:Int) 32) t)] (.tup [.c (.d (nI (oK s t n))),.c (.d (.bool true))]):=by
  refine aX Tryz.func8 amx rfl rfl ?_;have c1:=anV G (s:Int);obtain⟨q0,ql⟩:=amw;have kl:=QS (s:Int);have hU:oK s t n=⟨0,15,cI (bV false (lH (s:Int)) 0 (0+1)) 0 15 0,cI (bV false (lH (s:Int)) 0 (0+1)) 0 15 1,(fL s n).map fun x=>dC (gj s (bu (s:Int) 32) t) 15 (cI (bV false (lH (s:Int)) 0 (0+1)) 0 15 0) (cI (bV false (lH (s:Int)) 0 (0+1)) 0 15 1) x,j7.ho.data.toList,j7.pt⟩:=rfl;rw[hU];clear hU;generalize lH (s:Int)=K at *
  have c2:=U4 G [0] [15] (show (1:Nat)≤_ by decide) (show (1:Nat)≤_ by decide);rw[q0] at c2;have hz:(0:Int)≤0∧(0:Int)≤1099511627776:=by decide
  have hz1:(0:Int)≤0+1∧(0+1:Int)≤1099511627776:=by decide
  obtain⟨R1,⟨x1,x2,x3,x4⟩,y1,y2,y3,y4⟩:=QA (cl:=true) (K:=K) (b:=df [0] [15]) (n:=0) (m:=0) (k:=0) kl (by decide) hz (by decide) (by omega);have c3:=UC G hF hG (bV true K 0 0) 0 (df [0] [15]) (by omega);rw[x1,x2,x3] at c3;have c4:=UD G hF hG (bV (!true) K 0 0) R1 (by omega);rw[y1,y2,y3,y4,Bool.not_true] at c4;have hR:=af4 (s:=s) (K:=bu (s:Int) 32) (t:=t) (by omega) (zG (cl:=false) (n:=0) (m:=0+1) kl hz hz1);have hn:sY (fL s n) j7.ho:=⟨by rw[tj]; exact h1,by rw[tj]; exact h8,by decide,HR⟩
  have rl:=pb s (bu (s:Int) 32) t;have hv:=zG (cl:=true) (n:=0+1) (m:=0+1) kl hz1 hz1;obtain⟨_,_,ag⟩:=agree (c':=bV true K (0+1) (0+1)) q0 hR hn hv rfl;obtain⟨a1,a2,_,_,kz⟩:=ag 0 15 (by decide) (by decide);have sl:=agM (p:=j7) (r:=bW s (bu (s:Int) 32) t) (c:=bV false K 0 (0+1)) (b:=df [0] [15]) (ns:=fL s n);have c5:=aoK G hF hG j7 (bW s (bu (s:Int) 32) t) (bV false K 0 (0+1)) (df [0] [15]) (fL s n) (by decide) (by decide) (by decide) (by omega) (by omega) (by rw[tj]; omega) (fun x hx=>by have:=HR x hx; omega);rw[hR] at c5;obtain⟨R2,⟨z1,z2,z3,z4⟩,v1,v2,v3,v4⟩:=QA (cl:=false) (K:=K) (b:=kV j7 (bW s (bu (s:Int) 32) t) (bV false K 0 (0+1)) (df [0] [15]) (fL s n)) (n:=0) (m:=0+1) (k:=0) kl (by decide) hz1 (by decide) (by omega);have c6:=UC G hF hG (bV false K 0 (0+1)) 0 (kV j7 (bW s (bu (s:Int) 32) t) (bV false K 0 (0+1)) (df [0] [15]) (fL s n)) (by omega);rw[z1,z2,z3] at c6;have c7:=UD G hF hG (bV (!false) K (0+1) 0) R2 (by omega);rw[v1,v2,v3,v4,Bool.not_false] at c7;have c8:=aoQ G hF hG (bV true K (0+1) (0+1)) (df [0] [15]) (kV j7 (bW s (bu (s:Int) 32) t) (bV false K 0 (0+1)) (df [0] [15]) (fL s n)) (by omega) (by omega);rw[a1,a2] at c8;rw[OY] at c8;have gL:((((fL s n).map fun x=>dC (gj s (bu (s:Int) 32) t) 15 (cI (bV false K 0 (0+1)) 0 15 0) (cI (bV false K 0 (0+1)) 0 15 1) x).length:Int)=(n:Int))=True:=eq_true (by rw[ap1,tj]);clear x1 x2 x3 y1 y2 y3 y4 z1 z2 z3 v1 v2 v3 v4 a1 a2 ag hR hn hv kz;unfold nI at c8 ⊢;generalize hCK:((fL s n).map fun x=>dC (gj s (bu (s:Int) 32) t) 15 (cI (bV false K 0 (0+1)) 0 15 0) (cI (bV false K 0 (0+1)) 0 15 1) x)=CK at *
  generalize kV j7 (bW s (bu (s:Int) 32) t) (bV false K 0 (0+1)) (df [0] [15]) (fL s n)=S at *
  generalize cI (bV false K 0 (0+1)) 0 15 0=U at *
  generalize cI (bV false K 0 (0+1)) 0 15 1=W at *
  generalize df [0] [15]=Q at *
  generalize bW s (bu (s:Int) 32) t=ring at *
  rw[y8,y8] at c1;rw[y8,y8] at c3 c4 c6 c7;rw[y8] at c5 c8;unfold cH j6 at *
  simp only[apW,ap4,zD] at c2 c5;generalize hA1:(bV true K 0 0).sk=K1 at *
  generalize hA2:(bV true K 0 0).rk=K2 at *
  generalize hA3:(bV false K 0 0).sk=K3 at *
  generalize hA4:(bV false K 0 0).rk=K4 at *
  have eh:j7.ho=⟨#[]⟩:=rfl;have ep:j7.pt=0:=rfl;have epr:j7.pr=[0]:=rfl;have eal:j7.al=[15]:=rfl;rw[eh,ep] at c8 ⊢;rw[eh,ep,epr,eal] at c5;simp only[apW,ap4,zD] at c5;have et:(⟨((⟨#[]⟩:ByteArray).data.toList).toArray⟩:ByteArray)=⟨#[]⟩:=rfl;simp only[et] at c8 ⊢;clear hCK eh ep epr eal et;generalize hRD:ring.map bf=RD at *
  simp only[TT,ai,af,seval];refine sD (c1) ?_;refine bO (DF s n RD K K1 K2 K3 K4) (fun j=>n-j) (fun j=>j≤n) 0 (apZ _) ?_ ?_
  ·refine aR (fun i=>if i=1 then 48 else if i=2 then 64 else if i=3 then 72 else 344) ?_ ?_ rfl rfl <;> simp only[uk,um,wx,aH,seval] <;> first | rfl | exact⟨rfl,rfl⟩ | skip
  ·intro j hj;have hS:=ak6 s j;have hll:=tj s (j+1);have hlj:=tj s j;have az:=mq (fL s j);by_cases hlt:j<n
   ·have cB:=qj G ((s+2000000*(j+1):Nat):Int) 16 (by decide);have ec:(s:Int)+2000000*((j:Int)+1)=((s+2000000*(j+1):Nat):Int):=by omega
    rw[show bu ((s+2000000*(j+1):Nat):Int) 16=z6 s j from rfl] at cB;have gi:((j:Int)<(n:Int))=True:=eq_true (by omega);generalize z6 s j=b at *
    clear c1 c2 c3 c4 c5 c6 c7 c8;rcases j with _ | j
    ·have e1:fL s (0+1)=[b]:=hS;simp only[Bf,DF,uk,um,af,seval,iteOmega];refine sC (cB) ?_;simp only[cg,af,seval];refine bA (0+1) (by omega) (by omega) (aR (fun i=>if i=4 then 344 else i) ?_ ?_ rfl rfl) <;> simp only[uk,um,e1,wx,aH,seval] <;> first | rfl | exact⟨rfl,rfl⟩ | skip
    ·simp only[Bf,DF,uk,um,af,seval,iteOmega];refine sC (cB) ?_;simp only[cg,hlj,af,seval,iteOmega];refine bA (j+1+1) (by omega) (by omega) (aR (fun i=>if i=4 then 344 else i) ?_ ?_ rfl rfl) <;> simp only[uk,um,hS,ap8,wx,aH,aV,seval] <;> first | rfl | exact⟨rfl,rfl⟩ | skip
   ·obtain rfl:j=n:=by omega
    have gi:((j:Int)<(j:Int))=False:=eq_false (by omega);have tn:((fL s j).map fun l=>D.sl (l.map bD)).take j=(fL s j).map fun l=>D.sl (l.map bD):=apX (by rw[ap1,hlj]; exact ap3 _)
    obtain⟨j,rfl⟩:∃ i,j=i+1:=⟨j-1,by omega⟩
    clear hS hll c1;rw[show ((j+1:Nat):Int)=(j:Int)+1 from rfl] at gL;simp only[Bf,DF,uk,um,af,seval,iteOmega];refine sD (c2) ?_;refine sD (c3) ?_;refine sD (c4) ?_;refine Z1 c5 (by simp only[af,seval,iteOmega,tn]) (aoR _ _) (by simp only[af,seval,v7,V.hasOwn,C.isOwn,V.own1,agK,Bool.true_or,Bool.false_or]) ?_;simp only[af,seval];refine sD (c6) ?_;refine sD (c7) ?_;refine sC (c8) ?_;simp only[gL,af,aa,seval];exact bz
def TU:aO:=⟨2,37,ae [cX 2 0,oO 4 (.alloc [.nil,.nil,.nil,.nil,ah,ah]),am 5 0] (.seq (ae [aL 6 2 2,bn 7 2 6,aY 8 29 7,cW 9 8] (ar 9 (ae [oO 10 (.build [.nil,.nil,.nil,.nil,ah,ah] []),aS 6 4 10,am 5 5] .ret) .skip)) (.seq (ae [oM 11 1,ak .lss 12 11 0] (ar 12 (ae [oO 13 (.build [.nil,.nil,.nil,.nil,ah,ah] []),aS 6 4 13,am 5 4] .ret) .skip)) (.seq (ae [aL 14 4 2,aA 15 14,aY 16 30 15,cW 17 16] (ar 17 (ae [oO 18 (.build [.nil,.nil,.nil,.nil,ah,ah] []),aS 6 4 18,am 5 3] .ret) .skip)) (.seq (ae [aL 19 4 2,aA 20 19,bd 21 20,ak .gtr 22 21 8] (ar 22 (ae [oO 23 (.build [.nil,.nil,.nil,.nil,ah,ah] []),aS 6 4 23,am 5 8] .ret) .skip)) (.seq (ae [aL 24 4 2,aA 25 24,bd 26 25,ak .eql 27 26 0] (ar 27 (ae [oO 28 (.build [.nil,.nil,.nil,.nil,ah,ah] []),
 aS 6 4 28,am 5 10] .ret) .skip)) (ae [aL 29 2 2,bn 30 2 29,oM 31 1,oO 32 (.build [.nil,.nil,.nil,.nil,ah,ah] [(0,2,(.t 30)),(4,1,(.t 31))]),oO 33 (.call 32 [(.t 32)] (some (2,1))),aL 34 4 2,aA 35 34,oO 36 (.callM 31 [(.t 33),(.t 35)]),aS 6 4 36,am 5 0] .ret)))))),[(4,(some (.ag 6))),(5,none)]⟩
theorem amy:aM Tryz.prog { comp:=[(33,1002)],mt:=[36] } Tryz.f9=some TU:=by kernel_rfl
theorem aoS (G:au) (t:xr) (m:Int) (h1:t.up.length=32) (h2:t.dn.length=32) (hm:0≤m) (hA:gJ t.ck=true) (hn:1≤t.ck.length) (h8:t.ck.length≤8):aF Tryz.prog G 9 [nI t,.int .i64 m] (.tup [.c (.d (eb ⟨t.up,t.dn,eJ [] [] t.ck,[],m,0⟩)),.c (.d (.int .i64 0))]):=by
  refine aX Tryz.func9 amy rfl rfl ?_;have c1:=UP G t.up t.dn;rw[decide_eq_true (show s6 t.up t.dn from ⟨h1,h2⟩)] at c1;have c2:=UQ G t.ck (by omega);rw[hA] at c2;have a4:=oS.1 hA;have c3:=Kn G ⟨t.up,t.dn,[],[],m,0⟩ (by show t.up.length≤_; omega) (by show t.dn.length≤_; omega) (apZ _) (fun c hc=>by cases hc) (apZ _);have c4:=UU G ⟨t.up,t.dn,[],[],m,0⟩ t.ck (apZ _) (fun c hc=>by have:=a4 c hc; omega) (by omega);have az:=mq (eJ [] [] t.ck);have g1:(m<0)=False:=eq_false (by omega);have g2:((t.ck.length:Int)>8)=False:=eq_false (by omega);have g3:((t.ck.length:Int)=0)=False:=eq_false (by omega);unfold EC at c3;unfold nI eb at *
  simp only[ap4] at c3;simp only[TU,ai,af,seval];refine sC (c1) ?_;simp only[g1,af,seval];refine sC (c2) ?_;simp only[g2,g3,af,seval];refine sD (c3) ?_;refine pD [.mix (lM ⟨t.up,t.dn,[],[],m,0⟩ 264 0),.c (.d (.sl (nO t.ck)))] [(1,264),(3,1000)] c4 ?_ ?_ ?_ rfl rfl ?_
  ·simp only[lM,nO,af,seval] <;> rfl
  ·simp only[lM,af,seval,dc,Dt] <;> rfl
  ·simp only[kQ,nO,wx,seval,dc] <;> rfl
  ·simp only[lM,nO,af,aa,seval,dc,Dt];exact bz
theorem amz {l:List Fd} {id:Int} {i:Nat} (h:lG l id=some i):rC l id=(i:Int):=by unfold rC; rw[h]
theorem amA {l:List Fd} {id:Int} (h:lG l id=none):rC l id=-1:=by unfold rC; rw[h]
theorem amB {l:List Fd} {id:Int} {i:Nat} (h:lG l id=some i):i<l.length:=by
  unfold lG at h;rw[ard] at h;exact h.1
def tA:aO:=⟨2,63,ae [cX 2 0,am 4 0,oO 5 (.alloc [.nil,.nil]),am 6 0,am 7 0] (.seq (ae [bn 11 1 2,aY 12 33 11,cW 13 12] (ar 13 (ae [oO 14 (.build [.nil,.nil] []),am 4 0,aS 2 5 14,am 6 0,am 7 3] .ret) .skip)) (ae [oM 16 1,aY 17 94 16,oM 15 17,aC 18 15 0,aC 19 15 1,oO 8 (.alloc [ah]),d6 8 18,oM 7 19] (.seq (ae [oM 20 7,ak .neq 21 20 0] (ar 21 (ae [oO 22 (.build [.nil,.nil] []),oM 23 7,am 4 0,aS 2 5 22,am 6 0,oM 7 23] .ret) .skip)) (ae [aL 24 0 2,aA 25 24,oO 26 (.closM 96 [] [(.t 8)]),ct 27 95 25 26,oM 6 27] (.seq (ae [oM 28 6,ak .lss 29 28 0] (ar 29 (ae [oO 30 (.build [.nil,.nil] []),am 4 0,aS 2 5 30,am 6 0,am 7 5] .ret) .skip)) (ae [aL 32 0 2,aA 33 32,oM 34 6,bU 35 2 33 34,aL 36 1 35,aA 37 36,oM 38 1,oO 39 (.slice 1 (.t 38) none (some (kI 4)) none),
 oM 40 1,oO 41 (.slice 1 (.t 40) (some (kI 4)) (some (kI 20)) none),oO 42 (.bldSl false 2 1 (.sl []) [(0,(.t 39)),(1,(.t 41))]),oM 43 1,oO 44 (.slice 1 (.t 43) (some (kI 20)) none none),gq 45 67 37 42 44,oM 31 45,aC 46 31 0,aC 47 31 1,oM 9 46,oM 7 47] (.seq (ae [oM 48 7,ak .neq 49 48 0] (ar 49 (ae [oO 50 (.build [.nil,.nil] []),am 4 0,aS 2 5 50,am 6 0,am 7 6] .ret) .skip)) (ae [oM 52 9,aY 53 97 52,oM 51 53,aC 54 51 0,aC 55 51 1,aC 56 51 2,oM 4 54,aS 2 5 55,oM 10 56] (.seq (ae [oM 57 10,cW 58 57] (ar 58 (ae [oO 59 (.build [.nil,.nil] []),am 4 0,aS 2 5 59,am 6 0,am 7 6] .ret) .skip)) (ae [oM 60 4,bn 61 2 5,oM 62 6,oM 4 60,aS 2 5 61,oM 6 62,am 7 0] .ret)))))))))),[(4,none),(5,(some (.ag 2))),(6,none),(7,none)]⟩
theorem agN:aM Tryz.prog { mt:=[26] } Tryz.f46=some tA:=by kernel_rfl
set_option maxHeartbeats 3200000 in
theorem TV (G:au) (l:List Fd) (c:List UInt8) (hl:l.length≤9223372036854775807) (hcl:c.length≤9223372036854775807):aF Tryz.prog G 46 [cH l,.sl (c.map bD)] (.tup [.c (.d (.int .i64 (nH l c).al)),.c (.d (gD (nH l c).up (nH l c).dn)),.c (.d (.int .i64 (nH l c).ag)),.c (.d (.int .i64 (gU l c)))]):=by
  refine aX Tryz.func46 agN rfl rfl ?_;have c1:=CL G l hl;by_cases hr:eR l
  ·rw[decide_eq_true hr] at c1;have c2:=amc G c hcl;by_cases hc:c.length=104
   ·have ci:zY c=0:=if_neg (by omega);rw[ci] at c2;have c3:=ame G l 96 [.ref [.int .i64 (kg c)]] (kg c) hl (fun x=>amf G (kg c) x);have haz:=lP l;rcases hw:lG l (kg c) with _ | i
    ·have e:gU l c=5:=by unfold gU; rw[if_pos hr,if_neg (by omega),hw]
     rw[yS e (by decide),e];rw[amA hw] at c3;generalize kg c=n at *
     unfold cH gD at *
     simp only[tA,ai,af,seval];refine sD (c1) ?_;refine sC (c2) ?_;simp only[gR,af,aa,seval];refine bM c3 (by simp only[af,seval] <;> rfl) (.inr rfl) ?_;simp only[af,aa,seval];exact tV (by simp only[af,seval] <;> rfl) (by simp only[af,seval] <;> rfl) (by simp only[af,seval] <;> rfl) (by simp only[af,seval] <;> rfl)
    ·have hi:=amB hw;have g:=kM hi;have ce:=afq hr hc hw;obtain⟨⟨m1,m2,m3⟩,_⟩:=pq hr hi;rw[amz hw] at c3;have c4:=JQ G (l.getD i default).da [aK c 0 4,aK c 4 16] (c.drop 20) (by omega) (by simp) (fun x hx=>by simp at hx; rcases hx with rfl | rfl <;> (rw[fp (by omega)]; decide)) (by simp; omega);rw[show iL (l.getD i default).da [aK c 0 4,aK c 4 16] (c.drop 20)=pX (l.getD i default) c from rfl,show i9 (l.getD i default).da [aK c 0 4,aK c 4 16] (c.drop 20)=jd (l.getD i default) c from rfl] at c4;unfold dI at c4;simp only[apW,ap4] at c4;have t1:c.take 4=aK c 0 4:=rfl;have t2:(c.drop 4).take (20-4)=aK c 4 16:=rfl;have t3:(c.drop 20).take 84=c.drop 20:=apX (by simp; omega);have hok:uj (l.getD i default) c↔pX (l.getD i default) c=0∧(jd (l.getD i default) c).getD 2 0=0∧(jd (l.getD i default) c).getD 3 0=0:=Iff.rfl;have hR:gU l c=0→nH l c=⟨(bq (aK (jd (l.getD i default) c) 0 2):Int),aK (jd (l.getD i default) c) 4 32,aK (jd (l.getD i default) c) 36 32,(i:Int)⟩:=fun h=>by
       unfold nH;rw[if_pos h,hw];rfl
     have hVl:=fun h=>afd (m:=l.getD i default) hc h
     have hi0:0≤(i:Int):=by omega
     generalize jd (l.getD i default) c=V at *
     by_cases x0:pX (l.getD i default) c=0
     ·have hVl:=hVl x0;have c5:=amb G V hVl;rw[x0] at c4;by_cases y:V.getD 2 0=0∧V.getD 3 0=0
      ·have e0:gU l c=0:=by rw[ce,if_pos (hok.2 ⟨x0,y⟩)]
       rw[hR e0,e0];rw[if_pos y] at c5;clear hR ce e0 hok;generalize aK V 4 32=U1 at *
       generalize aK V 36 32=U2 at *
       generalize bq (aK V 0 2)=al at *
       generalize hx:l.getD i default=x at *
       generalize kg c=n at *
       generalize aK c 0 4=D0 at *
       generalize aK c 4 16=D1 at *
       unfold cH gD at *
       simp only[tA,ai,af,seval];refine sD (c1) ?_;refine sC (c2) ?_;simp only[gR,af,aa,seval];refine bM c3 (by simp only[af,seval] <;> rfl) (.inr rfl) ?_;simp only[af,seval,iteOmega,toNatUp,bc,g,bf,hc,t1,t2,t3];refine bM c4 (by simp only[af,seval]) (.inl rfl) ?_;simp only[af,seval];refine sD (c5) ?_;exact tV (by simp only[af,seval] <;> rfl) (by simp only[af,seval] <;> rfl) (by simp only[af,seval] <;> rfl) (by simp only[af,seval] <;> rfl)
      ·have e6:gU l c=6:=by rw[ce,if_neg (fun h=>y (hok.1 h).2)]
       rw[yS e6 (by decide),e6];rw[if_neg y] at c5;clear hR ce e6 hok;generalize hx:l.getD i default=x at *
       generalize kg c=n at *
       generalize aK c 0 4=D0 at *
       generalize aK c 4 16=D1 at *
       unfold cH gD at *
       simp only[tA,ai,af,seval];refine sD (c1) ?_;refine sC (c2) ?_;simp only[gR,af,aa,seval];refine bM c3 (by simp only[af,seval] <;> rfl) (.inr rfl) ?_;simp only[af,seval,iteOmega,toNatUp,bc,g,bf,hc,t1,t2,t3];refine bM c4 (by simp only[af,seval]) (.inl rfl) ?_;simp only[af,seval];refine sD (c5) ?_;exact tV (by simp only[af,seval] <;> rfl) (by simp only[af,seval] <;> rfl) (by simp only[af,seval] <;> rfl) (by simp only[af,seval] <;> rfl)
     ·have g1:(pX (l.getD i default) c=0)=False:=eq_false x0;have e6:gU l c=6:=by rw[ce,if_neg (fun h=>x0 (hok.1 h).1)]
      rw[yS e6 (by decide),e6];clear hR ce e6 hok;generalize pX (l.getD i default) c=xe at *
      generalize hx:l.getD i default=x at *
      generalize kg c=n at *
      generalize aK c 0 4=D0 at *
      generalize aK c 4 16=D1 at *
      unfold cH gD at *
      simp only[tA,ai,af,seval];refine sD (c1) ?_;refine sC (c2) ?_;simp only[gR,af,aa,seval];refine bM c3 (by simp only[af,seval] <;> rfl) (.inr rfl) ?_;simp only[af,seval,iteOmega,toNatUp,bc,g,bf,hc,t1,t2,t3];refine bM c4 (by simp only[af,seval]) (.inl rfl) ?_;simp only[af,aa,seval,g1];exact tV (by simp only[af,seval] <;> rfl) (by simp only[af,seval] <;> rfl) (by simp only[af,seval] <;> rfl) (by simp only[af,seval] <;> rfl)
   ·have e:gU l c=3:=by unfold gU; rw[if_pos hr,if_pos hc]
    have ci:zY c=3:=if_pos hc;rw[ci] at c2;rw[yS e (by decide),e];unfold cH gD at *
    simp only[tA,ai,af,seval];refine sD (c1) ?_;refine sD (c2) ?_;exact tV (by simp only[af,seval] <;> rfl) (by simp only[af,seval] <;> rfl) (by simp only[af,seval] <;> rfl) (by simp only[af,seval] <;> rfl)
  ·rw[decide_eq_false hr] at c1;have e:gU l c=3:=if_neg hr;rw[yS e (by decide),e];unfold cH gD at *
   simp only[tA,ai,af,seval];refine sD (c1) ?_;exact tV (by simp only[af,seval] <;> rfl) (by simp only[af,seval] <;> rfl) (by simp only[af,seval] <;> rfl) (by simp only[af,seval] <;> rfl)
theorem agO {s t:Nat} {K U W:List UInt8} {r:Int} {m:Nat} (h:s+t≤4294967295) (hU:U.length=32) (hW:W.length=32):∀ c∈ik (bW s K t) U W r m,c.length=104:=fun c hc=>by
  obtain⟨i,_,rfl⟩:=aqa.1 hc;rw[(Kc h (by decide) (by decide) hU hW (ku _ _)).2];exact I2 h (by decide) (by decide) hU hW (ku _ _)
def sU (r:Int) (R:List D) (i:Nat):List (Nat×V):=[(2,.w (.c (.d (.int .i64 r)))),(3,.w (.c (.rp [.sl R]))),(11,.w (.c (.d (.sl [.int .i64 0])))),(12,.w (.c (.d (.int .i64 15)))),(13,.w (.c (.ptr 1 1 0 0))),(16,.w (.c (.ptr 2 1 0 0))),(19,.w (.c (.d (.int .i64 (i:Int)))))]
def sV (U W:List UInt8) (p:dq):List (Nat×Ob):=[(1,.box [.d (.sl (U.map bD)),.d (.sl (W.map bD))]),(2,.box (sq p))]
def wG (r:Int) (R:List D) (U W:List UInt8) (p:dq) (C:Nat→List (List UInt8)):Nat→St
  | 0=>⟨bw ((18,.w (.c .nil))::sU r R 0),hL (sV U W p),uL [1,2]⟩
  | i+1=>⟨bw ((18,.w (.c (.own 3 2 0 (dr (C (i+1))).length)))::sU r R (i+1)),hL ((3,.row 2 ((dr (C (i+1))).map bf))::sV U W p),uL [1,2,3]⟩
def Bg:bp := .seq (ae [oM 105 19,aL 106 13 16,aA 107 106,oO 108 (.call 45 [(.t 107),(kI 772)] none),bd 109 108,aU .leq 110 105 109] (ar 110 .skip (.exit 0))) (.seq (.block 1 (ae [bn 114 1 3,oM 115 12,bn 116 2 13,oM 117 2,oM 118 19,aU .add 119 117 118,oO 120 (.call 11 [(.t 119),(kI 16)] none),Ei 121 48 114 115 116 120,oM 113 121,aC 122 113 0,aC 123 113 1,oM 20 122,oM 21 123] (.seq (ae [oM 124 21,ak .neq 125 124 0] (ar 125 (ae [aQ 6,bG 7 false] .ret) .skip)) (.reg [oM 126 18,oM 127 20,oO 128 (.build [ah,.nil] [(0,1,(kI 516)),(1,1,(.t 127))]),oO 129 (.bldSl false 1 2 (.agg [dH,(.sl [])]) [(0,(.t 128))]),oO 130 (.app false 2 32 (.t 126) (.t 129)),oM 18 130])))) (.reg [oM 111 19,ak .add 112 111 1,oM 19 112]))
def Jq:aO:=⟨3,164,ae [cX 3 0,aQ 6,bG 7 false] (ae [oM 27 1,aY 28 44 27,oM 26 28,aC 29 26 0,aC 30 26 1,oO 8 (.alloc [ah,ah,ah,ah,ah,ah,bh,bh,bh,aW,aW,aW,aW,.nil,.nil,cD]),aS 16 8 29,oM 9 30] (ae [aL 31 13 8,aA 32 31,oO 33 (.call 45 [(.t 32),(kI 516)] none),oM 10 33] (ae [aL 34 13 8,aA 35 34,oO 36 (.call 45 [(.t 35),(kI 260)] none),oM 11 36] (.seq (ae [oM 37 9,ak .neq 38 37 0,oM 39 38,bJ 40 10 39 false,eY 41 40 39 false,cC .neq 42 41 1 39 false,cv 43 39 42,oM 44 43,bJ 45 11 44 false,eY 46 45 44 false,cC .neq 47 46 1 44 false,cv 48 44 47,oM 49 48,bJ 50 10 49 false,oG 51 (.idxSl 1 (.t 50) (kI 0)) 49 false,dt 52 51 49 false,cC .lss 53 52 0 49 false,cv 54 49 53,oM 55 54,bJ 56 10 55 false,oG 57 (.idxSl 1 (.t 56) (kI 0)) 55 false,dt 58 57 55 false,
 dF 59 13 8 55 false,dt 60 59 55 false,eY 61 60 55 false,rh .geq 62 58 61 55 false,cv 63 55 62,oM 64 63,bJ 65 11 64 false,oG 66 (.idxSl 1 (.t 65) (kI 0)) 64 false,dt 67 66 64 false,cC .lss 68 67 0 64 false,cv 69 64 68,oM 70 69,bJ 71 11 70 false,oG 72 (.idxSl 1 (.t 71) (kI 0)) 70 false,dt 73 72 70 false,dF 74 13 8 70 false,dt 75 74 70 false,eY 76 75 70 false,rh .geq 77 73 76 70 false,cv 78 70 77] (ar 78 (ae [aQ 6,bG 7 false] .ret) .skip)) (ae [bn 80 1 3,aL 81 13 8,aA 82 81,oM 83 10,oO 84 (.idxSl 1 (.t 83) (kI 0)),aA 85 84,bU 86 2 82 85,aL 87 1 86,aA 88 87,ct 89 46 80 88,oM 79 89,aC 90 79 0,aC 91 79 1,aC 92 79 2,aC 93 79 3,oO 13 (.alloc [.nil,.nil]),oM 12 90,aS 2 13 91,oM 14 92,oM 15 93] (.seq (ae [oM 94 15,ak .neq 95 94 0] (ar 95 (ae [aQ 6,bG 7 false]
 .ret) .skip)) (ae [aL 97 0 13,aA 98 97,oM 99 1,ct 100 47 98 99,oM 96 100,aC 101 96 0,aC 102 96 1,oO 16 (.alloc [ah,ah,ah,ah,ah,ah,bh,bh,bh,aW,aW,aW,aW,.nil,.nil,cD]),aS 16 16 101,oM 17 102] (.seq (ae [oM 103 17,ak .neq 104 103 0] (ar 104 (ae [aQ 6,bG 7 false] .ret) .skip)) (ae [aQ 18] (.seq (ae [am 19 0] (.block 0 (.loop Bg))) (ae [aL 132 0 16,bn 133 13 132,oO 134 (.call 49 [(.t 133),(kI 1),(.k (.c (.d (.int .u64 7)))),(.k (.c (.d (.int .u64 8))))] none),oM 131 134,aC 135 131 0,aC 136 131 1,oO 22 (.alloc [ah,ah,ah,ah,ah,ah,bh,bh,bh,aW,aW,aW,aW]),aS 13 22 135,oM 23 136] (ae [aL 138 1 13,aA 139 138,bn 140 13 22,aL 141 13 16,aA 142 141,oM 143 11,oO 144 (.idxSl 1 (.t 143) (kI 0)),aA 145 144,bU 146 2 142 145,bn 147 2 146,oO 148 (.bldSl false 1 2 (.agg [dH,(.sl [])]) [(0,(.t 147))]),
 oM 149 18,oO 150 (.build [ah,ah,ah,ah,ah,ah,bh,bh,bh,aW,aW,aW,aW,.nil,.nil,cD] [(0,13,(.t 140)),(13,1,(.t 148)),(14,1,(.t 149))]),oM 151 2,ak .add 152 151 100,oO 153 (.call 11 [(.t 152),(kI 16)] none),gq 154 42 139 150 153,oM 137 154,aC 155 137 0,aC 156 137 1,oM 24 155,oM 25 156] (ae [oM 157 24,oM 158 23,ak .eql 159 158 0,oM 160 159,bJ 161 25 160 true,cC .eql 162 161 0 160 true,ek 163 160 162,oM 6 157,oM 7 163] .ret))))))))))))),[(6,none),(7,none)]⟩
theorem TW:aM Tryz.prog {} Tryz.f13=some Jq:=by kernel_rfl
set_option maxHeartbeats 6400000 in
theorem aoT (G:au) (s t k:Nat) (K U W n u nq:List UInt8) (τ w:Nat) (r:Int) (h:s+t≤4294967295) (hk:k≤t) (h4:t-k<4) (hU:U.length=32) (hW:W.length=32) (hn:n.length=16) (hu:u.length=32) (hq:nq.length=16) (hτ:τ<18446744073709551616) (hw:w≤7) (r0:0≤r) (r1:r≤1000000000000) :
    aF Tryz.prog G 13 [cH (bW s K t),.sl ((jN U τ u (dC (gj s K k) 15 U W n) w nq).map bD),.int .i64 r] (.tup [.c (.d (.sl ((nN W τ u (ik (bW s K t) U W r (w+1)) (bu (r+100) 16)).map bD))),.c (.d (.bool true))]):=by
  refine aX Tryz.func13 TW rfl rfl ?_;have hc:=I2 (s:=s) (k:=k) (seed:=K) (algo:=15) (up:=U) (dn:=W) (n:=n) (by omega) (by decide) (by decide) hU hW hn;obtain⟨_,o1,_⟩:=QT (s:=s) (t:=t) (k:=k) (seed:=K) (algo:=15) (up:=U) (dn:=W) (n:=n) h hk (by decide) (by decide) hU hW hn;obtain⟨o2,o3⟩:=o1 h4;have rl:=pb s K t;have c4:=TV G (bW s K t) (dC (gj s K k) 15 U W n) (by rw[rl]; omega) (by rw[hc]; decide);rw[o2,o3] at c4;dsimp only at c4;clear o1 o2 o3;generalize dC (gj s K k) 15 U W n=c at *
  obtain⟨ql,q1,q2,q3,d,q4⟩:=CF (U:=U) (u:=u) (c:=c) (n:=nq) (t:=τ) (w:=w) hτ hU hu hc hq (by omega);have c1:=I4 G (jN U τ u c w nq) (by omega);have c5:=Tp G U (jN U τ u c w nq) (by omega) (by omega);rw[q3,q4] at c1;rw[q1,q2] at c5;obtain⟨f1,f2,f3⟩:=I8 (u:=u) (c:=c) w;have L:=vF u c w;have c2:=rX G (cd u c w++[(⟨1028,d⟩:Fd)]) 516 (by rw[apS,L,aqw]; omega);have c3:=rX G (cd u c w++[(⟨1028,d⟩:Fd)]) 260 (by rw[apS,L,aqw]; omega);rw[pu (show (1028:Int)≠516 by decide),f1] at c2;rw[pu (show (1028:Int)≠260 by decide),f2] at c3;have c6:=rX G (cd u c w) 772 (by omega);have g0:(cd u c w++[(⟨1028,d⟩:Fd)])[0]?=some (⟨260,u⟩:Fd):=rfl;have g1:(cd u c w++[(⟨1028,d⟩:Fd)])[1]?=some (⟨516,c⟩:Fd):=rfl;have g2:(cd u c w)[0]?=some (⟨260,u⟩:Fd):=rfl;have gl:(cd u c w++[(⟨1028,d⟩:Fd)]).length=w+3:=by rw[apS,L]; rfl
  have cR:=akA G (ft τ) 1 7 8;rw[ak8,US] at cR;have lN:(bu (r+100) 16).length=16:=ku _ _;have cN:=qj G (r+100) 16 (by decide);have l104:=agO (s:=s) (t:=t) (K:=K) (U:=U) (W:=W) (r:=r) (m:=w+1) h hU hW;obtain⟨pE,_⟩:=UN (key:=W) (u:=u) (n:=bu (r+100) 16) (h:=lK τ) (cs:=ik (bW s K t) U W r (w+1)) hW hu lN (UT τ) (Ko hτ) l104 (by rw[HS]; omega);have cP:=To G W ⟨lK τ,[⟨260,u⟩],dr (ik (bW s K t) U W r (w+1)),false⟩ (bu (r+100) 16) (by omega) (Ko hτ) (show 1≤_ by decide) (fun f hf=>by
    rw[apY.1 hf]
    show u.length≤_; omega) (by show (dr _).length≤_; rw[HO,HS]; omega) (fun f hf=>by
    have:=l104 _ (HP hf).2;omega) (by omega)
  rw[pE] at cP;have fl:=Uj 1 (d9 W ⟨lK τ,[⟨260,u⟩],dr (ik (bW s K t) U W r (w+1)),false⟩ (bu (r+100) 16)) .i64 0;have hA:nN W τ u (ik (bW s K t) U W r (w+1)) (bu (r+100) 16)=d9 W ⟨lK τ,[⟨260,u⟩],dr (ik (bW s K t) U W r (w+1)),false⟩ (bu (r+100) 16):=rfl;rw[hA];clear hA;generalize hB:d9 W ⟨lK τ,[⟨260,u⟩],dr (ik (bW s K t) U W r (w+1)),false⟩ (bu (r+100) 16)=B at *
  generalize jN U τ u c w nq=Q at *
  generalize bu (r+100) 16=N at *
  have az1:=lP (cd u c w++[(⟨1028,d⟩:Fd)]);have az2:=lP (cd u c w);generalize hP2:cd u c w++[(⟨1028,d⟩:Fd)]=P2 at *
  generalize hP1:cd u c w=P1 at *
  have pC:∀ i,ik (bW s K t) U W r (i+1)=ik (bW s K t) U W r i++[mV (bW s K t) 15 U W (bu (r+(i:Int)) 16)]:=aom _ _ _ _
  have mk:=fun i:Nat=>(Kc (s:=s) (t:=t) (seed:=K) (algo:=15) (up:=U) (dn:=W) (n:=bu (r+(i:Int)) 16) h (by decide) (by decide) hU hW (ku _ _)).1
  have cM:=fun x=>TO G (bW s K t) 15 U W x (by rw[rl]; omega)
  have sl:=fun m=>HS (bW s K t) U W r m
  generalize bW s K t=ring at *
  unfold cH gD at *
  unfold dL at c1 c5 cP;unfold fC at cR;generalize bP P1 772=P7 at *
  have g7:(P7.map zD).length=w:=by rw[ap1]; exact f3
  have gw:((P2.length:Int)≤0)=False:=eq_false (by omega);have gw1:((1:Int)≥(P2.length:Int))=False:=eq_false (by omega);have gw0:((0:Int)≥(P2.length:Int))=False:=eq_false (by omega);simp only[apW,ap4,zD,bf] at c2 c3 cP;simp only[Jq,ai,af,seval];refine sD (c1) ?_;refine sD (c2) ?_;refine sC (c3) ?_;simp only[gw1,gw0,bc,g1,bf,af,seval,iteOmega,toNatUp];refine sD (c4) ?_;refine sD (c5) ?_;refine bO (wG r (ring.map bf) U W ⟨ft τ,P1,[],true⟩ (ik ring U W r)) (fun i=>w+1-i) (fun i=>i≤w+1) 0 (apZ _) ?_ ?_
  ·refine aR (fun i=>if i=1 then 104 else 128) ?_ ?_ rfl rfl <;> simp only[sU,sV,sq,wx,aH,seval] <;> first | rfl | exact⟨rfl,rfl⟩ | skip
  ·intro i hi;clear c1 c2 c3 c4 c5;have ki:=sl i;have tl:=HO (ik ring U W r i);have az:=lP (dr (ik ring U W r i));by_cases hlt:i<w+1
   ·have gi:((i:Int)≤(P7.length:Int))=True:=eq_true (by omega);have cB:=qj G (r+(i:Int)) 16 (by decide);have cM:=cM (bu (r+(i:Int)) 16);have gr:r+(i:Int)≤2000000000000:=by omega
    have hn:=pC i;rw[mk i] at cM;generalize bu (r+(i:Int)) 16=b at *
    generalize mV ring 15 U W b=x at *
    clear cR cP cN;have hs:dr (ik ring U W r (i+1))=dr (ik ring U W r i)++[⟨516,x⟩]:=by
      unfold dr;rw[hn,ap8]; rfl
    rcases i with _ | i
    ·have e1:dr (ik ring U W r (0+1))=[⟨516,x⟩]:=hs;simp only[Bg,wG,sU,sV,sq,af,seval];refine sC (c6) ?_;simp only[af,seval,iteOmega];refine sD (cB) ?_;refine sC (cM) ?_;simp only[cg,af,seval];refine bA (0+1) (by omega) (by omega) (aR (fun i=>if i=3 then 1040 else i) ?_ ?_ rfl rfl) <;> simp only[sU,sV,sq,e1,bf,wx,aH,seval] <;> first | rfl | exact⟨rfl,rfl⟩ | skip
    ·simp only[Bg,wG,sU,sV,sq,af,seval,tl];refine sC (c6) ?_;simp only[af,seval,iteOmega];refine sD (cB) ?_;refine sC (cM) ?_;simp only[cg,tl,af,seval,iteOmega];refine bA (i+1+1) (by omega) (by omega) (aR (fun i=>if i=3 then 1040 else i) ?_ ?_ rfl rfl) <;> simp only[sU,sV,sq,hs,bf,ap8,tl,wx,aH,aV,seval] <;> first | rfl | exact⟨rfl,rfl⟩ | skip
   ·obtain rfl:i=w+1:=by omega
    have gi:(((w:Int)+1)≤(P7.length:Int))=False:=eq_false (by omega);simp only[Bg,wG,sU,sV,sq,af,seval];refine sC (c6) ?_;simp only[gi,af,seval];refine sC (cR) ?_;simp only[bc,g2,bf,af,aa,seval,iteOmega,toNatUp];refine sD (cN) ?_;refine bM cP (by simp only[af,seval,iteOmega] <;> rfl) (.inr fl) ?_;simp only[af,seval];exact bz
theorem amC (G:au) (l:List Fd) (U c u nq:List UInt8) (τ w:Nat) (r:Int) (hl:l.length≤1000) (hE:gU l c≠0) (hU:U.length=32) (hc:c.length=104) (hu:u.length=32) (hq:nq.length=16) (hτ:τ<18446744073709551616) (hw:w≤7) :
    aF Tryz.prog G 13 [cH l,.sl ((jN U τ u c w nq).map bD),.int .i64 r] (.tup [.c (.d (.sl [])),.c (.d (.bool false))]):=by
  refine aX Tryz.func13 TW rfl rfl ?_;have c4:=TV G l c (by omega) (by omega);obtain⟨ql,q1,q2,q3,d,q4⟩:=CF (U:=U) (u:=u) (c:=c) (n:=nq) (t:=τ) (w:=w) hτ hU hu hc hq (by omega);have c1:=I4 G (jN U τ u c w nq) (by omega);rw[q3,q4] at c1;obtain⟨f1,f2,f3⟩:=I8 (u:=u) (c:=c) w;have L:=vF u c w;have c2:=rX G (cd u c w++[(⟨1028,d⟩:Fd)]) 516 (by rw[apS,L,aqw]; omega);have c3:=rX G (cd u c w++[(⟨1028,d⟩:Fd)]) 260 (by rw[apS,L,aqw]; omega);rw[pu (show (1028:Int)≠516 by decide),f1] at c2;rw[pu (show (1028:Int)≠260 by decide),f2] at c3;have g0:(cd u c w++[(⟨1028,d⟩:Fd)])[0]?=some (⟨260,u⟩:Fd):=rfl;have g1:(cd u c w++[(⟨1028,d⟩:Fd)])[1]?=some (⟨516,c⟩:Fd):=rfl;have gl:(cd u c w++[(⟨1028,d⟩:Fd)]).length=w+3:=by rw[apS,L]; rfl
  generalize jN U τ u c w nq=Q at *
  have az1:=lP (cd u c w++[(⟨1028,d⟩:Fd)]);generalize hP2:cd u c w++[(⟨1028,d⟩:Fd)]=P2 at *
  have gE:(gU l c=0)=False:=eq_false hE;generalize gU l c=e at *
  generalize nH l c=R at *
  unfold cH gD at *
  unfold dL at c1;have gw1:((1:Int)≥(P2.length:Int))=False:=eq_false (by omega);have gw0:((0:Int)≥(P2.length:Int))=False:=eq_false (by omega);simp only[apW,ap4,zD] at c2 c3;simp only[Jq,ai,af,seval];refine sD (c1) ?_;refine sD (c2) ?_;refine sC (c3) ?_;simp only[gw1,gw0,bc,g1,bf,af,seval,iteOmega,toNatUp];refine sC (c4) ?_;simp only[gE,af,aa,seval];exact bz
def jy (s o:Nat):List UInt8:=bu ((s+o:Nat):Int) 16
theorem qt (s o:Nat):(jy s o).length=16:=ku _ _
def dQ (s:Nat) (l:List (Nat×Nat)):List (List UInt8):=l.map fun p=>iT s p.1 (jy s p.2)
theorem pf (s:Nat) (l:List (Nat×Nat)):(dQ s l).length=l.length:=ap1 _
theorem HZ {s:Nat} {l:List (Nat×Nat)} (h:∀ p∈l,s+p.1≤4294967295):∀ c∈dQ s l,c.length=104:=fun c hc=>by
  obtain⟨p,hp,rfl⟩:=aqa.1 hc;exact yx (h p hp) (qt _ _)
theorem CV {s:Nat} {l:List (Nat×Nat)} (h:((l.map (·.2)).map (jy s)).Nodup):(dQ s l).Nodup:=by
  rw[arl,aqQ,List.pairwise_map] at h;unfold dQ;rw[arl,List.pairwise_map];exact h.imp fun hab=>ak7 (qt _ _) (qt _ _) hab
theorem H0 (s:Nat) (a b:List (Nat×Nat)):dQ s (a++b)=dQ s a++dQ s b:=ap8
def xD (s:Nat) (la:Option (Nat×Nat)):List UInt8:=match la with | none=>[] | some p=>iT s p.1 (jy s p.2)
def eK (s:Nat) (l:List (Nat×Nat)) (la:Option (Nat×Nat)) (m sn:Int):Jr:=⟨ji s,ij s,dQ s l,xD s la,m,sn⟩
def uH (la:Option (Nat×Nat)):List (Nat×Nat):=match la with | none=>[] | some p=>[p]
def qd (s:Nat) (l:List (Nat×Nat)):Prop:=(((l).map (·.2)).map (jy s)).Nodup∧∀ p∈l,s+p.1≤4294967295
theorem BU {s:Nat} {a b:List (Nat×Nat)} (h:qd s b) (hs:a.Sublist b):qd s a:=⟨h.1.sublist ((hs.map _).map _),fun p hp=>h.2 p (hs.subset hp)⟩
theorem TY {s:Nat} {l:List (Nat×Nat)} {la:Option (Nat×Nat)} {m sn:Int} (h:qd s (uH la++l)) (h8:l.length≤8) (hm:0≤m) (h0:0≤sn) (h1:sn≤1099511627776):fE (eK s l la m sn):=by
  have hl:=BU h (arK _ _);have h104:=HZ hl.2;have nd:=CV h.1;refine yu.2 ⟨⟨qq s,tz s,by show (dQ s l).length≤8; rw[pf]; exact h8,?_,vU.2 ?_,hm,h0,h1⟩,h104,CV hl.1⟩
  ·cases la with
   | none=>exact .inl rfl
   | some p=>exact .inr (yx (h.2 p (by simp[uH])) (qt _ _))
  ·cases la with
   | none=>exact fun hm=>by cases h104 _ hm
   | some p =>
     have nd:(iT s p.1 (jy s p.2)::dQ s l).Nodup:=nd;exact (arB.1 nd).1
theorem TZ {s:Nat} {l:List (Nat×Nat)} {la:Option (Nat×Nat)} {m sn:Int} {n:List (Nat×Nat)} (h:qd s (uH la++(l++n))) (h8:l.length≤8):xy (eK s l la m sn) (dQ s n)=eK s ((l++n).take 8) la m sn:=by
  have nd:=CV h.1;have h2:=BU h (arK _ _);have h104:=HZ (BU h2 (arK _ _)).2;have hl:xD s la∉dQ s n:=by
    cases la with
    | none=>exact fun hm=>by cases h104 _ hm
    | some p =>
      have nd:(iT s p.1 (jy s p.2)::dQ s (l++n)).Nodup:=nd;rw[H0] at nd;exact fun hm=>(arB.1 nd).1 (aqi _ hm)
  have e:=HQ (la:=xD s la) (cs:=dQ s n) (l:=dQ s l) (by rw[← H0]; exact CV h2.1) hl (by rw[pf]; exact h8)
  show (⟨ji s,ij s,eJ (xD s la) (dQ s l) (dQ s n),xD s la,m,sn⟩:Jr)=⟨ji s,ij s,dQ s ((l++n).take 8),xD s la,m,sn⟩
  rw[e,← H0];unfold dQ;rw[List.map_take]
def iN (t n:Nat):List (Nat×Nat):=(List.range n).map fun i=>(t,2000000*(i+1))
theorem GR (t n:Nat):(iN t n).length=n:=by unfold iN; rw[ap1,aqV]
theorem ag1 (s t n:Nat):(fL s n).map (iT s t)=dQ s (iN t n):=by
  unfold fL iN dQ;rw[aqQ,aqQ];rfl
theorem amV {s t n:Nat} (h:s+t≤4294967295):gJ (oK s t n).ck=true:=oS.2 fun c hc=>by
  obtain⟨x,hx,rfl⟩:=aqa.1 (show c∈(fL s n).map (iT s t) from hc);exact yx h (HR x hx)
theorem ag2 {s t n:Nat} {m:Int} (h:qd s (iN t n)) (h8:n≤8):(⟨(oK s t n).up,(oK s t n).dn,eJ [] [] (oK s t n).ck,[],m,0⟩:Jr)=eK s (iN t n) none m 0:=by
  have e:=TZ (s:=s) (l:=[]) (la:=none) (m:=m) (sn:=0) (n:=iN t n) h (apZ _);rw[aqz,apX (by rw[GR]; exact h8)] at e;rw[← e]
  show (⟨ji s,ij s,eJ [] [] ((fL s n).map (iT s t)),[],m,0⟩:Jr)=_
  rw[ag1]; rfl
def de (t o m:Nat):List (Nat×Nat):=(List.range m).map fun i=>(t,o+i)
theorem vi (t o m:Nat):(de t o m).length=m:=by unfold de; rw[ap1,aqV]
theorem amW {s t o m:Nat} (h:s+t≤4294967295):ik (bW s (bu (s:Int) 32) t) (ji s) (ij s) ((s:Int)+(o:Int)) m=dQ s (de t o m):=by
  unfold ik dQ de;rw[aqQ];refine aqu fun i _=>?_
  have e:(s:Int)+(o:Int)+(i:Int)=((s+(o+i):Nat):Int):=by omega
  rw[(Kc h (by decide) (by decide) (qq s) (tz s) (ku _ _)).2,e];rfl
theorem T1 {s:Nat} {p:Nat×Nat} {l:List (Nat×Nat)} {la:Option (Nat×Nat)} {m sn:Int} {t:Nat} {u n:List UInt8} (v:fE (eK s (p::l) la m sn)) (hs:sn≠1099511627776) (hu:u.length=32) (hn:n.length=16) :
    lI (eK s (p::l) la m sn) u n=0∧EA (eK s (p::l) la m sn) u n=eK s l (some p) m (sn+1)∧EB (eK s (p::l) la m sn) t u n=jN (ji s) t u (iT s p.1 (jy s p.2)) (7-l.length) n∧fE (eK s l (some p) m (sn+1)):=by
  obtain⟨tE,tv⟩:=UO v (by show (dQ s (p::l)).length≠0; rw[pf]; exact Nat.succ_ne_zero _) hs;have e:lI (eK s (p::l) la m sn) u n=0:=by unfold lI; rw[if_neg (fun h=>h.elim (· v) (fun h=>h.elim (· hu) (· hn))),tE]
  refine⟨e,if_pos e,(if_pos e).trans ?_,tv⟩
  show d9 (ji s) (nb (eK s (p::l) la m sn) t u) n=_
  unfold nb jN;rw[show (eK s (p::l) la m sn).ck.length=l.length+1 from pf s (p::l),show 8-(l.length+1)=7-l.length by omega];rfl
theorem T2 {s t o w:Nat} {l:List (Nat×Nat)} {la:Option (Nat×Nat)} {m sn:Int} {τ:Nat} {u n:List UInt8} (v:fE (eK s l la m sn)) (h:s+t≤4294967295) (hw:w≤8) (hτ:τ<18446744073709551616) (hu:u.length=32) (hn:n.length=16) (ok:qd s (uH la++(l++de t o w))) (h8:l.length≤8) :
    (nN (ij s) τ u (dQ s (de t o w)) n).length=124+108*w ∧
    jh (eK s l la m sn) u (nN (ij s) τ u (dQ s (de t o w)) n)=0∧xz (eK s l la m sn) u (nN (ij s) τ u (dQ s (de t o w)) n)=eK s ((l++de t o w).take 8) la m sn ∧
    xA (eK s l la m sn) u (nN (ij s) τ u (dQ s (de t o w)) n)=⟨lK τ,[⟨260,u⟩],dr (dQ s (de t o w)),true⟩∧∀ j x,fE j→j.dn=ij s→x.length=32→x≠u→jh j x (nN (ij s) τ u (dQ s (de t o w)) n)=7:=by
  have h104:=HZ (s:=s) (l:=de t o w) fun p hp=>by
    obtain⟨i,_,rfl⟩:=aqa.1 hp;exact h
  obtain⟨_,pl,o1,o2⟩:=UN (key:=ij s) (u:=u) (n:=n) (h:=lK τ) (cs:=dQ s (de t o w)) (tz s) hu hn (UT τ) (Ko hτ) h104 (by rw[pf,vi]; exact hw);rw[pf,vi] at pl;obtain⟨aE,aJ,aP,_⟩:=Q6 (j:=eK s l la m sn) (h:=lK τ) (cs:=dQ s (de t o w)) v hu rfl h104 o1 o2;refine⟨pl,aE,aJ.trans (TZ ok h8),aP,fun j x vj dj hx hne=>?_⟩;obtain⟨_,_,_,aN⟩:=Q6 (j:=j) (h:=lK τ) (cs:=dQ s (de t o w)) vj hu rfl h104 (by rw[dj]; exact o1) (by rw[dj]; exact o2);exact aN x hx hne
theorem T3 (G:au) (s t k o:Nat) (n u nq:List UInt8) (τ w:Nat) (h:s+t≤4294967295) (hk:k≤t) (h4:t-k<4) (hn:n.length=16) (hu:u.length=32) (hq:nq.length=16) (hτ:τ<18446744073709551616) (hw:w≤7) (ho:s+o≤1000000000000) :
    aF Tryz.prog G 13 [cH (bW s (bu (s:Int) 32) t),.sl ((jN (ji s) τ u (iT s k n) w nq).map bD),.int .i64 ((s:Int)+(o:Int))] (.tup [.c (.d (.sl ((nN (ij s) τ u (dQ s (de t o (w+1))) (bu ((s:Int)+(o:Int)+100) 16)).map bD))),.c (.d (.bool true))]):=by
  have:=aoT G s t k (bu (s:Int) 32) (ji s) (ij s) n u nq τ w ((s:Int)+(o:Int)) h hk h4 (qq s) (tz s) hn hu hq hτ hw (by omega) (by omega);rw[amW h] at this;exact this
theorem amX {s:Nat} {l:List (Nat×Nat)} (hs:s<1000) (h:(l.map (·.2)).Sublist DI) (ht:∀ p∈l,p.1≤1000):qd s l:=⟨(apc hs).sublist (h.map _),fun p hp=>by have:=ht p hp; omega⟩
theorem T4 (G:au) (s t n:Nat) (m:Int) (h:s+t≤4294967295) (ok:qd s (iN t n)) (h1:1≤n) (h8:n≤8) (hm:0≤m):aF Tryz.prog G 9 [nI (oK s t n),.int .i64 m] (.tup [.c (.d (eb (eK s (iN t n) none m 0))),.c (.d (.int .i64 0))]):=by
  have hl:(oK s t n).ck.length=n:=by
    show ((fL s n).map _).length=n
    rw[ap1,tj]
  have:=aoS G (oK s t n) m (qq s) (tz s) hm (amV h) (by omega) (by omega);rw[ag2 ok h8] at this;exact this
def T5:aO:=⟨0,84,ae [bG 0 false] (ae [oO 15 (.call 7 [(kI 1),(kI 0)] none),oO 1 (.alloc [.nil]),aS 1 1 15] (ae [bn 17 1 1,oO 18 (.call 8 [(kI 1),(kI 1),(.t 17)] none),oM 16 18,aC 19 16 0,aC 20 16 1,oO 2 (.alloc [ah,ah,.nil,.nil,.nil,(.d (.str ⟨#[]⟩)),ah]),aS 7 2 19,oM 3 20] (ae [bn 22 7 2,oO 23 (.call 9 [(.t 22),(kI 1)] none),oM 21 23,aC 24 21 0,aC 25 21 1,oO 4 (.alloc [.nil,.nil,.nil,.nil,ah,ah]),aS 6 4 24,oM 5 25] (ae [oO 26 (.call 11 [(kI 5),(kI 32)] none),oM 6 26] (ae [bn 28 6 4,oM 29 6,oO 30 (.call 11 [(kI 6),(kI 16)] none),oO 31 (.call 12 [(.t 28),(.k (.c (.d (.int .u64 9)))),(.t 29),(.t 30)] none),oM 27 31,aC 32 27 0,aC 33 27 1,aC 34 27 2,oO 7 (.alloc [.nil,.nil,.nil,.nil,ah,ah]),aS 6 7 32,oM 8 33,oM 9 34] (ae [bn 36 1 1,oM 37 8,oO 38 (.call 13 [(.t 36),(.t 37),(kI 1000)] none),
 oM 35 38,aC 39 35 0,aC 40 35 1,oM 10 39,oM 11 40] (ae [bn 42 6 7,oM 43 6,oM 44 10,gq 45 14 42 43 44,oM 41 45,aC 46 41 0,aC 47 41 1,aC 48 41 2,oO 12 (.alloc [.nil,.nil,.nil,.nil,ah,ah]),oO 13 (.alloc [ah,ah,ah,ah,ah,ah,bh,bh,bh,aW,aW,aW,aW,.nil,.nil,cD]),aS 6 12 46,aS 16 13 47,oM 14 48] (ae [oM 49 3,oM 50 49,bJ 51 5 50 true,cC .eql 52 51 0 50 true,ek 53 50 52,oM 54 53,bJ 55 9 54 true,cC .eql 56 55 0 54 true,ek 57 54 56,oM 58 57,bJ 59 11 58 true,ek 60 58 59,oM 61 60,bJ 62 14 61 true,cC .eql 63 62 0 61 true,ek 64 61 63,oM 65 64,dF 66 2 12 65 true,dt 67 66 65 true,eY 68 67 65 true,cC .eql 69 68 8 65 true,ek 70 65 69,oM 71 70,dF 72 0 13 71 true,dF 73 10 72 71 true,dt 74 73 71 true,oG 75 (.bin .eql (.t 74) (.k (.c (.d (.int .u64 9))))) 71 true,ek 76 71 75,
 oM 77 76,bJ 78 10 77 true,eY 79 78 77 true,bJ 80 8 77 true,eY 81 80 77 true,rh .eql 82 79 81 77 true,ek 83 77 82,oM 0 83] .ret)))))))),[(0,none)]⟩
theorem amY:aM Tryz.prog {} Tryz.f5=some T5:=by kernel_rfl
set_option maxHeartbeats 3200000 in
theorem apd (G:au) (hF:G.at 0=some (.ra (dY.map wD))) (hG:G.at 1=some (.ra (cy.map wD))):aF Tryz.prog G 5 [] (.w (.c (.d (.bool true)))):=by
  refine aX Tryz.func5 amY rfl rfl ?_;have c1:=UG G 1 0 (by decide);rw[show (lR 0 6).toNat=0 from by decide] at c1;have c2:=Vh G hF hG 1 0 1 (by decide) (by decide) (by decide) (by decide);have ok:qd 1 (iN 0 1++de 0 999 8):=amX (by decide) (by decide) (by decide);have ok0:=BU ok (arc _ _);have c3:=T4 G 1 0 1 1 (by decide) ok0 (by decide) (by decide) (by decide);have lu:(bu 5 32).length=32:=ku _ _;have ln:(bu 6 16).length=16:=ku _ _;have c4:=qj G 5 32 (by decide);have c5:=qj G 6 16 (by decide);have b1:iN 0 1=(0,2000000)::[]:=rfl;rw[b1] at c3 ok;have v0:=TY (s:=1) (l:=[(0,2000000)]) (la:=none) (m:=1) (sn:=0) ok0 (by decide) (by decide) (by decide) (by decide);obtain⟨qE,qJ,qB,v1⟩:=T1 (t:=9) (u:=bu 5 32) (n:=bu 6 16) v0 (by decide) lu ln;have c6:=UV G (eK 1 ((0,2000000)::[]) none 1 0) 9 (bu 5 32) (bu 6 16) (by decide);rw[qE,qJ,qB] at c6;obtain⟨ql,_⟩:=CF (U:=ji 1) (u:=bu 5 32) (c:=iT 1 0 (jy 1 2000000)) (n:=bu 6 16) (t:=9) (w:=7) (by decide) (qq 1) lu (yx (by decide) (qt _ _)) ln (by decide);have c7:=T3 G 1 0 0 999 (jy 1 2000000) (bu 5 32) (bu 6 16) 9 7 (by decide) (ap3 _) (by decide) (qt _ _) lu ln (by decide) (by decide) (by decide);obtain⟨al,aE,aJ,aP,_⟩:=T2 (s:=1) (t:=0) (o:=999) (w:=8) (l:=[]) (la:=some (0,2000000)) (m:=1) (sn:=0+1) (τ:=9) (u:=bu 5 32) (n:=bu (((1:Nat):Int)+((999:Nat):Int)+100) 16) v1 (by decide) (by decide) (by decide) lu (ku _ _) ok (by decide);have c8:=UX G (eK 1 [] (some (0,2000000)) 1 (0+1)) (bu 5 32) (nN (ij 1) 9 (bu 5 32) (dQ 1 (de 0 999 8)) (bu (((1:Nat):Int)+((999:Nat):Int)+100) 16)) (by omega);rw[aE,aJ,aP] at c8;have l8:(eK 1 (([]++de 0 999 8).take 8) (some (0,2000000)) 1 (0+1)).ck.length=8:=pf _ _;have e7:7-([]:List (Nat×Nat)).length=7:=rfl;rw[e7] at c6;have e8:7+1=8:=rfl;rw[e8] at c7;clear qE qJ qB aE aJ aP v0 v1 ok ok0 b1 e7 e8;generalize nN (ij 1) 9 (bu 5 32) (dQ 1 (de 0 999 8)) (bu (((1:Nat):Int)+((999:Nat):Int)+100) 16)=B at *
  generalize jN (ji 1) 9 (bu 5 32) (iT 1 0 (jy 1 2000000)) 7 (bu 6 16)=Q at *
  generalize eK 1 (([]++de 0 999 8).take 8) (some (0,2000000)) 1 (0+1)=J2 at *
  generalize eK 1 [] (some (0,2000000)) 1 (0+1)=J1 at *
  generalize eK 1 ((0,2000000)::[]) none 1 0=J0 at *
  generalize bu 5 32=u at *
  generalize bu 6 16=n at *
  generalize oK 1 0 1=T at *
  generalize dr (dQ 1 (de 0 999 8))=X at *
  generalize bW 1 (bu ((1:Nat):Int) 32) 0=ring at *
  rw[show ((1:Nat):Int)=1 from rfl] at c1 c2 c7;rw[show ((1:Int)+((999:Nat):Int))=1000 from rfl] at c7;rw[show ((9:Nat):Int)=9 from rfl] at c6;have g8:((J2.ck.length:Int)=8)=True:=eq_true (by omega);have gl:((B.length:Int)=(Q.length:Int))=True:=eq_true (by omega);unfold cH eb nI at *
  unfold dL lK at c8;simp only[T5,ai,af,seval];refine sD (c1) ?_;refine sD (c2) ?_;refine sD (c3) ?_;refine sD (c4) ?_;refine sD (c5) ?_;refine sD (c6) ?_;refine sD (c7) ?_;refine sC (c8) ?_;simp only[g8,gl,af,aa,seval];exact aZ
theorem acw {l:List (Nat×Nat)} {i:Nat} (h:i<l.length):l.getD i (0,0)∈l:=by
  rw[apT,apR h]; exact aqr h
def fH (t:Nat) (l:List (Nat×Nat)):List D:=l.map fun p=>.int .i64 ((t-p.1:Nat):Int)
theorem yC (t:Nat) (l:List (Nat×Nat)):(fH t l).length=l.length:=ap1 _
def oP (pre:List D) (t:Nat) (l:List (Nat×Nat)) (k:Nat):List D:=pre++(fH (t+1) (l.take k)++fH t (l.drop k))
theorem apf (pre:List D) (t:Nat) (l:List (Nat×Nat)):oP pre t l 0=pre++fH t l:=rfl
theorem ag3 (pre:List D) (t:Nat) (l:List (Nat×Nat)):oP pre t l l.length=pre++fH (t+1) l:=by
  unfold oP;rw[aqy,List.drop_length];simp[fH]
theorem ag4 (pre:List D) (t:Nat) (l:List (Nat×Nat)) {k:Nat} (h:k≤l.length):(oP pre t l k).length=pre.length+l.length:=by
  unfold oP;simp only[apS,yC,ap0,ap5];omega
theorem am0 {pre:List D} {t:Nat} {l:List (Nat×Nat)} {k:Nat} (h:k<l.length):(oP pre t l k)[pre.length+k]?=some (.int .i64 ((t-(l.getD k (0,0)).1:Nat):Int)):=by
  unfold oP;have h1:(fH (t+1) (l.take k)).length=k:=by rw[yC,ap0]; omega
  rw[aql (by omega),aql (by omega),h1];unfold fH;rw[aqH,aq7,show k+(pre.length+k-pre.length-k)=k by omega,apT,apR h];rfl
theorem ag5 {pre:List D} {t:Nat} {l:List (Nat×Nat)} {k:Nat} (h:k<l.length) (ht:(l.getD k (0,0)).1≤t):(oP pre t l k).set (pre.length+k) (.int .i64 (((t-(l.getD k (0,0)).1:Nat):Int)+1))=oP pre t l (k+1):=by
  unfold oP;have h1:(fH (t+1) (l.take k)).length=k:=by rw[yC,ap0]; omega
  rw[art _ _ (by omega),art _ _ (by omega),h1,show pre.length+k-pre.length-k=0 by omega];rw[ars h,aq3,apR h];rw[apT,apR h] at ht ⊢;simp only[fH,apW,List.set_cons_zero,ap8,Option.toList_some,ap4,ap6,aqE,aqz,aq9] at *
  rw[show ((t+1-l[k].1:Nat):Int)=((t-l[k].1:Nat):Int)+1 by omega]
theorem ag6 (t:Nat) (a b:List (Nat×Nat)):fH t (a++b)=fH t a++fH t b:=ap8
theorem am1 (t o m:Nat):de t o (m+1)=de t o m++[(t,o+m)]:=by unfold de; rw[aqS,ap8]; rfl
theorem ag7 (t o m:Nat) (l:List (Nat×Nat)):fH t (l++de t o (m+1))=fH t (l++de t o m)++[.int .i64 0]:=by
  rw[am1,← ap6,ag6];have:fH t [(t,o+m)]=[.int .i64 0]:=by simp[fH]
  rw[this]
theorem ag8 (t n:Nat):fH t (iN t n)=List.replicate n (.int .i64 0):=by
  unfold fH iN;rw[aqQ];refine List.eq_replicate_iff.2 ⟨by simp,fun x hx=>?_⟩;obtain⟨i,_,rfl⟩:=aqa.1 hx;simp
def ta (i:Nat):List Nat:=(List.range i).flatMap fun i=>(List.range 8).map fun k=>500000000+1000*i+k
theorem KA (i:Nat):ta (i+1)=ta i++(List.range 8).map fun k=>500000000+1000*i+k:=by
  unfold ta;rw[show List.range (i+1)=List.range i++[i] from aqS,arn,aqb,ar5,ap7]
theorem ag9 {i:Nat} (h:i≤6):(ta i).Sublist DJ:=by
  have:∀ d,(ta i).Sublist (ta (i+d)):=by
    intro d
    induction d with
    | zero=>exact List.Sublist.refl _
    | succ d ih=>rw[← arO,KA]; exact ih.trans (arc _ _)
  have:=this (6-i);rw[show i+(6-i)=6 by omega] at this;exact this
def oQ (i t:Nat) (l:List (Nat×Nat)) (la:Option (Nat×Nat)):Prop:=((uH la++l).map (·.2)).Sublist (wI++ta i)∧∀ p∈uH la++l,p.1≤t
theorem Jw {s i t:Nat} {l:List (Nat×Nat)} {la:Option (Nat×Nat)} (h:oQ i t l la) (hs:s<1000) (hi:i≤6) (ht:t≤1000):qd s (uH la++l) :=
  ⟨(ape hs).sublist (((h.1.trans (List.Sublist.append (List.Sublist.refl _) (ag9 hi))).map _)),fun p hp=>by have:=h.2 p hp; omega⟩
theorem aha {t n:Nat} (h:n≤8):oQ 0 t (iN t n) none:=by
  refine⟨?_,fun p hp=>?_⟩
  ·show ((iN t n).map (·.2)).Sublist _
   refine List.Sublist.trans ?_ (arc _ _);unfold iN wI;rw[aqQ]
   show ((List.range n).map fun i=>2000000*(i+1)).Sublist _
   exact List.Sublist.map _ (by
     have e:List.range 8=List.range n++(List.range (8-n)).map (n+·):=by rw[← List.range_add]; congr 1; omega
     rw[e];exact arc _ _)
  ·obtain⟨i,_,rfl⟩:=aqa.1 (show p∈iN t n from hp);exact ap3 _
theorem apg {i t t':Nat} {l:List (Nat×Nat)} {la:Option (Nat×Nat)} (h:oQ i t l la) (ht:t≤t'):oQ i t' l la:=⟨h.1,fun p hp=>aqG (h.2 p hp) ht⟩
theorem aph {i t:Nat} {p:Nat×Nat} {l:List (Nat×Nat)} {la:Option (Nat×Nat)} (h:oQ i t (p::l) la):oQ (i+1) t l (some p):=by
  refine⟨?_,fun q hq=>h.2 q (aqi _ hq)⟩;have:((p::l).map (·.2)).Sublist (wI++ta i):=List.Sublist.trans ((arK _ _).map _) h.1;refine List.Sublist.trans this (List.Sublist.append (List.Sublist.refl _) ?_);rw[KA];exact arc _ _
theorem api {i t m:Nat} {p:Nat×Nat} {l:List (Nat×Nat)} {la:Option (Nat×Nat)} (h:oQ i t (p::l) la) (hm:m≤8):oQ (i+1) t (l++de t (500000000+1000*i) m) (some p):=by
  refine⟨?_,fun q hq=>?_⟩
  ·show ((p::(l++de t (500000000+1000*i) m)).map (·.2)).Sublist _
   rw[← aqE,ap8,KA,← ap6];refine List.Sublist.append (List.Sublist.trans ((arK _ _).map _) h.1) ?_;unfold de;rw[aqQ]
   show ((List.range m).map fun k=>500000000+1000*i+k).Sublist _
   exact List.Sublist.map _ (by
     have e:List.range 8=List.range m++(List.range (8-m)).map (m+·):=by rw[← List.range_add]; congr 1; omega
     rw[e];exact arc _ _)
  ·rcases aqg.1 (show q∈(p::l)++de t (500000000+1000*i) m from hq) with hq | hq
   ·exact h.2 q (aqi _ hq)
   ·obtain⟨j,_,rfl⟩:=aqa.1 hq;exact ap3 _
structure Cv where
  i:Nat
  t:Nat
  l:List (Nat×Nat)
  la:Option (Nat×Nat)
  pre:List D
def qe (s t:Nat):List D:=(bW s (bu (s:Int) 32) t).map bf
def iG (s:Nat) (T:List Int) (off n i:Nat):List (Nat×V):=[(0,.w (.c (.d (.int .i64 (s:Int))))),(2,.w (.c (.d (.sl (T.map zD))))),(7,.w (.c (.ptr 1 1 0 0))),(10,.w (.c (.ptr 2 1 0 0))),(12,.w (.c (.own 3 1 off n))),(14,.w (.c (.d (.int .i64 (i:Int)))))]
def kq (s t i:Nat) (l:List (Nat×Nat)) (la:Option (Nat×Nat)) (row:List D):List (Nat×Ob):=[(1,.box [.d (.sl (qe s t))]),(2,.box ((dv (eK s l la 1 (i:Int))).map C.d)),(3,.row 1 row)]
def uI (s t:Nat) (T:List Int) (J:List C):Nat→St
  | 0=>⟨bw [(0,.w (.c (.d (.int .i64 (s:Int))))),(2,.w (.c (.d (.sl (T.map zD))))),(7,.w (.c (.ptr 1 1 0 0))),(10,.w (.c (.ptr 2 1 0 0))),(12,.w (.c .nil)),(13,.w (.c (.d (.int .i64 0))))],hL [(1,.box [.d (.sl (qe s t))]),(2,.box J)],uL [1,2]⟩
  | k+1=>⟨bw [(0,.w (.c (.d (.int .i64 (s:Int))))),(2,.w (.c (.d (.sl (T.map zD))))),(7,.w (.c (.ptr 1 1 0 0))),(10,.w (.c (.ptr 2 1 0 0))),(12,.w (.c (.own 3 1 0 (k+1)))),(13,.w (.c (.d (.int .i64 ((k+1:Nat):Int)))))],hL [(1,.box [.d (.sl (qe s t))]),(2,.box J),(3,.row 1 (cG (k+1) (.int .i64 0)))],uL [1,2,3]⟩
def xE (s:Nat) (T:List Int) (v:Cv):St:=⟨bw (iG s T v.pre.length v.l.length v.i),hL (kq s v.t v.i v.l v.la (v.pre++fH v.t v.l)),uL [1,2,3]⟩
def xF (s:Nat) (T:List Int) (v:Cv) (c:Nat):St:=⟨bw ((15,.w (.c (.d (.int .i64 (c:Int)))))::iG s T v.pre.length v.l.length v.i),hL (kq s (v.t+c) v.i v.l v.la (v.pre++fH (v.t+c) v.l)),uL [1,2,3]⟩
def Ac (s:Nat) (T:List Int) (v:Cv) (c k:Nat):St:=⟨bw ((15,.w (.c (.d (.int .i64 (c:Int)))))::(18,.w (.c (.d (.int .i64 (k:Int)))))::iG s T v.pre.length v.l.length v.i),hL (kq s (v.t+c+1) v.i v.l v.la (oP v.pre (v.t+c) v.l k)),uL [1,2,3]⟩
def Ad (s:Nat) (T:List Int) (t o i:Nat) (l:List (Nat×Nat)) (J:List C) (x:Nat×List D):St:=⟨bw (iG s T x.2.length (l.length+x.1) i),hL [(1,.box [.d (.sl (qe s t))]),(2,.box J),(3,.row 1 (x.2++fH t (l++de t o x.1)))],uL [1,2,3]⟩
def apG (N:Nat) (v:Cv):Prop:=v.i≤N∧v.t≤1+2*v.i∧1≤v.t∧1≤v.l.length∧v.l.length≤8∧oQ v.i v.t v.l v.la
def Bj:bp := .seq (ae [oM 56 13,aL 57 2 10,aA 58 57,bd 59 58,aU .lss 60 56 59] (ar 60 .skip (.exit 0))) (.seq (.block 1 (.reg [oM 63 12,oO 64 (.bldSl false 1 1 dH [(0,(kI 0))]),oO 65 (.app false 1 8 (.t 63) (.t 64)),oM 12 65])) (.reg [oM 61 13,ak .add 62 61 1,oM 13 62]))
def GT:bp := .seq (ae [oM 89 18,oM 90 12,bd 91 90,aU .lss 92 89 91] (ar 92 .skip (.exit 6))) (.seq (.block 7 (.reg [oM 95 12,oM 96 18,bU 97 1 95 96,aA 98 97,ak .add 99 98 1,bU 100 1 95 96,d6 100 99])) (.reg [oM 93 18,ak .add 94 93 1,oM 18 94]))
def Bl:bp := .seq (ae [oM 72 15,oM 73 2,oM 74 14,bU 75 1 73 74,aA 76 75,oO 77 (.call 6 [(.t 76),(kI 3)] none),aU .lss 78 72 77] (ar 78 .skip (.exit 4))) (.seq (.block 5 (ae [bn 82 1 7,aY 83 10 82,oM 81 83,aC 84 81 0,aC 85 81 1,oO 16 (.alloc [.nil]),aS 1 16 84,oM 17 85] (.seq (ae [oM 86 17,ak .neq 87 86 0] (ar 87 (ae [bG 6 false] .ret) .skip)) (ae [bn 88 1 16,aS 1 7 88] (ae [am 18 0] (.block 6 (.loop GT))))))) (.reg [oM 79 15,ak .add 80 79 1,oM 15 80]))
def GU:bp := .seq (ae [oM 178 12,bd 179 178,ak .lss 180 179 8] (ar 180 .skip (.exit 8))) (.block 9 (.appD [oM 181 12,oO 182 (.bldSl false 1 1 dH [(0,(kI 0))])] 183 1 8 (.t 181) (.t 182) [oM 12 183]))
def GV:bp := .seq (ae [oM 66 14,oM 67 2,bd 68 67,aU .lss 69 66 68] (ar 69 .skip (.exit 2))) (.seq (.block 3 (.seq (ae [am 15 0] (.block 4 (.loop Bl))) (ae [oM 101 0,ak .add 102 101 300000000,oM 103 14,aU .add 104 102 103,oO 105 (.call 11 [(.t 104),(kI 32)] none),oM 19 105] (ae [bn 107 6 10,oM 108 14,oO 109 (.conv .u64 (.t 108)),oM 110 19,oM 111 0,ak .add 112 111 400000000,oM 113 14,aU .add 114 112 113,oO 115 (.call 11 [(.t 114),(kI 16)] none),Ei 116 12 107 109 110 115,oM 106 116,aC 117 106 0,aC 118 106 1,aC 119 106 2,oO 20 (.alloc [.nil,.nil,.nil,.nil,ah,ah]),aS 6 20 117,oM 21 118,oM 22 119] (.seq (ae [oM 120 22,ak .neq 121 120 0,oM 122 121,bJ 123 12 122 false,eY 124 123 122 false,cC .eql 125 124 0 122 false,cv 126 122 125] (ar 126 (ae [bG 6 false]
 .ret) .skip)) (ae [bn 128 1 7,oM 129 21,oM 130 0,ak .add 131 130 500000000,oM 132 14,oO 133 (.bin .mul (kI 1000) (.t 132)),aU .add 134 131 133,gq 135 13 128 129 134,oM 127 135,aC 136 127 0,aC 137 127 1,oM 23 136,oM 24 137] (.seq (ae [oM 138 24,oM 139 12,oO 140 (.idxSl 1 (.t 139) (kI 0)),aA 141 140,ak .lss 142 141 4,oO 143 (.eqB true (.t 138) (.t 142))] (ar 143 (ae [bG 6 false] .ret) .skip)) (ae [oM 144 12,oO 145 (.slice 1 (.t 144) (some (kI 1)) none none),oM 12 145] (ae [bn 146 6 20,aS 6 10 146] (.seq (ae [oM 147 24,cW 148 147] (ar 148 (.seq (ae [aL 149 2 10,aA 150 149,bd 151 150,ak .eql 152 151 0] (ar 152 (ae [oO 153 (.call 5 [] none),oM 6 153] .ret) .skip)) (.exit 3)) .skip)) (ae [bn 155 6 20,oM 156 19,oM 157 23,gq 158 14 155 156 157,oM 154 158,aC 159 154 0,
 aC 160 154 1,aC 161 154 2,oO 25 (.alloc [.nil,.nil,.nil,.nil,ah,ah]),oO 26 (.alloc [ah,ah,ah,ah,ah,ah,bh,bh,bh,aW,aW,aW,aW,.nil,.nil,cD]),aS 6 25 159,aS 16 26 160,oM 27 161] (.seq (ae [oM 162 27,ak .neq 163 162 0,oM 164 163,bJ 165 23 164 false,eY 166 165 164 false,bJ 167 21 164 false,eY 168 167 164 false,rh .neq 169 166 168 164 false,cv 170 164 169,oM 171 170,dF 172 2 25 171 false,dt 173 172 171 false,eY 174 173 171 false,cC .neq 175 174 8 171 false,cv 176 171 175] (ar 176 (ae [bG 6 false] .ret) .skip)) (ae [bn 177 6 25,aS 6 10 177] (.block 8 (.loop GU))))))))))))))) (.reg [oM 70 14,ak .add 71 70 1,oM 14 71]))
def Jy:aO:=⟨3,185,ae [bG 6 false] (.seq (ae [oM 28 2,bd 29 28,ak .gtr 30 29 6] (ar 30 (ae [oO 31 (.call 5 [] none),oM 6 31] .ret) .skip)) (ae [oM 32 0,oO 33 (.call 6 [(.t 32),(kI 1000)] none),oM 0 33] (ae [oM 34 0,oO 35 (.call 7 [(.t 34),(kI 1)] none),oO 7 (.alloc [.nil]),aS 1 7 35] (ae [oM 37 0,oM 38 1,oO 39 (.call 6 [(.t 38),(kI 8)] none),oO 40 (.bin .add (kI 1) (.t 39)),bn 41 1 7,gq 42 8 37 40 41,oM 36 42,aC 43 36 0,aC 44 36 1,oO 8 (.alloc [ah,ah,.nil,.nil,.nil,(.d (.str ⟨#[]⟩)),ah]),aS 7 8 43,oM 9 44] (ae [bn 46 7 8,oO 47 (.call 9 [(.t 46),(kI 1)] none),oM 45 47,aC 48 45 0,aC 49 45 1,oO 10 (.alloc [.nil,.nil,.nil,.nil,ah,ah]),aS 6 10 48,oM 11 49] (.seq (ae [oM 50 9,cW 51 50,oM 52 51,bJ 53 11 52 false,cC .neq 54 53 0 52 false,cv 55 52 54] (ar 55 (ae [bG 6 false]
 .ret) .skip)) (ae [aQ 12] (.seq (ae [am 13 0] (.block 0 (.loop Bj))) (.seq (ae [am 14 0] (.block 2 (.loop GV))) (ae [oO 184 (.call 5 [] none),oM 6 184] .ret)))))))))),[(6,none)]⟩
theorem am2:aM Tryz.prog { md:=[(183,[])] } Tryz.f3=some Jy:=by kernel_rfl
set_option maxHeartbeats 1600000 in
theorem apj (G:au) (seed:Int) (hseed1:-9223372036854775808≤seed) (hseed2:seed≤9223372036854775807) (cookies:Int) (hcookies1:-9223372036854775808≤cookies) (hcookies2:cookies≤9223372036854775807) (turns:List Int) (hturns1:turns.length≤maxLen) (hturns2:∀ n∈turns,KL n) (hF:G.at 0=some (.ra (dY.map wD))) (hG:G.at 1=some (.ra (cy.map wD))):aF Tryz.prog G 3 [.int .i64 seed,.int .i64 cookies,.sl (turns.map zD)] (.w (.c (.d (.bool true)))):=by
  refine aX Tryz.func3 am2 rfl rfl ?_;have rk:=apd G hF hG;by_cases hN:turns.length≤6
  ·have e0:=yd G seed 1000 (by decide);obtain⟨r0,r1⟩:=Ae seed 1000 (by decide);obtain⟨s,hs⟩:=aqB r0;have hs:lR seed 1000=(s:Int):=hs;rw[hs] at e0 r0 r1;have e1:=yd G cookies 8 (by decide);obtain⟨p0,p1⟩:=Ae cookies 8 (by decide);obtain⟨n0,hn0⟩:=aqB p0;have hn0:lR cookies 8=(n0:Int):=hn0;rw[hn0] at e1 p0 p1;have hs1:s<1000:=by omega
   have hn8:n0+1≤8:=by omega
   clear hs hn0 r0 r1 p0 p1;have c1:=UG G s 1 (by omega);rw[show (lR 1 6).toNat=1 from by decide] at c1;change aF _ _ _ _ (.w (.c (.d (.agg [.sl (qe s 1)])))) at c1;have c2:=Vh G hF hG s 1 (n0+1) (by omega) (by decide) (by omega) (by omega);rw[show ((n0+1:Nat):Int)=1+(n0:Int) by omega] at c2;change aF _ _ _ [_,_,.agg [.sl (qe s 1)]] _ at c2;have L0:oQ 0 1 (iN 1 (n0+1)) none:=aha (by omega);have c3:=T4 G s 1 (n0+1) 1 (by omega) (Jw L0 (by omega) (by decide) (by decide)) (by omega) (by omega) (by decide);have lJ:(eK s (iN 1 (n0+1)) none 1 0).ck.length=n0+1:=(pf _ _).trans (GR _ _);have lB:=GR 1 (n0+1);have aB:fH 1 (iN 1 (n0+1))=cG (n0+1) (.int .i64 0):=ag8 _ _;generalize oK s 1 (n0+1)=T at *
   generalize iN 1 (n0+1)=B0 at *
   unfold eb nI at *
   simp only[Jy,ai,af,seval,iteOmega];refine sD (e0) ?_;refine sD (c1) ?_;refine sD (e1) ?_;refine sD (c2) ?_;refine sD (c3) ?_;refine bO (uI s 1 turns ((dv (eK s B0 none 1 0)).map C.d)) (fun k=>n0+1-k) (fun k=>k≤n0+1) 0 (apZ _) ?_ ?_
   ·refine aR (fun i=>if i=1 then 56 else 80) ?_ ?_ rfl rfl <;> simp only[dv,wx,aH,seval] <;> first | rfl | exact⟨rfl,rfl⟩ | skip
   ·intro k hk;by_cases hlt:k<n0+1
    ·have rs':∀ k,cG k (D.int .i64 0)++[D.int .i64 0]=cG (k+1) (D.int .i64 0):=fun k=>by unfold cG; exact ary.symm
     clear c1 c2 c3 e0 e1 rk;rcases k with _ | k
     ·simp only[Bj,uI,dv,af,seval,iteOmega,lJ,cg];refine bA (0+1) (by omega) (by omega) (aR (fun i=>if i=3 then 520 else i) ?_ ?_ rfl rfl) <;> simp only[wx,aH,seval] <;> first | rfl | exact⟨rfl,rfl⟩ | skip
     ·have rl:=eL (k+1) (D.int .i64 0);have rs:=rs' (k+1);have rs':∀ k,cG k (D.int .i64 0)++[D.int .i64 0]=cG (k+1) (D.int .i64 0):=fun k=>by unfold cG; exact ary.symm
      simp only[Bj,uI,dv,af,seval,iteOmega,lJ,cg,rl];refine bA (k+1+1) (by omega) (by omega) (aR (fun i=>if i=3 then 520 else i) ?_ ?_ rfl rfl) <;> simp only[rs,wx,aH,aV,seval] <;> first | rfl | exact⟨rfl,rfl⟩ | skip
    ·obtain rfl:k=n0+1:=by omega
     simp only[Bj,uI,dv,af,seval,iteOmega,lJ];clear c1 c2 c3 e0 e1;refine bO (xE s turns) (fun v=>turns.length-v.i) (apG turns.length) ⟨0,1,B0,none,[]⟩ ⟨apZ _,by show 1≤1+2*0; decide,by show 1≤1; decide,by show 1≤B0.length; omega,by show B0.length≤8; omega,L0⟩ ?_ ?_
     ·refine aR (fun i=>i) ?_ ?_ rfl rfl <;> simp only[iG,kq,dv,lB,aB,wx,aH,seval] <;> first | rfl | exact⟨rfl,rfl⟩ | skip
     ·rintro⟨i,t,l,la,pre⟩ ⟨hi,ht,ht1,hl1,hl8,L⟩;dsimp only at hi ht ht1 hl1 hl8 L;clear lJ lB aB L0 hk hlt;by_cases hlt:i<turns.length
      ·obtain⟨p,l',rfl⟩:∃ p l',l=p::l':=by
         cases l with
         | nil=>simp at hl1
         | cons p l'=>exact⟨p,l',rfl⟩
       rw[aqx] at hl8;have eW:=yd G (turns.getD i 0) 3 (by decide);obtain⟨w0,w1⟩:=Ae (turns.getD i 0) 3 (by decide);obtain⟨C,hC⟩:=aqB w0;have hC:lR (turns.getD i 0) 3=(C:Int):=hC;rw[hC] at eW w0 w1;have hC3:C<3:=by omega
       have gT:=apF hlt;generalize turns.getD i 0=x at *
       clear hC w0 w1 hl1;have i6:i<6:=by omega
       have t20:t≤20:=by omega
       simp only[GV,xE,iG,kq,dv,af,seval,iteOmega];refine bO (xF s turns ⟨i,t,p::l',la,pre⟩) (fun c=>C-c) (fun c=>c≤C) 0 (apZ _) ?_ ?_
       ·refine aR (fun i=>i) ?_ ?_ rfl rfl <;> simp only[iG,kq,dv,wx,aH,seval] <;> first | rfl | exact⟨rfl,rfl⟩ | skip
       ·intro c hc;by_cases hcl:c<C
        ·have cR:=amd G hF hG (bW s (bu (s:Int) 32) (t+c)) (by rw[pb]; omega);obtain⟨rE,rL⟩:=OV (s:=s) (seed:=bu (s:Int) 32) (t:=t+c) (by omega);rw[rE,rL] at cR;change aF _ _ _ [.agg [.sl (qe s (t+c))]] (.tup [.c (.d (.agg [.sl (qe s (t+c+1))])),_]) at cR;clear rE rL rk;simp only[Bl,xF,iG,kq,dv,af,seval,iteOmega,toNatUp,bc,gT,zD];refine sD (eW) ?_;refine sD (cR) ?_;refine bO (Ac s turns ⟨i,t,p::l',la,pre⟩ c) (fun k=>(p::l').length-k) (fun k=>k≤(p::l').length) 0 (apZ _) ?_ ?_
         ·refine aR (fun i=>i) ?_ ?_ rfl rfl <;> simp only[iG,kq,dv,apf,wx,aH,seval] <;> first | rfl | exact⟨rfl,rfl⟩ | skip
         ·intro k hk;clear cR eW;by_cases hkl:k<(p::l').length
          ·have h1:=am0 (pre:=pre) (t:=t+c) hkl;have h2:=ag5 (pre:=pre) (t:=t+c) hkl (by have:=L.2 _ (aqi _ (acw hkl)); omega);have h3:=ag4 pre (t+c) (p::l') (k:=k) (by omega);rw[aqx] at hkl h3;simp only[GT,Ac,iG,kq,dv,af,aa,seval,iteOmega,toNatUp,h1,h2];refine bA (k+1) (by omega) (by omega) (aR (fun i=>i) ?_ ?_ rfl rfl) <;> simp only[iG,kq,dv,wx,aH,aV,seval] <;> first | rfl | exact⟨rfl,rfl⟩ | skip
          ·obtain rfl:k=(p::l').length:=by omega
           have h4:=ag3 pre (t+c) (p::l');rw[aqx] at h4;have e4:=arO t c 1;simp only[GT,Ac,iG,kq,dv,af,seval,iteOmega];refine bA (c+1) (by omega) (by omega) (aR (fun i=>i) ?_ ?_ rfl rfl) <;> simp only[iG,kq,dv,h4,e4,wx,aH,aV,seval] <;> first | rfl | exact⟨rfl,rfl⟩ | skip
        ·obtain rfl:c=C:=by omega
         have L2:oQ i (t+c) (p::l') la:=apg L (by omega);have hp:p.1≤t+c:=L2.2 p (aqi _ (aqj ..));have t2h:t+c≤1+2*(i+1):=by omega
         generalize hT2:t+c=t2 at *
         have v0:=TY (s:=s) (l:=p::l') (la:=la) (m:=1) (sn:=(i:Int)) (Jw L2 hs1 (by omega) (by omega)) (by rw[aqx]; exact hl8) (by decide) (by omega) (by omega);have lu:(bu ((s:Int)+300000000+(i:Int)) 32).length=32:=ku _ _;have ln:(bu ((s:Int)+400000000+(i:Int)) 16).length=16:=ku _ _;have cU:=qj G ((s:Int)+300000000+(i:Int)) 32 (by decide);have cN:=qj G ((s:Int)+400000000+(i:Int)) 16 (by decide);generalize bu ((s:Int)+300000000+(i:Int)) 32=u at *
         generalize bu ((s:Int)+400000000+(i:Int)) 16=nq at *
         obtain⟨qE,qJ,qB,v1⟩:=T1 (t:=i) (u:=u) (n:=nq) v0 (by omega) lu ln;have c6:=UV G (eK s (p::l') la 1 (i:Int)) i u nq (by omega);rw[qE,qJ,qB] at c6;have lc:(iT s p.1 (jy s p.2)).length=104:=yx (by omega) (qt _ _);obtain⟨ql,_⟩:=CF (U:=ji s) (u:=u) (c:=iT s p.1 (jy s p.2)) (n:=nq) (t:=i) (w:=7-l'.length) (by omega) (qq s) lu lc ln (by omega);have lk:(eK s l' (some p) 1 ((i:Int)+1)).ck.length=l'.length:=pf _ _;have gA:(pre++D.int .i64 ((t2-p.1:Nat):Int)::fH t2 l')[pre.length]?=some (.int .i64 ((t2-p.1:Nat):Int)):=by
           rw[aql (ap3 _),arE]; rfl
         have eA:pre++fH t2 (p::l')=pre++D.int .i64 ((t2-p.1:Nat):Int)::fH t2 l':=rfl;have laD:=yC t2 l';clear qE qJ qB v0;by_cases h4:t2-p.1<4
         ·obtain⟨w1,hw1⟩:∃ w1,7-l'.length+1=w1:=⟨_,rfl⟩
          have c7:=T3 G s t2 p.1 (500000000+1000*i) (jy s p.2) u nq i (7-l'.length) (by omega) hp h4 (qt _ _) lu ln (by omega) (by omega) (by omega);rw[hw1] at c7;have L3:=api (m:=w1) L2 (by omega);obtain⟨al,aE,aJ,aP,_⟩:=T2 (s:=s) (t:=t2) (o:=500000000+1000*i) (w:=w1) (l:=l') (la:=some p) (m:=1) (sn:=(i:Int)+1) (τ:=i) (u:=u) (n:=bu ((s:Int)+((500000000+1000*i:Nat):Int)+100) 16) v1 (by omega) (by omega) (by omega) lu (ku _ _) (Jw L3 hs1 (by omega) (by omega)) (by omega);rw[apX (by rw[apS,vi]; omega)] at aJ;have c8:=UX G (eK s l' (some p) 1 ((i:Int)+1)) u (nN (ij s) i u (dQ s (de t2 (500000000+1000*i) w1)) (bu ((s:Int)+((500000000+1000*i:Nat):Int)+100) 16)) (by omega);rw[aE,aJ,aP] at c8;have lN:(l'++de t2 (500000000+1000*i) w1).length=8:=by rw[apS,vi]; omega
          have l8:(eK s (l'++de t2 (500000000+1000*i) w1) (some p) 1 ((i:Int)+1)).ck.length=8:=(pf _ _).trans lN;generalize nN (ij s) i u (dQ s (de t2 (500000000+1000*i) w1)) (bu ((s:Int)+((500000000+1000*i:Nat):Int)+100) 16)=B at *
          rw[show (s:Int)+((500000000+1000*i:Nat):Int)=(s:Int)+500000000+1000*(i:Int) by omega] at c7;change aF _ _ _ [.agg [.sl (qe s t2)],_,_] _ at c7;have g4:(((t2-p.1:Nat):Int)<4)=True:=eq_true (by omega);generalize jN (ji s) i u (iT s p.1 (jy s p.2)) (7-l'.length) nq=Q at *
          have gl:((B.length:Int)=(Q.length:Int))=True:=eq_true (by omega);have g8:((((eK s (l'++de t2 (500000000+1000*i) w1) (some p) 1 ((i:Int)+1)).ck.length:Nat):Int)=8)=True:=eq_true (by omega);have aN:=ag7 t2 (500000000+1000*i);have n0e:de t2 (500000000+1000*i) 0=[]:=rfl;generalize dr (dQ s (de t2 (500000000+1000*i) w1))=X at *
          clear aE aJ aP v1;generalize ((t2-p.1:Nat):Int)=a at *
          unfold eb at c6 c8;unfold dL lK at c8;simp only[Bl,xF,iG,kq,dv,af,seval,iteOmega,toNatUp,bc,gT,zD,hT2,eA];refine sD (eW) ?_;refine sD (cU) ?_;refine sD (cN) ?_;refine sC (c6) ?_;simp only[af,aa,seval,iteOmega];refine sC (c7) ?_;simp only[gA,g4,af,aa,seval,iteOmega,toNatUp];refine sC (c8) ?_;simp only[gl,g8,af,aa,seval];refine bO (Ad s turns t2 (500000000+1000*i) (i:Nat) l' ((dv (eK s (l'++de t2 (500000000+1000*i) w1) (some p) 1 ((i:Int)+1))).map C.d)) (fun x=>8-(l'.length+x.1)) (fun x=>x.1≤w1) (0,pre++[.int .i64 a]) (apZ _) ?_ ?_
          ·refine aR (fun i=>i) ?_ ?_ rfl rfl <;> simp only[iG,dv,n0e,ap6,wx,aH,seval] <;> first | rfl | exact⟨rfl,rfl⟩ | skip
          ·rintro⟨m,pr⟩ hm;dsimp only at hm;by_cases hml:m<w1
           ·have hle:(pr++fH t2 (l'++de t2 (500000000+1000*i) m)).length=pr.length+(l'.length+m):=by rw[apS,yC,apS,vi]
            simp only[GU,Ad,iG,dv,af,seval,iteOmega];refine aaP (es:=pr++fH t2 (l'++de t2 (500000000+1000*i) m)) (ys:=[.int .i64 0]) (by simp only[af,seval,cg]) (by simp only[af,seval]) (by simp only[af,seval] <;> rfl) (by simp only[af,seval]) hle.symm (by simp only[aqx,aqZ]; omega) (by simp only[aqx,aqZ]; omega) (by simp only[af,seval]) ?_;intro pr2 hp2;rw[List.drop_left,ap6,← aN];simp only[af,seval];refine bA (m+1,pr2) (by show 8-(l'.length+(m+1))<8-(l'.length+m); omega) (by show m+1≤w1; omega) (aR (fun i=>if i=3 then 1464 else i) ?_ ?_ rfl rfl) <;> simp only[iG,wx,aH,seval] <;> first | rfl | exact⟨rfl,rfl⟩ | skip
           ·obtain rfl:m=w1:=by omega
            simp only[GU,Ad,iG,dv,af,seval,iteOmega];have lm:(l'++de t2 (500000000+1000*i) m).length=l'.length+m:=by rw[apS,vi]
            refine bA (⟨i+1,t2,l'++de t2 (500000000+1000*i) m,some p,pr⟩:Cv) (by show turns.length-(i+1)<turns.length-i; omega) ⟨by show i+1≤turns.length; omega,t2h,by show 1≤t2; omega,by show 1≤(l'++de t2 (500000000+1000*i) m).length; omega,by show (l'++de t2 (500000000+1000*i) m).length≤8; omega,L3⟩ (aR (fun i=>i) ?_ ?_ rfl rfl) <;> simp only[iG,kq,dv,lm,wx,aH,aV,seval] <;> first | rfl | exact⟨rfl,rfl⟩ | skip
         ·have cY:=amC G (bW s (bu (s:Int) 32) t2) (ji s) (iT s p.1 (jy s p.2)) u nq i (7-l'.length) ((s:Int)+500000000+1000*(i:Int)) (by rw[pb]; omega) (by
            have:=(QT (s:=s) (t:=t2) (k:=p.1) (seed:=bu (s:Int) 32) (algo:=15) (up:=ji s) (dn:=ij s) (n:=jy s p.2) (by omega) hp (by decide) (by decide) (qq s) (tz s) (qt _ _)).2.2 (by omega)
            show gU _ (dC (gj s (bu (s:Int) 32) p.1) 15 (ji s) (ij s) (jy s p.2))≠0
            rw[this.1]; decide) (qq s) lc lu ln (by omega) (by omega)
          change aF _ _ _ [.agg [.sl (qe s t2)],_,_] _ at cY;have g4:(((t2-p.1:Nat):Int)<4)=False:=eq_false (by omega);generalize jN (ji s) i u (iT s p.1 (jy s p.2)) (7-l'.length) nq=Q at *
          generalize ((t2-p.1:Nat):Int)=a at *
          unfold eb at c6;simp only[Bl,xF,iG,kq,dv,af,seval,iteOmega,toNatUp,bc,gT,zD,hT2,eA];refine sD (eW) ?_;refine sD (cU) ?_;refine sD (cN) ?_;refine sD (c6) ?_;by_cases hz:l'.length=0
          ·refine sC (cY) ?_;simp only[gA,g4,lk,hz,af,aa,seval,toNatUp];refine sD (rk) ?_;exact aZ
          ·refine sC (cY) ?_;simp only[gA,g4,lk,af,aa,seval,iteOmega,toNatUp];refine bA (⟨i+1,t2,l',some p,pre++[.int .i64 a]⟩:Cv) (by show turns.length-(i+1)<turns.length-i; omega) ⟨by show i+1≤turns.length; omega,t2h,by show 1≤t2; omega,by show 1≤l'.length; omega,by show l'.length≤8; omega,aph L2⟩ (aR (fun i=>i) ?_ ?_ rfl rfl) <;> simp only[iG,kq,dv,ap6,wx,aH,aV,seval] <;> first | rfl | exact⟨rfl,rfl⟩ | skip
      ·simp only[GV,xE,iG,kq,dv,af,seval,iteOmega];refine sD (rk) ?_;exact aZ
  ·simp only[Jy,ai,af,seval,iteOmega];refine sD (rk) ?_;exact aZ
end Go.Proofs.YtnjhelpgohdajaaGreatDoor
