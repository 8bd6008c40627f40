/- Texts of one's own, merged: from: Layer 21 on data: the reference: Encode,body,short,Numbers,all,Request,has,Choose,strange. Own work. -/
import Derived.Test.YtofonnokanoflaaGreatDoorMt117
import Derived.Test.YtofonnokanoflaaGreatDoorMt110
import Derived.Test.YtofonnokanoflaaGreatDoorMt118
import Derived.Test.YtofonnokanoflaaGreatDoorMt116
import Derived.Test.YtofonnokanoflaaGreatDoorMt17
import Derived.Test.YtofonnokanoflaaGreatDoorMt114
import Derived.Shelf.Abstract
import Derived.Test.YtofonnokanoflaaGreatDoorMt115
import Derived.Test.YtofonnokanoflaaGreatDoorMt19
set_option linter.unusedVariables false
set_option linter.unusedSimpArgs false
namespace Go.Proofs.YtofonnokanoflaaGreatDoor
open Go.RowKit
theorem wE {l:List Int} {i:Nat} (h:i<l.length):l[i]?=some (l.getD i 0):=by
  rw[aor,aon h]; rfl
theorem Gl {l:List Int} {i:Nat} (h:i<l.length):l.getD i 0∈l:=by
  rw[aor,aon h];exact aoS h
theorem xw {l:List Int} {i:Nat} (h:i<l.length):l.take (i+1)=l.take i++[l.getD i 0]:=by
  rw[apR,wE h]; rfl
theorem ajq {x y:List Int} {i:Nat} (hi:i<x.length) (hn:∀ v∈x.take i,v∉y) (h:x.getD i 0∈y):gC x y=some (x.getD i 0):=by
  have e:x=x.take i++x.getD i 0::x.drop (i+1):=by
    have:=(aoX (i+1) x).symm;rw[xw hi,aoC] at this;exact this
  have:gC (x.take i++x.getD i 0::x.drop (i+1)) y=some (x.getD i 0):=by
    unfold gC;rw[List.find?_append,List.find?_eq_none.2 (fun v hv q=>hn v hv (of_decide_eq_true q)),List.find?_cons_of_pos (p:=fun v=>decide (v∈y)) (decide_eq_true h)];rfl
  rw[← e] at this;exact this
theorem amw (n:Nat):Int.tmod (n:Int) 2=((n%2:Nat):Int):=rfl
structure Fw where
  p:Nat
  o:List Fd
open IntWalk
set_option maxHeartbeats 3200000
theorem Bh (key info:List UInt8):nk key info 32=lT key info 32∧si 32=0:=⟨rm key info (by decide),s5 (by decide)⟩
def xQ:aK:=⟨2,31,ae [oO 4 (.alloc [.nil]),ak 5 0] (.seq (ae [oM 8 0,am .lss 9 8 0,oM 10 9,bE 11 0 10 false,cu .gtr 12 11 4294967295 10 false,cC 13 10 12] (aw 13 (ae [oO 14 (.build [.nil] []),aS 1 4 14,ak 5 4] .ret) .skip)) (.seq (ae [oM 15 1,bc 16 15,am .neq 17 16 32] (aw 17 (ae [oO 18 (.build [.nil] []),aS 1 4 18,ak 5 5] .ret) .skip)) (ae [oM 20 1,oO 21 (.bldSl true 13 1 aj [(0,(.k (.c (.d (.int .u8 115))))),(1,(.k (.c (.d (.int .u8 101))))),(2,(.k (.c (.d (.int .u8 99))))),(3,(.k (.c (.d (.int .u8 116))))),(4,(.k (.c (.d (.int .u8 105))))),(5,(.k (.c (.d (.int .u8 109))))),(6,(.k (.c (.d (.int .u8 101))))),(7,(.k (.c (.d (.int .u8 32))))),(8,(.k (.c (.d (.int .u8 115))))),(9,(.k (.c (.d (.int .u8 116))))),(10,(.k (.c (.d (.int .u8 97))))),(11,(.k (.c (.d (.int .u8 114))))),(12,(.k (.c (.d (.int .u8 116)))))]),
 oO 22 (.markF (.t 21)),oO 23 (.call 71 [(.t 20),(.t 22),(kI 32)] none),oM 19 23,aB 24 19 0,aB 25 19 1,oM 6 24,oM 7 25] (ae [oM 26 0,oM 27 6,oO 28 (.build [ah,.nil] [(0,1,(.t 26)),(1,1,(.t 27))]),oO 29 (.bldSl false 1 2 (.agg [ej,(.sl [])]) [(0,(.t 28))]),oO 30 (.build [.nil] [(0,1,(.t 29))]),aS 1 4 30,ak 5 0] .ret)))),[(4,(some (.ag 1))),(5,none)]⟩
theorem af1:aI Tryz.prog { own:=[21],frz:=[22] } Tryz.f30=some xQ:=by kernel_rfl
theorem ajF (G:au) (id:Int) (seed:List UInt8) (hs:seed.length≤9223372036854775807):aF Tryz.prog G 30 [.int .i64 id,.sl (seed.map bD)] (.tup [.c (.d (cJ (tS id seed))),.c (.d (.int .i64 (om id seed)))]):=by
  refine aT Tryz.func30 af1 rfl rfl ?_;rcases aqo id 0 with h1 | h1
  ·have e:om id seed=4:=if_pos (.inl h1);have e2:tS id seed=[]:=if_neg (by rw[e]; decide);rw[e,e2];unfold cJ;simp only[xQ,ai,af,aa,seval,iteOmega];exact eW (by simp only[af,seval] <;> rfl) (by simp only[af,seval])
  ·rcases aqo 4294967295 id with h2 | h2
   ·have e:om id seed=4:=if_pos (.inr h2);have e2:tS id seed=[]:=if_neg (by rw[e]; decide);have g:(id>4294967295)=True:=eq_true h2;rw[e,e2];unfold cJ;simp only[xQ,ai,af,aa,seval,iteOmega,g];exact eW (by simp only[af,seval] <;> rfl) (by simp only[af,seval])
   ·have g:(id>4294967295)=False:=eq_false (by omega);by_cases h3:seed.length=32
    ·have e:om id seed=0:=by unfold om; rw[if_neg (by omega),if_neg (by omega)]
     have e2:tS id seed=[⟨id,ww seed⟩]:=if_pos e;rw[e,e2];have c:=Cg G seed xL (by omega) (by decide) 32 (by decide) (by decide);rw[(Bh seed xL).1,(Bh seed xL).2,show lT seed xL 32=ww seed from rfl] at c;generalize ww seed=K at *
     unfold cJ;simp only[xQ,ai,af,seval,iteOmega,g,h3];refine bK c (by simp only[af,seval] <;> rfl) (.inl rfl) ?_;simp only[af,aa,seval];exact eW (by simp only[af,seval] <;> rfl) (by simp only[af,seval])
    ·have e:om id seed=5:=by unfold om; rw[if_neg (by omega),if_pos h3]
     have e2:tS id seed=[]:=if_neg (by rw[e]; decide);rw[e,e2];unfold cJ;simp only[xQ,ai,af,aa,seval,iteOmega,g];exact eW (by simp only[af,seval] <;> rfl) (by simp only[af,seval])
theorem ajG {l:List Fd} (h:¬ eU l):mD l=3∧qT l=[]:=by
  have e:mD l=3:=if_neg h;exact⟨e,if_neg (by rw[e]; decide)⟩
theorem ajH {l:List Fd} (h:eU l) {i:Nat} (hi:i<l.length) (h3:i<3) (e:(l.getD i default).ty=jX l):mD l=7∧qT l=[]:=by
  have hc:clash l=true:=by
    unfold clash;rw[apC];refine⟨l.getD i default,?_,decide_eq_true e⟩;rw[aor,aon hi];exact List.mem_take_iff_getElem.2 ⟨i,by omega,rfl⟩
  have e7:mD l=7:=by unfold mD; rw[if_pos h,if_pos hc]
  exact⟨e7,if_neg (by rw[e7]; decide)⟩
theorem Wa {l:List Fd} (h:eU l) {i:Nat} (hi:i≤l.length) (hend:l.length≤i∨3≤i) (hd:∀ j,j<i→(l.getD j default).ty≠jX l) (h3:i≤3):mD l=0∧qT l=qS l::l.take i:=by
  have ht:l.take 3=l.take i:=by
    rcases hend with h | h
    ·rw[aot h,aot (by omega)]
    ·rw[show i=3 by omega]
  have hc:clash l=false:=by
    unfold clash;rw[ht,apz];intro f hf;obtain⟨j,hj,rfl⟩:=List.mem_take_iff_getElem.1 hf;have:=hd j (by omega);rw[aor,aon (by omega)] at this
    simpa using this
  have e:mD l=0:=by unfold mD; rw[if_pos h,if_neg (by rw[hc]; decide)]
  refine⟨e,?_⟩;unfold qT;rw[if_pos e,ht]
def ji (l:List Fd) (i:Nat):List Fd:=qS l::l.take i
theorem ajI {l:List Fd} {i:Nat} (h:i<l.length):ji l (i+1)=ji l i++[l.getD i default]:=by
  unfold ji;rw[zZ h]; rfl
def Yh (l:List Fd) (i:Nat):St:=⟨bz [(1,.w (.c (.rp [.sl (l.map bg)]))),(2,.w (.c (.ptr 3 1 0 0))),(6,.w (.c (.ptr 1 1 0 0))),(7,.w (.c (.d (.int .i64 (i:Int)))))],hL [(1,.box [.own 2 2 0 (ji l i).length]),(2,.row 2 ((ji l i).map bg)),(3,.box [.nil])],uL [1,2,3]⟩
def xB:bq := .seq (ae [oM 34 7,aO 35 0 1,aA 36 35,bc 37 36,aU .lss 38 34 37,oM 39 38,bE 40 7 39 true,cu .lss 41 40 3 39 true,dh 42 39 41] (aw 42 .skip (.exit 0))) (.seq (.block 1 (.seq (ae [aO 45 0 1,aA 46 45,oM 47 7,bW 48 2 46 47,aO 49 0 48,aA 50 49,aO 51 0 6,aA 52 51,oO 53 (.idxSl 2 (.t 52) (kI 0)),aO 54 0 53,aA 55 54,aU .eql 56 50 55] (aw 56 (ae [oO 57 (.build [.nil] []),aS 1 2 57,ak 3 7] .ret) .skip)) (.reg [aO 58 0 6,aA 59 58,aO 60 0 1,aA 61 60,oM 62 7,bW 63 2 61 62,aO 64 0 63,aA 65 64,aO 66 0 1,aA 67 66,oM 68 7,bW 69 2 67 68,aO 70 1 69,aA 71 70,oO 72 (.bldSl false 1 1 (.sl []) [(0,(.t 71))]),aW 73 23 72,oO 74 (.build [ah,.nil] [(0,1,(.t 65)),(1,1,(.t 73))]),oO 75 (.bldSl false 1 2 (.agg [ej,(.sl [])]) [(0,(.t 74))]),oO 76 (.app false 2 32 (.t 59) (.t 75)),
 aO 77 0 6,ei 77 76]))) (.reg [oM 43 7,am .add 44 43 1,oM 7 44]))
def Hf:aK:=⟨1,79,ae [cW 1 0,oO 2 (.alloc [.nil]),ak 3 0] (.seq (ae [bn 8 1 1,aW 9 72 8,dd 10 9] (aw 10 (ae [oO 11 (.build [.nil] []),aS 1 2 11,ak 3 3] .ret) .skip)) (ae [aO 13 0 1,aA 14 13,oO 15 (.idxSl 2 (.t 14) (kI 0)),aO 16 1 15,aA 17 16,oO 18 (.bldSl true 12 1 aj [(0,(.k (.c (.d (.int .u8 115))))),(1,(.k (.c (.d (.int .u8 101))))),(2,(.k (.c (.d (.int .u8 99))))),(3,(.k (.c (.d (.int .u8 116))))),(4,(.k (.c (.d (.int .u8 105))))),(5,(.k (.c (.d (.int .u8 109))))),(6,(.k (.c (.d (.int .u8 101))))),(7,(.k (.c (.d (.int .u8 32))))),(8,(.k (.c (.d (.int .u8 110))))),(9,(.k (.c (.d (.int .u8 101))))),(10,(.k (.c (.d (.int .u8 120))))),(11,(.k (.c (.d (.int .u8 116)))))]),oO 19 (.markF (.t 18)),oO 20 (.call 71 [(.t 17),(.t 19),(kI 32)] none),oM 12 20,aB 21 12 0,aB 22 12 1,
 oM 4 21,oM 5 22] (ae [aO 23 0 1,aA 24 23,oO 25 (.idxSl 2 (.t 24) (kI 0)),aO 26 0 25,aA 27 26,am .add 28 27 1,am .and 29 28 4294967295,oM 30 4,oO 31 (.build [ah,.nil] [(0,1,(.t 29)),(1,1,(.t 30))]),oO 32 (.bldSl true 1 2 (.agg [ej,(.sl [])]) [(0,(.t 31))]),oO 33 (.build [.nil] [(0,1,(.t 32))]),oO 6 (.alloc [.nil]),aS 1 6 33] (.seq (ae [ak 7 0] (.block 0 (.loop xB))) (ae [bn 78 1 6,aS 1 2 78,ak 3 0] .ret))))),[(2,(some (.ag 1))),(3,none)]⟩
theorem af2:aI Tryz.prog { own:=[18,32],frz:=[19] } Tryz.f32=some Hf:=by kernel_rfl
theorem ajJ (G:au) (l:List Fd) (hl:l.length≤9223372036854775807):aF Tryz.prog G 32 [cJ l] (.tup [.c (.d (cJ (qT l))),.c (.d (.int .i64 (mD l)))]):=by
  refine aT Tryz.func32 af2 rfl rfl ?_;have c1:=ajE G l hl;by_cases hr:eU l
  ·rw[decide_eq_true hr] at c1;have r1:=hr.1;have r2:=hr.2.1;have g0:=lU (l:=l) (i:=0) (by omega);obtain⟨⟨m1,m2,m3⟩,_⟩:=rF hr (i:=0) (by omega);have c2:=Cg G (l.getD 0 default).da Bf (by omega) (by decide) 32 (by decide) (by decide);rw[(Bh _ Bf).1,(Bh [] []).2,show lT (l.getD 0 default).da Bf 32=wC (l.getD 0 default).da from rfl] at c2;have ha:=abG ((l.getD 0 default).ty+1);rw[show ((l.getD 0 default).ty+1)%4294967296=jX l from rfl] at ha;have hO0:ji l 0=[⟨jX l,wC (l.getD 0 default).da⟩]:=rfl;have hOh:∀ i,(ji l i).map bg=.agg [.int .i64 (jX l),.sl ((wC (l.getD 0 default).da).map bD)]::(l.take i).map bg:=fun i=>rfl
   unfold cJ at *
   generalize hk0:l.getD 0 default=k0 at *
   simp only[Hf,ai,af,seval];refine sC (c1) ?_;simp only[ba,g0,bg,af,seval,iteOmega,toNatUp];refine sC c2 ?_;simp only[ba,g0,bg,ha,af,aa,seval,iteOmega,toNatUp];refine bQ (Yh l) (fun i=>4-i) (fun i=>i≤l.length∧i≤3∧∀ j,j<i→(l.getD j default).ty≠jX l) 0 ⟨aoy _,aoy _,fun j hj=>by omega⟩ ?_ ?_
   ·refine aV (fun i=>if i=1 then 48 else if i=2 then 256 else 16) ?_ ?_ rfl rfl <;> simp only[wx,aH,seval,hO0] <;> first | exact⟨rfl,rfl⟩ | rfl | skip
   ·rintro i ⟨hi,hi3,hd⟩;clear c1 c2;have hOl:(ji l i).length=i+1:=by simp[ji]; omega
    have az:=mO (ji l i);have hhd:(ji l i)[0]?=some (qS l):=rfl;have hty:(qS l).ty=jX l:=rfl;have est:Yh l i=⟨bz [(1,.w (.c (.rp [.sl (l.map bg)]))),(2,.w (.c (.ptr 3 1 0 0))),(6,.w (.c (.ptr 1 1 0 0))),(7,.w (.c (.d (.int .i64 (i:Int)))))],hL [(1,.box [.own 2 2 0 (ji l i).length]),(2,.row 2 ((ji l i).map bg)),(3,.box [.nil])],uL [1,2,3]⟩:=rfl;by_cases hlt:i<l.length
    ·by_cases h3:i<3
     ·have g:=lU hlt;have hs:=ajI hlt;obtain⟨⟨_,_,x3⟩,_⟩:=rF hr hlt;have cj:=uW G [(l.getD i default).da] (by simp) (by rw[apd,apf,aoF,x3]; decide);simp only[aos,aoA,apd,apf,aoF] at cj;by_cases he:(l.getD i default).ty=jX l
      ·obtain⟨e1,e2⟩:=ajH hr hlt h3 he;have ge:((l.getD i default).ty=jX l)=True:=eq_true he;rw[e1,e2,est];clear hd hs hOh hO0 est;generalize ji l i=O at *
       generalize l.getD i default=x at *
       generalize qS l=nf at *
       generalize jX l=ni at *
       simp only[xB,af,aa,seval,iteOmega,toNatUp,ba,g,hhd,bg,hty,ge];exact eW (by simp only[af,seval] <;> rfl) (by simp only[af,seval])
      ·have ge:((l.getD i default).ty=jX l)=False:=eq_false he;have hd':∀ j,j<i+1→(l.getD j default).ty≠jX l:=fun j hj=>by
         rcases aoP j i with h | h
         ·exact hd j h
         ·obtain rfl:j=i:=by omega
          exact he
       rw[est];clear hd hOh hO0 est;generalize hO:ji l i=O at *
       generalize l.getD i default=x at *
       generalize hnf:qS l=nf at *
       generalize hni:jX l=ni at *
       simp only[xB,af,seval,iteOmega,toNatUp,ba,g,hhd,bg,hty,ge];refine sC (cj) ?_;simp only[cG,af,aa,seval,iteOmega];refine bA (i+1) (by omega) ⟨by omega,by omega,hd'⟩ (aV (fun i=>if i=1 then 1 else if i=2 then 608 else 3) ?_ ?_ rfl rfl) <;> simp only[hs,aoH,bg,wx,aH,aY,seval]
     ·obtain⟨e1,e2⟩:=Wa hr hi (.inr (by omega)) hd hi3;have e2:qT l=ji l i:=e2;have g3:((i:Int)<3)=False:=eq_false (by omega);rw[e1,e2,est];clear hd hOh hO0 est;generalize ji l i=O at *
      simp only[xB,af,aa,seval,iteOmega,g3];exact eW (by simp only[af,seval,iteOmega] <;> rfl) (by simp only[af,seval])
    ·obtain⟨e1,e2⟩:=Wa hr hi (.inl (by omega)) hd hi3;have e2:qT l=ji l i:=e2;rw[e1,e2,est];clear hd hOh hO0 est;generalize ji l i=O at *
     simp only[xB,af,aa,seval,iteOmega];exact eW (by simp only[af,seval,iteOmega] <;> rfl) (by simp only[af,seval])
  ·rw[decide_eq_false hr] at c1;obtain⟨e1,e2⟩:=ajG hr;rw[e1,e2];unfold cJ at *
   simp only[Hf,ai,af,seval];refine sD (c1) ?_;exact eW (by simp only[af,seval] <;> rfl) (by simp only[af,seval])
def gF (a b:List UInt8):D:=.agg [.sl (a.map bD),.sl (b.map bD)]
theorem af3 (m:Fd) (algo:Int) (up dn nonce:List UInt8):[hC m,nonce,fk m.da [hC m,nonce] (jB algo up dn)].flatten=dB m algo up dn nonce:=by
  unfold dB;simp only[apd,apf,aoF]
theorem P6 (algo:Int) (up dn:List UInt8):[aC algo.toNat 2,[0,0],up,dn].flatten=jB algo up dn:=by
  unfold jB;simp only[apd,apf,aoF]
theorem vx {l:List Fd} {algo:Int} {up dn nonce:List UInt8} {e:Int} (h:lw l algo up dn nonce=e) (he:e≠0):mE l algo up dn nonce=[]:=if_neg (by rw[h]; exact he)
theorem af4 {l:List Fd} {id:Int} {i:Nat} (h:i<l.length) (e:(l.getD i default).ty=id) (hn:∀ j,j<i→(l.getD j default).ty≠id):jY l id=some i:=by
  unfold jY;rw[apU];have eg:∀ k (hk:k<l.length),l[k]=l.getD k default:=fun k hk=>by rw[aor,aon hk]; rfl
  refine⟨h,by rw[eg i h]; exact decide_eq_true e,fun j hj=>?_⟩;rw[eg j (by omega),decide_eq_false (hn j hj)];decide
theorem adF {l:List Fd} {id:Int} (hn:∀ j,j<l.length→(l.getD j default).ty≠id):jY l id=none:=by
  unfold jY;rw[aqg];intro x hx;obtain⟨j,hj,rfl⟩:=ao0 hx;have:=hn j hj;rw[aor,aon hj] at this;exact decide_eq_false this
theorem yk {l:List Fd} {c:List UInt8} {e:Int} (h:gA l c=e) (he:e≠0):ny l c=⟨0,[],[],0⟩:=if_neg (by rw[h]; exact he)
theorem af5 {l:List Fd} {c:List UInt8} {i:Nat} (h:eU l) (hc:c.length=104) (w:jY l (jC c)=some i):gA l c=if tT (l.getD i default) c then 0 else 6:=by
  unfold gA;rw[if_pos h,if_neg (by omega),w]
def Ju (t:Int) (s:Nat) (K:List UInt8) (i:Nat):St:=⟨bz [(1,.w (.c (.d (.int .i64 t)))),(4,.w (.c (.ptr 2 1 0 0))),(5,.w (.c (.ptr 1 1 0 0))),(7,.w (.c (.d (.int .i64 (i:Int)))))],hL [(1,.box [.d (.sl ((bS s K i).map bg))]),(2,.box [.nil])],uL [1,2]⟩
def Gm:bq := .seq (ae [oM 16 7,oM 17 1,oO 18 (.call 8 [(.t 17),(kI 6)] none),aU .lss 19 16 18] (aw 19 .skip (.exit 0))) (.seq (.block 1 (.reg [bn 23 1 5,aW 24 32 23,oM 22 24,aB 25 22 0,aB 26 22 1,aS 1 5 25])) (.reg [oM 20 7,am .add 21 20 1,oM 7 21]))
def Wb:aK:=⟨2,28,ae [oO 4 (.alloc [.nil])] (ae [oM 9 0,oO 10 (.call 8 [(.t 9),(kI 4294967296)] none),oM 11 0,aW 12 31 11,cd 13 30 10 12,oM 8 13,aB 14 8 0,aB 15 8 1,oO 5 (.alloc [.nil]),aS 1 5 14,oM 6 15] (.seq (ae [ak 7 0] (.block 0 (.loop Gm))) (ae [bn 27 1 5,aS 1 4 27] .ret))),[(4,(some (.ag 1)))]⟩
theorem ajK:aI Tryz.prog {} Tryz.f9=some Wb:=by kernel_rfl
set_option maxHeartbeats 1600000 in
theorem Jv (G:au) (s:Nat) (t:Int) (hs:s≤1000000):aF Tryz.prog G 9 [.int .i64 (s:Int),.int .i64 t] (.w (.c (.d (cJ (bS s (bd s 32) (lF t 6).toNat))))):=by
  refine aT Tryz.func9 ajK rfl rfl ?_;have c1:=AB G (s:Int) 4294967296 (by decide);have e1:lF (s:Int) 4294967296=(s:Int):=by unfold lF; rw[if_neg (by decide)]; omega
  rw[e1] at c1;have c2:=V7 G (s:Int);have kl:(bd s 32).length=32:=jE _ _;have c3:=ajF G (s:Int) (bd s 32) (by omega);obtain⟨q1,q2⟩:=abF s (bd s 32) (by omega) kl;rw[q1,q2] at c3;have c4:=AB G t 6 (by decide);obtain⟨r1,r2⟩:=EB t 6 (by decide);have hstep:∀ i,i<6→aF Tryz.prog G _ [cJ (bS s (bd s 32) i)] (.tup [.c (.d (cJ (bS s (bd s 32) (i+1)))),.c (.d (.int .i64 0))]):=fun i hi=>by
    have c:=ajJ G (bS s (bd s 32) i) (by rw[qb]; omega);obtain⟨a,b⟩:=adz (s:=s) (seed:=bd s 32) (t:=i) (by omega);rw[a,b] at c;exact c
  generalize bd s 32=K at *
  generalize lF t 6=n at *
  unfold cJ at *
  simp only[Wb,ai,af,seval];refine sD (c1) ?_;refine sD (c2) ?_;refine sD (c3) ?_;refine bQ (Ju t s K) (fun i=>n.toNat-i) (fun i=>i≤n.toNat) 0 (aoy _) ?_ ?_
  ·refine aV (fun i=>if i=1 then 40 else 32) ?_ ?_ rfl rfl <;> simp only[wx,aH,seval]
  ·intro i hi;by_cases hlt:i<n.toNat
   ·have c:=hstep i (by omega);have g:(i:Int)<n:=by omega
    simp only[Gm,Ju,af,seval];refine sC (c4) ?_;simp only[g,af,seval];refine sD (c) ?_;refine bA (i+1) (by omega) (by omega) (aV (fun i=>i) ?_ ?_ rfl rfl) <;> simp only[wx,aH,aY,seval] <;> try rfl
   ·have g:((i:Int)<n)=False:=eq_false (by omega);have e:n.toNat=i:=by omega
    rw[e];simp only[Gm,Ju,af,seval];refine sC (c4) ?_;simp only[g,af,aa,seval];exact aZ
def KD:ByteArray:=⟨#[115,101,99,116,105,109,101,32,107,101,121,115]⟩
theorem Cn {b:List UInt8}:(∀ r∈bp b,r.bo.length≤65535)∧(bp b).length≤64:=by
  by_cases h:gQ b=0
  ·obtain⟨h1,h2,h3,h4⟩:=XR h;exact⟨fun r hr=>(rN (h4 r hr)).2.2,(vU h1).2.1⟩
  ·rw[show bp b=[] from if_neg h];exact⟨fun r hr=>(by cases hr),aoy _⟩
def ju (r:List Fd) (c:Ch) (v a:Int) (ns:List (List UInt8)) (i:Nat):List Ek:=⟨true,1,bG [v]⟩::⟨true,4,bG [a]⟩::jD r c v a (ns.take i)
theorem Hg {l:List (List UInt8)} {i:Nat} (h:i<l.length):l[i]?=some (l.getD i []):=by
  rw[aor,aon h]; rfl
theorem Lz {l:List (List UInt8)} {i:Nat} (h:i<l.length):l.take (i+1)=l.take i++[l.getD i []]:=by
  rw[apR,Hg h]; rfl
theorem adG {r:List Fd} {c:Ch} {v a:Int} {ns:List (List UInt8)} {i:Nat} (h:i<ns.length):ju r c v a ns (i+1)=ju r c v a ns i++[⟨false,5,mE r a (cE c v a 0) (cE c v a 1) (ns.getD i [])⟩]:=by
  unfold ju jD;rw[Lz h,aoH]; rfl
theorem Hh (r:List Fd) (c:Ch) (v a:Int) (ns:List (List UInt8)) (i:Nat):(ju r c v a ns i).length≤ns.length+2:=by
  unfold ju jD;simp only[apj,aox,aow]; omega
theorem Dc (x:ByteArray):x.toList=x.data.toList:=by
  have:=toList_mk x.data.toList
  rwa [apW] at this
theorem af6 {x:ByteArray} (h:x.size=0):pn .neq x ⟨#[]⟩=some (.bool false):=by
  show some (D.bool (!(x.toList==(⟨#[]⟩:ByteArray).toList)))=_
  rw[Dc,Dc,ao3.1 (show x.data.toList.length=0 from h)];rfl
theorem af7 {x:ByteArray} (h:¬ x.size=0):pn .neq x ⟨#[]⟩=some (.bool true):=by
  show some (D.bool (!(x.toList==(⟨#[]⟩:ByteArray).toList)))=_
  rw[Dc,Dc,beq_eq_false_iff_ne.2 (fun q:x.data.toList=[]=>h (show x.data.toList.length=0 by rw[q]; rfl))];rfl
theorem ym (b:List UInt8):(iK b).length≤b.length:=by
  unfold iK;split
  ·rw[afT]; omega
  ·exact aoy _
theorem Hi (p:gD):(lY p).length≤3:=by
  unfold lY;simp only[aoq];split <;> split <;> simp
theorem Ip {p:gD} (h:p.ho.size≤255):∀ e∈lY p,0≤e.ty∧e.ty≤7∧e.bo.length≤255:=by
  intro e he;unfold lY at he;rcases aoG.1 he with he | he
  ·split at he
   ·cases he
   ·rw[aou.1 he]; exact jq (by decide) h
  ·rcases aoG.1 he with he | he
   ·split at he
    ·cases he
    ·rw[aou.1 he]; exact jq (by decide) (by rw[iQ]; exact (show 2*1≤255 by decide))
   ·rw[aou.1 he]; exact jq (by decide) (by decide)
theorem amD {p:gD} {l:List Ek} (h:p.ho.size≤255) (ok:∀ e∈l,0≤e.ty∧e.ty≤7∧e.bo.length≤255) (hl:l.length≤10):gP (l++lY p)=0∧pL (l++lY p)=cg (l++lY p) :=
  C9 (fun e he=>(aoG.1 he).elim (ok e) (Ip h e)) (by have:=Hi p; rw[aoq]; omega)
theorem tG {c:Ch} {v a:Int} (h:eT c) (hv:0≤v∧v≤65535) (ha:0≤a∧a≤65535):kH c v a=0:=by
  have hs:dq [v,a]:=fun n hn=>by
    rcases aoK.1 hn with rfl | hn
    ·exact hv
    ·rw[aou.1 hn]; exact ha
  unfold kH;rw[if_neg (not_not_intro h),if_neg (not_not_intro hs)]
theorem Jw {r:List Fd} {a:Int} {U W n:List UInt8} (vR:eU r) (ha:0≤a∧a≤65535) (hU:U.length=32) (hW:W.length=32) (h:n.length=16):mE r a U W n=dB (r.getD 0 default) a U W n∧(dB (r.getD 0 default) a U W n).length=104:=by
  have h0:0<r.length:=vR.1;obtain⟨q1,q2,q3⟩:=vR.2.2.1 _ (uO h0);have e:lw r a U W n=0:=by
    unfold lw;rw[if_pos vR,if_neg (by omega),if_neg (by omega),if_neg (by omega)]
  exact⟨if_pos e,(Gj q3 q1 q2 ha.1 ha.2 hU hW h).1⟩
theorem Wc {r:List Fd} {c:Ch} {v a:Int} {ns:List (List UInt8)} (vR:eU r) (hk:kH c v a=0) (ha:0≤a∧a≤65535) (h16:∀ n∈ns,n.length=16):∀ e∈ju r c v a ns ns.length,0≤e.ty∧e.ty≤7∧e.bo.length≤255:=by
  intro e he;unfold ju at he;rcases aoK.1 he with rfl | he
  ·exact jq (by decide) (by rw[iQ]; exact (show 2*1≤255 by decide))
  ·rcases aoK.1 he with rfl | he
   ·exact jq (by decide) (by rw[iQ]; exact (show 2*1≤255 by decide))
   ·rw[ao7] at he;obtain⟨n,hn,rfl⟩:=aoN.1 he;obtain⟨q1,q2⟩:=Jw (U:=cE c v a 0) (W:=cE c v a 1) vR ha (rr hk) (rr hk) (h16 n hn);refine jq (by decide) ?_;rw[q1,q2]; decide
def nB (p:gD):List Ek:=if p.ho.size=0 then [] else [⟨true,6,p.ho.data.toList⟩]
def nC (p:gD):List Ek:=if p.pt=0 then [] else [⟨true,7,bG [p.pt]⟩]
theorem Iq (p:gD):lY p=nB p++(nC p++[dP]):=rfl
theorem ajL {p:gD} (h:p.ho.size≤255):(∀ r∈nB p,r.ty=6)∧(nB p).length≤1∧∀ r∈nB p,r.bo.length≤255:=by
  unfold nB;split
  ·exact⟨fun r hr=>(by cases hr),aoy _,fun r hr=>(by cases hr)⟩
  ·exact⟨fun r hr=>(by rw[aou.1 hr]),aoz _,fun r hr=>by rw[aou.1 hr]; exact h⟩
theorem ajM (p:gD):(∀ r∈nC p,r.ty=7)∧(nC p).length≤1∧∀ r∈nC p,r.bo.length=2:=by
  unfold nC;split
  ·exact⟨fun r hr=>(by cases hr),aoy _,fun r hr=>(by cases hr)⟩
  ·exact⟨fun r hr=>(by rw[aou.1 hr]),aoz _,fun r hr=>by rw[aou.1 hr]; exact iQ [p.pt]⟩
theorem ajN {L:List Ek} {p:gD} (h:a9 L 6=nB p):wY L=p.ho.data.toList:=by
  unfold wY;by_cases h0:p.ho.size=0
  ·have:a9 L 6=[]:=by rw[h]; exact if_pos h0
   rw[dQ,this,if_neg (show ¬ ([]:List Ek).length=1 by decide)];exact (ao3.1 (show p.ho.data.toList.length=0 from h0)).symm
  ·have e:a9 L 6=[⟨true,6,p.ho.data.toList⟩]:=by rw[h]; exact if_neg h0
   have hl:(dk L 6).length=1:=by rw[dQ,e]; rfl
   rw[if_pos hl,rq (by omega),e]; rfl
theorem ajO {L:List Ek} {p:gD} (hp:0≤p.pt∧p.pt≤65535) (h:a9 L 7=nC p):wZ L=p.pt:=by
  unfold wZ;by_cases h0:p.pt=0
  ·have:a9 L 7=[]:=by rw[h]; exact if_pos h0
   rw[dQ,this,if_neg (show ¬ ([]:List Ek).length=1 by decide),h0]
  ·have e:a9 L 7=[⟨true,7,bG [p.pt]⟩]:=by rw[h]; exact if_neg h0
   have hl:(dk L 7).length=1:=by rw[dQ,e]; rfl
   rw[if_pos hl,rq (by omega),e]
   show (bi (bG [p.pt]):Int)=_
   rw[show bG [p.pt]=aC p.pt.toNat 2 from aoF _,get_put 2 (by decide)];omega
theorem Za {p:gD} {r:List Fd} {c:Ch} (h:iM p r c=0):eT c∧eU r∧dq p.pr∧dq p.al∧dq [p.pt]:=by
  unfold iM at h;by_cases h1:eT c∧eU r
  ·rw[if_neg (not_not_intro h1)] at h;by_cases h2:dq p.pr∧dq p.al∧dq [p.pt]
   ·exact⟨h1.1,h1.2,h2⟩
   ·rw[if_pos h2] at h; exact absurd h (by decide)
  ·rw[if_pos h1] at h; exact absurd h (by decide)
theorem agree {p:gD} {r:List Fd} {c c':Ch} {x y:List Int} {ns:List (List UInt8)} (hq:gg x y=0) (hs:iM p r c=0) (hn:sH ns p.ho) (hv:eT c') (hk:c'.se=c.se) :
    (kK p r c (df x y) ns).length≤65535 ∧
    (gC x p.pr=none∨gC y p.al=none→iA c' (df x y) (kK p r c (df x y) ns)=10) ∧
    (∀ v a,gC x p.pr=some v→gC y p.al=some a→iA c' (df x y) (kK p r c (df x y) ns)=0 ∧
      t9 c' (df x y) (kK p r c (df x y) ns)=⟨v,a,cE c v a 0,cE c v a 1,ns.map (fun n=>dB (r.getD 0 default) a (cE c v a 0) (cE c v a 1) n),p.ho.data.toList,p.pt⟩∧(0≤v∧v≤65535)∧(0≤a∧a≤65535)∧kH c v a=0):=by
  obtain⟨vC,vR,s1,s2,s3⟩:=Za hs;obtain⟨sx,sy,_⟩:=zb hq;obtain⟨o1,o2,o3,o4⟩:=aoc hq;obtain⟨Q,fx,fy⟩:=Y9 hq;have e:kK p r c (df x y) ns=cg (iL p r c x y ns++lY p):=by
    unfold kK;rw[if_neg (not_not_intro hs),if_neg (not_not_intro o1),o2,if_neg Bool.false_ne_true,if_neg (not_not_intro hn),o3,o4]
  obtain⟨n1,n2,n3,n4⟩:=hn;obtain⟨h6,l6,b6⟩:=ajL (p:=p) n3;obtain⟨h7,l7,b7⟩:=ajM p;have pp:=s3 p.pt aoW;have e0:∀ l:List Int,l.length≤16→((bG l).length%2=0∧(bG l).length≤255):=fun l hl=>by rw[iQ]; omega
  rw[e];rcases hx:gC x p.pr with _ | v
  ·have eA:iL p r c x y ns=[⟨true,1,[]⟩]:=by unfold iL; rw[hx]
   rw[eA,Iq];have em:[(⟨true,1,[]⟩:Ek)]++(nB p++(nC p++[dP]))=cU ⟨true,1,[]⟩ [] [] (nB p) (nC p)++[dP]:=by simp[cU]
   rw[em];obtain⟨m1,m2,m3,m4,m5,m6,m7,m8,m9,mA,mB⟩:=Js (a:=⟨true,1,[]⟩) (b:=[]) (x:=[]) rfl (fun r hr=>by cases hr) (fun r hr=>by cases hr) h6 h7 (by decide) (by decide) l6 l7 (e0 [] (by decide)) (fun r hr=>by cases hr) (fun r hr=>by cases hr) b6 b7;obtain⟨f1,_⟩:=Jt (c:=c') hv Q m4 m3 m5 m7 m9 (by decide) (fun r hr=>by cases hr);rw[fx] at f1;exact⟨(vU m1).2.2,fun _=>f1 (.inl (P5 m6)),fun v a q=>(by cases q)⟩
  ·obtain⟨v1,v2⟩:=rE hx;have v3:=sx v v1;rcases hy:gC y p.al with _ | a
   ·have eA:iL p r c x y ns=[⟨true,1,bG [v]⟩,⟨true,4,[]⟩]:=by unfold iL; rw[hx]; dsimp only; rw[hy]
    rw[eA,Iq];have em:[(⟨true,1,bG [v]⟩:Ek),⟨true,4,[]⟩]++(nB p++(nC p++[dP]))=cU ⟨true,1,bG [v]⟩ [⟨true,4,[]⟩] [] (nB p) (nC p)++[dP]:=by simp[cU]
    rw[em];obtain⟨m1,m2,m3,m4,m5,m6,m7,m8,m9,mA,mB⟩:=Js (a:=⟨true,1,bG [v]⟩) (b:=[⟨true,4,[]⟩]) (x:=[]) rfl (fun r hr=>by rw[aou.1 hr]) (fun r hr=>by cases hr) h6 h7 (aoz _) (by decide) l6 l7 (e0 [v] (show (1:Nat)≤16 by decide)) (fun r hr=>by rw[aou.1 hr]; exact e0 [] (by decide)) (fun r hr=>by cases hr) b6 b7;obtain⟨f1,_⟩:=Jt (c:=c') hv Q m4 m3 m5 m7 m9 (by decide) (fun r hr=>by cases hr);rw[fy] at f1;exact⟨(vU m1).2.2,fun _=>f1 (.inr (P5 m8)),fun v a _ q=>(by cases q)⟩
   ·obtain⟨a1,a2⟩:=rE hy;have a3:=sy a a1;have kz:=tG vC v3 a3;have eA:iL p r c x y ns=⟨true,1,bG [v]⟩::⟨true,4,bG [a]⟩::jD r c v a ns:=by unfold iL; rw[hx]; dsimp only; rw[hy]
    rw[eA,Iq];have em:(⟨true,1,bG [v]⟩::⟨true,4,bG [a]⟩::jD r c v a ns)++(nB p++(nC p++[dP]))=cU ⟨true,1,bG [v]⟩ [⟨true,4,bG [a]⟩] (jD r c v a ns) (nB p) (nC p)++[dP]:=by simp[cU]
    rw[em];have xl:(jD r c v a ns).length=ns.length:=by unfold jD; rw[aox]
    have xb:∀ e∈jD r c v a ns,e.bo.length=104:=fun e he=>by
      obtain⟨n,hn,rfl⟩:=aoN.1 he;obtain⟨q1,q2⟩:=Jw (U:=cE c v a 0) (W:=cE c v a 1) vR a3 (rr kz) (rr kz) (n4 n hn)
      show (mE r a _ _ n).length=104
      rw[q1,q2]
    obtain⟨m1,m2,m3,m4,m5,m6,m7,m8,m9,mA,mB⟩:=Js (a:=⟨true,1,bG [v]⟩) (b:=[⟨true,4,bG [a]⟩]) (x:=jD r c v a ns) rfl (fun r hr=>by rw[aou.1 hr]) (fun e he=>(afY r c v a ns e he).1) h6 h7 (aoz _) (by omega) l6 l7 (e0 [v] (show (1:Nat)≤16 by decide)) (fun r hr=>by rw[aou.1 hr]; exact e0 [a] (show (1:Nat)≤16 by decide)) (fun e he=>by rw[xb e he]; decide) b6 b7;obtain⟨_,f2⟩:=Jt (c:=c') hv Q m4 m3 m5 m7 m9 (by omega) xb;rw[fx,fy] at f2;obtain⟨g1,g2⟩:=f2 v a (SJ m6 v1 v3) (SJ m8 a1 a3) (by omega);refine⟨(vU m1).2.2,fun q=>(by rcases q with q | q <;> cases q),fun v' a' q1 q2=>?_⟩;obtain rfl:=Option.some.inj q1;obtain rfl:=Option.some.inj q2;refine⟨g1,?_,v3,a3,kz⟩;have kk:∀ z,cE c' v a z=cE c v a z:=fun z=>by
      unfold cE;rw[if_pos kz,if_pos (tG hv v3 a3),hk]
    rw[g2,kk,kk,ajN mA,ajO pp mB]
    congr 1
    unfold jD;rw[apO];refine ao1 fun n hn=>?_
    exact (Jw (U:=cE c v a 0) (W:=cE c v a 1) vR a3 (rr kz) (rr kz) (n4 n hn)).1
def j9 (s:Nat):List UInt8:=cE (bU false (ly (s:Int)) 0 (0+1)) 0 15 0
def gm (s:Nat):List UInt8:=cE (bU false (ly (s:Int)) 0 (0+1)) 0 15 1
theorem Ys (s:Nat):kH (bU false (ly (s:Int)) 0 (0+1)) 0 15=0:=tG (y9 (SL _) (by decide) (by decide)) (by decide) (by decide)
theorem qd (s:Nat):(j9 s).length=32:=rr (Ys s)
theorem s7 (s:Nat):(gm s).length=32:=rr (Ys s)
def zz (s i:Nat):List UInt8:=bd ((s+2000000*(i+1):Nat):Int) 16
theorem agK (s i:Nat):(zz s i).length=16:=jE _ _
def fN (s n:Nat):List (List UInt8):=(List.range n).map (zz s)
theorem sW (s n:Nat):(fN s n).length=n:=by unfold fN; rw[aox,apG]
theorem akr (s n:Nat):fN s (n+1)=fN s n++[zz s n]:=by
  unfold fN;rw[apv,aoH]; rfl
theorem Hu {s n:Nat}:∀ x∈fN s n,x.length=16:=fun x hx=>by
  obtain⟨i,_,rfl⟩:=aoN.1 hx;exact agK s i
def jP:gD:=⟨[0],[15],⟨#[]⟩,0⟩
theorem agM {s:Nat} {K:List UInt8} {t:Nat} (hs:s+t≤4294967295) {c:Ch} (hc:eT c):iM jP (bS s K t) c=0:=by
  have h1:dq jP.pr∧dq jP.al∧dq [jP.pt]:=by decide
  unfold iM;rw[if_neg (not_not_intro ⟨hc,yg hs⟩),if_neg (not_not_intro h1)]
def ja (s k:Nat) (n:List UInt8):List UInt8:=dB (fW s (bd (s:Int) 32) k) 15 (j9 s) (gm s) n
theorem xW {s k:Nat} {n:List UInt8} (h:s+k≤4294967295) (hn:n.length=16):(ja s k n).length=104:=Co h (by decide) (by decide) (qd s) (s7 s) hn
theorem S7 {s k:Nat} {n:List UInt8} (hn:n.length=16):((ja s k n).drop 4).take 16=n:=by
  have h4:(hC (fW s (bd (s:Int) 32) k)).length=4:=bO _ _
  show ((hC _++(n++_)).drop 4).take 16=n
  rw[aqq (by omega),List.drop_of_length_le (by omega),apa,apn (by omega),aot (by omega)]
theorem aks {s k k':Nat} {n n':List UInt8} (hn:n.length=16) (hn':n'.length=16) (h:n≠n'):ja s k n≠ja s k' n':=fun e=>h (by rw[← S7 (s:=s) (k:=k) hn,← S7 (s:=s) (k:=k') hn',e])
def oB (s t n:Nat):wW:=⟨0,15,j9 s,gm s,(fN s n).map (ja s t),[],0⟩
theorem pc {l:List Fd} {f:Fd} {k:Int} (h:f.ty≠k):bM (l++[f]) k=bM l k:=by
  unfold bM;rw[aoq,ao6,De (by rw[aor,aoV (aoz _),aqm]; exact h),Bl l [f] k l.length (aoz _)]
theorem Iv {l:List Fd} {f:Fd} {k:Int} (h:f.ty=k):bM (l++[f]) k=bM l k++[(l.length:Int)]:=by
  unfold bM;rw[aoq,ao6,Dd (by rw[aor,aoV (aoz _),aqm]; exact h),Bl l [f] k l.length (aoz _)]
theorem am2 (u c:List UInt8):cb u c 0=([]++[⟨260,u⟩])++[⟨516,c⟩]:=rfl
theorem Iw {u c:List UInt8}:∀ w,bM (cb u c w) 516=[1]∧bM (cb u c w) 260=[0]∧(bM (cb u c w) 772).length=w
  | 0=>by
    rw[am2];refine⟨?_,?_,?_⟩
    ·rw[Iv rfl,pc (show (260:Int)≠516 by decide)]; rfl
    ·rw[pc (show (516:Int)≠260 by decide),Iv rfl]; rfl
    ·rw[pc (show (516:Int)≠772 by decide),pc (show (260:Int)≠772 by decide)]; rfl
  | w+1=>by
    obtain⟨a,b,c⟩:=Iw (u:=u) (c:=c) w;rw[JB];refine⟨?_,?_,?_⟩
    ·rw[pc (show pP.ty≠516 by decide)]; exact a
    ·rw[pc (show pP.ty≠260 by decide)]; exact b
    ·rw[Iv (show pP.ty=772 from rfl),aoq,c]; rfl
def ic (l:List Fd) (U W:List UInt8) (r:Int) (m:Nat):List (List UInt8):=(List.range m).map fun i:Nat=>mE l 15 U W (bd (r+(i:Int)) 16)
theorem Hv (l:List Fd) (U W:List UInt8) (r:Int) (m:Nat):(ic l U W r m).length=m:=by unfold ic; rw[aox,apG]
theorem am3 (l:List Fd) (U W:List UInt8) (r:Int) (m:Nat):ic l U W r (m+1)=ic l U W r m++[mE l 15 U W (bd (r+(m:Int)) 16)]:=by
  unfold ic;rw[apv,aoH]; rfl
def lA (t:Nat):Hd:=⟨0,4,4,1,6,-20,0,0,0,0,t,7,8⟩
theorem Yt (t:Nat):wG (fp t) 1=0:=by
  have h:mm (fp t)=true:=yQ.1 (Ym t);unfold wG;rw[if_pos h]; rfl
theorem akt (t:Nat):Kn (fp t) 1 7 8=lA t:=if_pos (Yt t)
theorem Yu (t:Nat):jn (lA t)=0:=yQ.2 rfl
theorem JJ {t:Nat} (h:t<18446744073709551616):sF (lA t):=⟨show 0<_ by decide,show 0<_ by decide,show 0<_ by decide,show 0<_ by decide,h,show 7<_ by decide,show 8<_ by decide⟩
def ka (U:List UInt8) (t:Nat) (u c:List UInt8) (w:Nat) (n:List UInt8):List UInt8:=d7 U ⟨fp t,cb u c w,[],false⟩ n
def ke (W:List UInt8) (t:Nat) (u:List UInt8) (cs:List (List UInt8)) (n:List UInt8):List UInt8:=d7 W ⟨lA t,[⟨260,u⟩],dt cs,false⟩ n
theorem Cv {U u c n:List UInt8} {t w:Nat} (ht:t<18446744073709551616) (h1:U.length=32) (hu:u.length=32) (hc:c.length=104) (hn:n.length=16) (hw:w≤8) :
    (ka U t u c w n).length=232+108*w∧gT U (ka U t u c w n)=0∧gU U (ka U t u c w n)=⟨fp t,cb u c w,[],true⟩∧iY (ka U t u c w n)=0∧∃ d,pH (ka U t u c w n)=⟨fp t,cb u c w++[⟨1028,d⟩],[],false⟩:=by
  obtain⟨ok,l⟩:=JD (key:=U) (u:=u) (c:=c) (n:=n) (t:=t) (k:=w) h1 hu hc hn hw;obtain⟨a,b⟩:=amY (key:=U) (u:=u) (c:=c) (n:=n) (t:=t) (k:=w) ht h1 hu hc hn hw;obtain⟨r1,r2,_⟩:=Ho (JC ht) ok;refine⟨l,a,b,r1,ek n (hY U ⟨fp t,cb u c w,[],false⟩ n),?_⟩;refine r2.trans ?_
  show (⟨fp t,(cb u c w).map gO++[_],[],false⟩:dr)=_
  rw[S4 hu hc]; rfl
def JO (l:List Int) (i:Nat):St:=⟨bz [(3,.w (.c (.own 1 1 0 (bG (l.take i)).length))),(6,.w (.c (.d (.sl (l.map zD))))),(7,.w (.c (.d (.int .i64 (l.length:Int))))),(8,.w (.c (.d (.int .i64 (i:Int)))))],hL [(1,.row 1 ((bG (l.take i)).map bD))],uL [1]⟩
def Gq:bq := ae [aU .lss 9 8 7] (.seq (aw 9 .skip (.exit 0)) (.seq (.block 1 (ae [bW 10 1 6 8,aA 11 10,oM 5 11] (.reg [oM 12 3,oM 13 5,oO 14 (.conv .u64 (.t 13)),oO 15 (.call 76 [(.t 14),(kI 2)] none),oO 16 (.app false 1 1 (.t 12) (.t 15)),oM 3 16]))) (.reg [am .add 17 8 1,oM 8 17])))
def WE:aK:=⟨1,19,ae [aM 2] (ae [oO 3 (.nilOwn 1)] (.seq (ae [oM 6 0,bc 7 6,ak 8 0] (.block 0 (.loop Gq))) (ae [oM 18 3,oM 2 18] .ret))),[(2,none)]⟩
theorem akE:aI Tryz.prog { own:=[3] } Tryz.f65=some WE:=by kernel_rfl
theorem ana (G:au) (l:List Int) (hl:l.length≤1000000000) (hs:dq l):aF Tryz.prog G 65 [.sl (l.map zD)] (.w (.c (.fr 1 ((bG l).map bD)))):=by
  refine aT Tryz.func65 akE rfl rfl ?_;simp only[WE,ai,af,seval];refine bQ (JO l) (fun i=>l.length-i) (fun i=>i≤l.length) 0 (aoy _) ?_ ?_
  ·refine aV (fun _=>24) ?_ ?_ rfl rfl <;> simp only[wx,aH,seval] <;> first | rfl | exact⟨rfl,rfl⟩ | skip
  ·intro i hi;by_cases hlt:i<l.length
   ·have g:=wE hlt;obtain⟨n1,n2⟩:=hs _ (Gl hlt);have e:bG (l.take (i+1))=bG (l.take i)++aC (l.getD i 0).toNat 2:=by
      rw[xw hlt,afU,Gk]
      show _++(_++[])=_
      rw[aoF]
    have hb:(bG (l.take i)).length≤2000000000:=by rw[iQ,aow]; omega
    generalize l.getD i 0=v at *
    obtain⟨a,rfl⟩:=ao5 n1;rw[show ((a:Nat):Int).toNat=a from rfl] at e;have c:=iD G a 2 (by decide);rw[show (2:Int).toNat=2 from rfl] at c;have pl:=bO a 2;generalize aC a 2=P at *
    simp only[Gq,JO,af,seval,iteOmega,toNatUp,ba,g,zD];refine sC (c) ?_;simp only[pl,cG,af,seval,iteOmega];refine bA (i+1) (by omega) (by omega) (aV (fun _=>128) ?_ ?_ rfl rfl) <;> simp only[e,pl,wx,aH,aY,seval] <;> first | rfl | exact⟨rfl,rfl⟩ | skip
   ·have:l.take i=l:=aot (by omega);simp only[Gq,JO,af,seval,iteOmega,this];exact iJ
theorem tJ (G:au) (l:List Int) (hl:l.length≤1000000000) (hs:dq l):aF Tryz.prog G 65 [.sl (l.map zD)] (.w (.c (.d (.sl ((bG l).map bD))))):=qg (ana G l hl hs)
def yR (l:List Int) (i:Nat):St:=⟨bz [(5,.w (.c (.d (.sl (l.map zD))))),(6,.w (.c (.d (.int .i64 (l.length:Int))))),(7,.w (.c (.d (.int .i64 (i:Int)))))],hL [],uL []⟩
def xN:bq := ae [aU .lss 8 7 6] (.seq (aw 8 .skip (.exit 0)) (.seq (.block 1 (ae [bW 9 1 5 7,aA 10 9,oM 4 10] (ae [oM 11 4,am .lss 12 11 0,oM 13 12,bE 14 4 13 false,cu .geq 15 14 65536 13 false,cC 16 13 15] (aw 16 (ae [bH 2 false] .ret) .skip)))) (.reg [am .add 17 7 1,oM 7 17])))
def WF:aK:=⟨1,18,ae [bH 2 false] (.seq (ae [oM 5 0,bc 6 5,ak 7 0] (.block 0 (.loop xN))) (ae [bH 2 true] .ret)),[(2,none)]⟩
theorem akF:aI Tryz.prog {} Tryz.f64=some WF:=by kernel_rfl
theorem v9 (G:au) (l:List Int) (hl:l.length≤9000000000000000000):aF Tryz.prog G 64 [.sl (l.map zD)] (.w (.c (.d (.bool (decide (dq l)))))):=by
  refine aT Tryz.func64 akF rfl rfl ?_;simp only[WF,ai,af,seval];refine bQ (yR l) (fun i=>l.length-i) (fun i=>i≤l.length∧dq (l.take i)) 0 ⟨aoy _,by rw[apJ]; exact fun n hn=>by cases hn⟩ ?_ ?_
  ·refine aV (fun _=>0) ?_ ?_ rfl rfl <;> simp only[wx,aH,seval] <;> first | rfl | exact⟨rfl,rfl⟩ | skip
  ·rintro i ⟨hi,hp⟩;by_cases hlt:i<l.length
   ·have g:=wE hlt;have hm:=Gl hlt;have hs:=xw hlt;generalize l.getD i 0=v at *
    by_cases h1:v<0
    ·rw[decide_eq_false (fun q:dq l=>by have:=q v hm; omega)];have g1:=eq_true h1;simp only[xN,yR,af,seval,iteOmega,toNatUp,ba,g,zD,g1];exact aZ
    ·have g1:=eq_false h1;by_cases h2:v≥65536
     ·rw[decide_eq_false (fun q:dq l=>by have:=q v hm; omega)];have g2:=eq_true h2;simp only[xN,yR,af,seval,iteOmega,toNatUp,ba,g,zD,g1,g2];exact aZ
     ·have g2:=eq_false h2;have hn:dq (l.take (i+1)):=by
        rw[hs];intro n hn;rcases aoG.1 hn with hn | hn
        ·exact hp n hn
        ·rw[aou.1 hn]; omega
      simp only[xN,yR,af,seval,iteOmega,toNatUp,ba,g,zD,g1,g2];refine bA (i+1) (by omega) ⟨by omega,hn⟩ (aV (fun i=>i) ?_ ?_ rfl rfl) <;> simp only[wx,aH,aY,seval] <;> first | rfl | exact⟨rfl,rfl⟩ | skip
   ·rw[aot (by omega)] at hp;rw[decide_eq_true hp];simp only[xN,yR,af,seval,iteOmega];exact aZ
def JP (b:List UInt8) (k:Nat):St:=⟨bz [(0,.w (.c (.d (.sl (b.map bD))))),(4,.w (.c (.own 1 1 0 (oz b k).length))),(5,.w (.c (.d (.int .i64 ((2*k:Nat):Int)))))],hL [(1,.row 1 ((oz b k).map zD))],uL [1]⟩
theorem anb (n:Nat):Int.tdiv (n:Int) 2=((n / 2:Nat):Int):=rfl
def Gr:bq := .seq (ae [oM 14 5,oM 15 0,bc 16 15,aU .lss 17 14 16] (aw 17 .skip (.exit 0))) (.seq (.block 1 (.reg [oM 20 4,oM 21 0,oM 22 5,oM 23 5,am .add 24 23 2,oO 25 (.slice 1 (.t 21) (some (.t 22)) (some (.t 24)) none),aW 26 81 25,oO 27 (.conv .i64 (.t 26)),oO 28 (.bldSl false 1 1 ej [(0,(.t 27))]),oO 29 (.app false 1 8 (.t 20) (.t 28)),oM 4 29])) (.reg [oM 18 5,am .add 19 18 2,oM 5 19]))
def Iz:aK:=⟨1,31,ae [aM 2,bH 3 false] (.seq (ae [oM 6 0,bc 7 6,am .rem 8 7 2,am .neq 9 8 0] (aw 9 (ae [aM 2,bH 3 false] .ret) .skip)) (ae [oM 10 0,bc 11 10,am .quo 12 11 2,oO 13 (.make true 1 8 ej (kI 0) (.t 12)),oM 4 13] (.seq (ae [ak 5 0] (.block 0 (.loop Gr))) (ae [oM 30 4,oM 2 30,bH 3 true] .ret)))),[(2,none),(3,none)]⟩
theorem akG:aI Tryz.prog {} Tryz.f161=some Iz:=by kernel_rfl
theorem Yy (G:au) (b:List UInt8) (hb:b.length≤1000000000):aF Tryz.prog G 161 [.sl (b.map bD)] (.tup [.c (.d (.sl ((iK b).map zD))),.c (.d (.bool (decide (b.length%2=0))))]):=by
  refine aT Tryz.func161 akG rfl rfl ?_;have t2:=amw b.length;have t5:=anb b.length;have t6:b.length / 2≤500000000:=by omega
  by_cases he:b.length%2=0
  ·have g0:(((b.length%2:Nat):Int)=0)=True:=eq_true (by omega);rw[decide_eq_true he,show iK b=qU b from if_pos he];have r0:List.replicate (Int.toNat 0) (D.int .i64 0)=([]:List D):=rfl;simp only[Iz,ai,af,seval,iteOmega,toNatUp,t2,g0,t5];refine bQ (JP b) (fun k=>b.length / 2-k) (fun k=>2*k≤b.length) 0 (aoy _) ?_ ?_
   ·refine aV (fun _=>104) ?_ ?_ rfl rfl <;> simp only[wx,aH,seval] <;> first | rfl | exact⟨rfl,rfl⟩ | skip
   ·intro k hk;have az:=Pi (oz b k);have nl:=SH b k;by_cases hlt:2*k<b.length
    ·have l1:(aG b (2*k) 2).length=2:=fj (by omega);have c:=ku G (aG b (2*k) 2) (by omega);have b2:=(jc 2 (aG b (2*k) 2) l1 (by decide)).1;have hs:=adB b k;have hA:t7 b k=(bi (aG b (2*k) 2):Int):=rfl;have t1:(b.drop (2*k)).take 2=aG b (2*k) 2:=rfl;have t3:(b.drop (2*k)).take (2*k+2-2*k)=aG b (2*k) 2:=by rw[aqa]; rfl
     have e5:2*((k:Int)+1)=2*(k:Int)+2:=by omega
     have g1:(((2*k:Nat):Int)<(b.length:Int))=True:=eq_true (by omega);generalize bi (aG b (2*k) 2)=N at *
     rw[hA] at hs;simp only[Gr,JP,af,seval,iteOmega,toNatUp,t3];refine sC (c) ?_;simp only[cG,af,seval,iteOmega];refine bA (k+1) (by omega) (by omega) (aV (fun _=>232) ?_ ?_ rfl rfl) <;> simp only[hs,aoH,zD,e5,wx,aH,aY,seval] <;> first | rfl | exact⟨rfl,rfl⟩ | skip
    ·have hk2:k=b.length / 2:=by omega
     have g1:(((2*k:Nat):Int)<(b.length:Int))=False:=eq_false (by omega);subst hk2;unfold qU;simp only[Gr,JP,af,seval,iteOmega];exact bu
  ·have g0:(((b.length%2:Nat):Int)=0)=False:=eq_false (by omega);rw[decide_eq_false he,show iK b=[] from if_neg he];simp only[Iz,ai,af,seval,t2,g0];exact bu
def WG:aK:=⟨2,8,ae [oO 4 (.alloc [cv,ah,.nil])] (ae [oM 5 0,oM 6 1,oO 7 (.build [cv,ah,.nil] [(0,1,(.k (.c (.d (.bool true))))),(1,1,(.t 5)),(2,1,(.t 6))]),aS 3 4 7] .ret),[(4,(some (.ag 3)))]⟩
theorem akH:aI Tryz.prog {} Tryz.f75=some WG:=by kernel_rfl
theorem na (G:au) (k:Int) (b:List UInt8):aF Tryz.prog G 75 [.int .i64 k,.sl (b.map bD)] (.w (.c (.d (.agg [.bool true,.int .i64 k,.sl (b.map bD)])))):=by
  refine aT Tryz.func75 akH rfl rfl ?_;simp only[WG,ai,af,aa,seval];exact aZ
def IA:aK:=⟨1,22,ae [cW 1 0,aM 2] (ae [aO 4 1 1,aA 5 4,oM 3 5] (.seq (ae [aO 6 0 1,aA 7 6] (aw 7 (.reg [oM 8 3,am .add 9 8 32768,oM 3 9]) .skip)) (ae [oM 10 3,oO 11 (.conv .u64 (.t 10)),oO 12 (.call 76 [(.t 11),(kI 2)] none),aO 13 2 1,aA 14 13,bc 15 14,oO 16 (.conv .u64 (.t 15)),oO 17 (.call 76 [(.t 16),(kI 2)] none),aO 18 2 1,aA 19 18,oO 20 (.bldSl false 3 1 (.sl []) [(0,(.t 12)),(1,(.t 17)),(2,(.t 19))]),aW 21 44 20,oM 2 21] .ret))),[(2,none)]⟩
theorem akI:aI Tryz.prog {} Tryz.f127=some IA:=by kernel_rfl
theorem anc (G:au) (r:Ek) (h:eJ r=0):aF Tryz.prog G 127 [bw r] (.w (.c (.d (.sl ((iu r).map bD))))):=by
  refine aT Tryz.func127 akI rfl rfl ?_;obtain⟨h1,h2,h3⟩:=rN h;have hT:mw r=r.ty.toNat+if r.cr=true then 32768 else 0:=rfl
  have hB:iu r=aC (mw r) 2++(aC r.bo.length 2++r.bo):=rfl;generalize iu r=B at *
  generalize mw r=T at *
  obtain⟨cr,ty,bo⟩:=r;dsimp only at *
  obtain⟨a,rfl⟩:=ao5 h1;rw[show ((a:Nat):Int).toNat=a from rfl] at hT;have c2:=iD G bo.length 2 (by decide);have c1:=iD G T 2 (by decide);rw[show (2:Int).toNat=2 from rfl] at c1 c2;have c3:=dV G [aC T 2,aC bo.length 2,bo] (by simp) (by simp[bO]; omega);rw[show [aC T 2,aC bo.length 2,bo].flatten=B from by rw[hB]; simp] at c3;simp only[aos,aoA] at c3;have hBl:B.length≤70000:=by rw[hB]; simp[bO]; omega
  clear hB;generalize aC T 2=P1 at *
  generalize aC bo.length 2=P2 at *
  unfold bw;cases cr
  ·rw[if_neg Bool.false_ne_true,apL] at hT;subst hT;simp only[IA,ai,af,seval,iteOmega];refine sD (c1) ?_;refine sD (c2) ?_;refine sD (c3) ?_;exact aZ
  ·rw[if_pos rfl] at hT;subst hT;simp only[aql,ap6] at c1;simp only[IA,ai,af,seval,iteOmega];refine sD (c1) ?_;refine sD (c2) ?_;refine sD (c3) ?_;exact aZ
def su (l:List Ek) (i:Nat):St:=⟨bz [(0,.w (.c (.d (.sl (l.map bw))))),(4,.w (.c (.d (.int .i64 ((cg (l.take i)).length:Int))))),(10,.w (.c (.d (.sl (l.map bw))))),(11,.w (.c (.d (.int .i64 (l.length:Int))))),(12,.w (.c (.d (.int .i64 (i:Int)))))],hL [],uL []⟩
def Kp (l:List Ek) (i:Nat):St:=⟨bz [(7,.w (.c (.own 1 1 0 (cg (l.take i)).length))),(42,.w (.c (.d (.sl (l.map bw))))),(43,.w (.c (.d (.int .i64 (l.length:Int))))),(44,.w (.c (.d (.int .i64 (i:Int)))))],hL [(1,.row 1 ((cg (l.take i)).map bD))],uL [1]⟩
theorem Qc {l:List Ek} {i:Nat} (h:i<l.length):cg (l.take (i+1))=cg (l.take i)++iu (l.getD i default):=by
  rw[zO h,RR,uI,RQ,aoF]
theorem akJ (l:List Ek) (h:∀ r∈l,r.bo.length≤65535):(cg l).length≤65539*l.length:=by
  induction l with
  | nil=>exact aoz _
  | cons r l ih =>
    have:=ih fun x hx=>h x (aoQ _ hx)
    have:=h r aoW;rw[uI,aoq,uZ,apj];omega
theorem agO (l:List Ek) (i:Nat):(cg (l.take i)).length≤(cg l).length:=by
  have:=congrArg List.length (show cg (l.take i++l.drop i)=_ from RR _ _);rw[aoX,aoq] at this;omega
def rh:bq := ae [aU .lss 13 12 11] (.seq (aw 13 .skip (.exit 0)) (.seq (.block 1 (ae [bW 14 3 10 12,bn 15 3 14,oO 6 (.alloc [cv,ah,.nil]),aS 3 6 15] (.seq (ae [aO 16 1 6,aA 17 16,am .lss 18 17 0,oM 19 18,dN 20 1 6 19 false,dz 21 20 19 false,cu .geq 22 21 32768 19 false,cC 23 19 22] (aw 23 (ae [aM 2,ak 3 4] .ret) .skip)) (.seq (ae [aO 24 2 6,aA 25 24,bc 26 25,am .gtr 27 26 65535] (aw 27 (ae [aM 2,ak 3 2] .ret) .skip)) (.reg [oM 28 4,aO 29 2 6,aA 30 29,bc 31 30,oO 32 (.bin .add (kI 4) (.t 31)),aU .add 33 28 32,oM 4 33]))))) (.reg [am .add 34 12 1,oM 12 34])))
def Gs:bq := ae [aU .lss 45 44 43] (.seq (aw 45 .skip (.exit 2)) (.seq (.block 3 (ae [bW 46 3 42 44,bn 47 3 46,oO 9 (.alloc [cv,ah,.nil]),aS 3 9 47] (.reg [oM 48 7,bn 49 3 9,aW 50 127 49,oO 51 (.app false 1 1 (.t 48) (.t 50)),oM 7 51]))) (.reg [am .add 52 44 1,oM 44 52])))
def WH:aK:=⟨1,54,ae [aM 2,ak 3 0] (ae [ak 4 0] (.seq (ae [oM 10 0,bc 11 10,ak 12 0] (.block 0 (.loop rh))) (.seq (ae [oM 35 0,bc 36 35,am .gtr 37 36 64] (aw 37 (ae [aM 2,ak 3 8] .ret) .skip)) (.seq (ae [oM 38 4,am .gtr 39 38 65535] (aw 39 (ae [aM 2,ak 3 2] .ret) .skip)) (ae [oM 40 4,oO 41 (.make true 1 1 aj (kI 0) (.t 40)),oM 7 41] (.seq (ae [oM 42 0,bc 43 42,ak 44 0] (.block 2 (.loop Gs))) (ae [oM 53 7,oM 2 53,ak 3 0] .ret))))))),[(2,none),(3,none)]⟩
theorem akK:aI Tryz.prog {} Tryz.f74=some WH:=by kernel_rfl
theorem Yz (G:au) (l:List Ek) (hl:l.length≤1000000) (hb:∀ r∈l,r.bo.length≤1000000000000):aF Tryz.prog G 74 [.sl (l.map bw)] (.tup [.c (.fr 1 ((pL l).map bD)),.c (.d (.int .i64 (gP l)))]):=by
  refine aT Tryz.func74 akK rfl rfl ?_;simp only[WH,ai,af,seval];refine bQ (su l) (fun i=>l.length-i) (fun i=>i≤l.length∧iv (l.take i)=0) 0 ⟨aoy _,by rw[apJ]; rfl⟩ ?_ ?_
  ·refine aV (fun _=>0) ?_ ?_ rfl rfl <;> simp only[wx,aH,seval] <;> first | rfl | exact⟨rfl,rfl⟩ | skip
  ·rintro i ⟨hi,hW⟩;have hA:=akJ (l.take i) fun r hr=>(rN (CU.1 hW r hr)).2.2
   rw[aow,apM hi] at hA;by_cases hlt:i<l.length
   ·have g:=qC hlt;have hm:=hb _ (oI hlt);have hst:=acy hlt hW;have hnx:=Pl hlt hW;have hno:∀ e,eJ (l.getD i default)=e→e≠0→gP l=e∧pL l=[]:=fun e h1 h2=>by
      have h3:=hst (by rw[h1]; exact h2);have h4:gP l=e:=by unfold gP; rw[if_neg (by rw[h3,h1]; exact h2),h3,h1]
      exact⟨h4,if_neg (by rw[h4]; exact h2)⟩
    have hF:eJ (l.getD i default)=if (l.getD i default).ty<0∨32767<(l.getD i default).ty then 4 else if 65535<(l.getD i default).bo.length then 2 else 0:=rfl
    have eA:((cg (l.take (i+1))).length:Int)=((cg (l.take i)).length:Int)+(4+((l.getD i default).bo.length:Int)):=by
      rw[Qc hlt,aoq,uZ]; omega
    generalize hx:l.getD i default=x at *
    generalize eJ x=f at *
    generalize hAq:(cg (l.take i)).length=A at *
    obtain⟨cr,ty,bo⟩:=x;dsimp only at *
    by_cases h1:ty<0
    ·have g1:=eq_true h1;obtain⟨q1,q2⟩:=hno 4 (by rw[hF,if_pos (.inl h1)]) (by decide);rw[q1,q2];clear hst hnx hno eA;simp only[rh,su,hAq,af,aa,seval,iteOmega,toNatUp,ba,g,bw,g1];exact dZ
    ·have g1:=eq_false h1;by_cases h2:ty≥32768
     ·have g2:=eq_true h2;obtain⟨q1,q2⟩:=hno 4 (by rw[hF,if_pos (.inr (by omega))]) (by decide);rw[q1,q2];clear hst hnx hno eA;simp only[rh,su,hAq,af,aa,seval,iteOmega,toNatUp,ba,g,bw,g1,g2];exact dZ
     ·have g2:=eq_false h2;rw[if_neg (by omega)] at hF;by_cases h3:65535<bo.length
      ·have g3:((bo.length:Int)>65535)=True:=eq_true (by omega);obtain⟨q1,q2⟩:=hno 2 (by rw[hF,if_pos h3]) (by decide);rw[q1,q2];clear hst hnx hno eA;simp only[rh,su,hAq,af,aa,seval,iteOmega,toNatUp,ba,g,bw,g1,g2,g3];exact dZ
      ·have g3:((bo.length:Int)>65535)=False:=eq_false (by omega);rw[if_neg h3] at hF;subst hF;clear hst hno;simp only[rh,su,hAq,af,aa,seval,iteOmega,toNatUp,ba,g,bw,g1,g2,g3];refine bA (i+1) (by omega) ⟨by omega,by rw[hnx]⟩ (aV (fun i=>i) ?_ ?_ rfl rfl) <;> simp only[eA,wx,aH,aY,seval] <;> first | rfl | exact⟨rfl,rfl⟩ | skip
   ·obtain rfl:i=l.length:=by omega
    rw[ao7] at hW hA;by_cases h4:64<l.length
    ·have e:gP l=8:=by unfold gP; rw[if_pos hW,if_pos h4]
     rw[show pL l=[] from if_neg (by rw[e]; decide),e];have g4:((l.length:Int)>64)=True:=eq_true (by omega);simp only[rh,su,af,seval,iteOmega,g4];exact dZ
    ·have g4:((l.length:Int)>64)=False:=eq_false (by omega);by_cases h5:(cg l).length≤65535
     ·have e:gP l=0:=by unfold gP; rw[if_pos hW,if_neg h4,if_neg (by omega)]
      rw[show pL l=cg l from if_pos e,e];have g5:(((cg l).length:Int)>65535)=False:=eq_false (by omega);have r0:List.replicate (Int.toNat 0) (D.int .u8 0)=([]:List D):=rfl;simp only[rh,su,af,seval,iteOmega,toNatUp,g4,g5];refine bQ (Kp l) (fun i=>l.length-i) (fun i=>i≤l.length) 0 (aoy _) ?_ ?_
      ·refine aV (fun _=>328) ?_ ?_ rfl rfl <;> simp only[wx,aH,seval] <;> first | rfl | exact⟨rfl,rfl⟩ | skip
      ·intro i hi;by_cases hlt:i<l.length
       ·have g:=qC hlt;have c:=anc G (l.getD i default) (CU.1 hW _ (oI hlt));have ha:=Qc hlt;have h1:=agO l (i+1);rw[ha,aoq] at h1;unfold bw at c;generalize l.getD i default=x at *
        generalize iu x=B at *
        generalize hAq:cg (l.take i)=A at *
        simp only[Gs,Kp,hAq,af,aa,seval,iteOmega,toNatUp,ba,g,bw];refine sC (c) ?_;simp only[cG,af,seval,iteOmega];refine bA (i+1) (by omega) (by omega) (aV (fun _=>408) ?_ ?_ rfl rfl) <;> simp only[ha,wx,aH,aY,seval] <;> first | rfl | exact⟨rfl,rfl⟩ | skip
       ·have hil:l.take i=l:=aot (by omega);simp only[Gs,Kp,af,seval,iteOmega,hil];exact dZ
     ·have e:gP l=2:=by unfold gP; rw[if_pos hW,if_neg h4,if_pos (by omega)]
      rw[show pL l=[] from if_neg (by rw[e]; decide),e];have g5:(((cg l).length:Int)>65535)=True:=eq_true (by omega);simp only[rh,su,af,seval,iteOmega,g4,g5];exact dZ
theorem YA (G:au) (l:List Ek) (hl:l.length≤1000000) (hb:∀ r∈l,r.bo.length≤1000000000000):aF Tryz.prog G 74 [.sl (l.map bw)] (.tup [.c (.d (.sl ((pL l).map bD))),.c (.d (.int .i64 (gP l)))]):=uV (Yz G l hl hb)
def Cw:aK:=⟨1,18,ae [ak 2 0,bH 3 false] (.seq (ae [oM 5 0,bc 6 5,am .lss 7 6 4] (aw 7 (ae [ak 2 0,bH 3 false] .ret) .skip)) (ae [oM 8 0,oO 9 (.slice 1 (.t 8) (some (kI 2)) (some (kI 4)) none),aW 10 81 9,oO 11 (.conv .i64 (.t 10)),oO 12 (.bin .add (kI 4) (.t 11)),oM 4 12] (ae [oM 13 4,oM 14 4,oM 15 0,bc 16 15,aU .leq 17 14 16,oM 2 13,oM 3 17] .ret))),[(2,none),(3,none)]⟩
theorem akL:aI Tryz.prog {} Tryz.f159=some Cw:=by kernel_rfl
theorem ane (G:au) (b:List UInt8) (hb:b.length≤1000000000000):aF Tryz.prog G 159 [.sl (b.map bD)] (.tup [.c (.d (.int .i64 (if b.length<4 then 0 else ((4+eD b:Nat):Int)))),.c (.d (.bool (decide (4≤b.length∧4+eD b≤b.length))))]):=by
  refine aT Tryz.func159 akL rfl rfl ?_;by_cases h:b.length<4
  ·rw[if_pos h,decide_eq_false (by omega)];have g:((b.length:Int)<4)=True:=eq_true (by omega);simp only[Cw,ai,af,seval,g];exact bu
  ·rw[if_neg h];have g:((b.length:Int)<4)=False:=eq_false (by omega);have l3:(aG b 2 2).length=2:=fj (by omega);have b3:=(jc 2 (aG b 2 2) l3 (by decide)).1;have c:=ku G (aG b 2 2) (by omega);have hN:eD b=bi (aG b 2 2):=rfl;have t1:(b.drop 2).take 2=aG b 2 2:=rfl;have t2:(b.drop 2).take (4-2)=aG b 2 2:=rfl;generalize bi (aG b 2 2)=N at *
   rw[hN];by_cases h2:4+N≤b.length
   ·rw[decide_eq_true (by omega)];have g2:((4:Int)+(N:Int)≤(b.length:Int))=True:=eq_true (by omega);simp only[Cw,ai,af,seval,iteOmega,toNatUp,g,t1];refine sC (c) ?_;simp only[g2,af,seval,iteOmega];exact bu
   ·rw[decide_eq_false (by omega)];have g2:((4:Int)+(N:Int)≤(b.length:Int))=False:=eq_false (by omega);simp only[Cw,ai,af,seval,iteOmega,toNatUp,g,t1];refine sC (c) ?_;simp only[g2,af,seval,iteOmega];exact bu
def Ev (b:List UInt8):Ek:=⟨decide (32768≤(bi (b.take 2):Int)),(bi (b.take 2):Int)%32768,b.drop 4⟩
theorem anf (n:Nat):Int.tmod (n:Int) 32768=(n:Int)%32768:=rfl
def IB:aK:=⟨1,17,ae [oO 2 (.alloc [cv,ah,.nil])] (ae [oM 4 0,oO 5 (.slice 1 (.t 4) none (some (kI 2)) none),aW 6 81 5,oO 7 (.conv .i64 (.t 6)),oM 3 7] (ae [oM 8 3,am .geq 9 8 32768,oM 10 3,am .rem 11 10 32768,oM 12 0,oO 13 (.slice 1 (.t 12) (some (kI 4)) none none),oO 14 (.bldSl false 1 1 (.sl []) [(0,(.t 13))]),aW 15 44 14,oO 16 (.build [cv,ah,.nil] [(0,1,(.t 9)),(1,1,(.t 11)),(2,1,(.t 15))]),aS 3 2 16] .ret)),[(2,(some (.ag 3)))]⟩
theorem akM:aI Tryz.prog {} Tryz.f160=some IB:=by kernel_rfl
theorem ang (G:au) (b:List UInt8) (hb:b.length≤1000000000000) (h4:4≤b.length):aF Tryz.prog G 160 [.sl (b.map bD)] (.w (.c (.d (bw (Ev b))))):=by
  refine aT Tryz.func160 akM rfl rfl ?_;have l3:(b.take 2).length=2:=by rw[aow]; omega
  have b3:=(jc 2 (b.take 2) l3 (by decide)).1;have c:=ku G (b.take 2) (by omega);have cj:=dV G [b.drop 4] (by simp) (by simp; omega);rw[show [b.drop 4].flatten=b.drop 4 from by simp] at cj;simp only[aos,aoA] at cj;have dl:(b.drop 4).length=b.length-4:=aoB;have t1:(b.drop 4).take (b.length-4)=b.drop 4:=aot (by omega);unfold Ev bw;generalize bi (b.take 2)=K at *
  have hm:=anf K;generalize hB:b.drop 4=B at *
  generalize hA:b.take 2=A at *
  by_cases hk:(K:Int)≥32768
  ·have gk:=eq_true hk;rw[decide_eq_true (show (32768:Int)≤K from hk)];simp only[IB,ai,af,seval,iteOmega,toNatUp,hA];refine sC (c) ?_;simp only[hm,hB,t1,gk,af,seval,iteOmega,toNatUp];refine sC (cj) ?_;simp only[af,aa,seval];exact aZ
  ·have gk:=eq_false hk;rw[decide_eq_false (show ¬ (32768:Int)≤K from hk)];simp only[IB,ai,af,seval,iteOmega,toNatUp,hA];refine sC (c) ?_;simp only[hm,hB,t1,gk,af,seval,iteOmega,toNatUp];refine sC (cj) ?_;simp only[af,aa,seval];exact aZ
structure Dw where
  r:List UInt8
  o:List Fd
def wa (t:Dw):St:=⟨bz [(0,.w (.c (.d (.sl (t.r.map bD))))),(4,.w (.c (.own 1 3 0 t.o.length)))],hL [(1,.row 3 ((t.o.map im).map bw))],uL [1]⟩
theorem akN {r:List UInt8} (h1:¬ r.length<4) (h2:¬ r.length-4<eD r):Ev (r.take (4+eD r))=im (jU r):=by
  have e1:(r.take (4+eD r)).take 2=r.take 2:=by rw[aqe,apM (by omega)]
  have e2:(r.take (4+eD r)).drop 4=aG r 4 (eD r):=by rw[List.drop_take,aqa]; rfl
  unfold Ev im jU;rw[e1,e2]
theorem agP {b r:List UInt8} {o:List Fd} (hd:gy b=(gy r).map (o++·)) (h1:¬ r.length<4) (h2:¬ r.length-4<eD r):gy b=(gy (r.drop (4+eD r))).map ((o++[jU r])++·):=by
  rw[hd,HY h1 h2,Option.map_map]
  congr 1
  funext x
  simp
def uQ:bq := .seq (ae [oM 10 0,bc 11 10,am .gtr 12 11 0] (aw 12 .skip (.exit 0))) (.block 1 (ae [oM 14 0,aW 15 159 14,oM 13 15,aB 16 13 0,aB 17 13 1,oM 5 16,oM 6 17] (.seq (ae [oM 18 6,dd 19 18] (aw 19 (ae [aM 2,ak 3 1] .ret) .skip)) (ae [oM 20 4,oM 21 0,oM 22 5,oO 23 (.slice 1 (.t 21) none (some (.t 22)) none),aW 24 160 23,oO 25 (.bldSl false 1 3 (.agg [(.bool false),ej,(.sl [])]) [(0,(.t 24))]),oO 26 (.app false 3 40 (.t 20) (.t 25)),oM 4 26] (.reg [oM 27 0,oM 28 5,oO 29 (.slice 1 (.t 27) (some (.t 28)) none none),oM 0 29])))))
def IC:aK:=⟨1,34,ae [aM 2,ak 3 0] (.seq (ae [oM 7 0,bc 8 7,am .gtr 9 8 65535] (aw 9 (ae [aM 2,ak 3 2] .ret) .skip)) (ae [oO 4 (.nilOwn 3)] (.seq (.block 0 (.loop uQ)) (.seq (ae [oM 30 4,bc 31 30,am .gtr 32 31 64] (aw 32 (ae [aM 2,ak 3 8] .ret) .skip)) (ae [oM 33 4,oM 2 33,ak 3 0] .ret))))),[(2,none),(3,none)]⟩
theorem akO:aI Tryz.prog { own:=[4] } Tryz.f129=some IC:=by kernel_rfl
theorem anh (G:au) (b:List UInt8) (hb:b.length≤1000000000):aF Tryz.prog G 129 [.sl (b.map bD)] (.tup [.c (.d (.sl ((bp b).map bw))),.c (.d (.int .i64 (gQ b)))]):=by
  refine aT Tryz.func129 akO rfl rfl ?_;by_cases h0:65535<b.length
  ·have g0:((b.length:Int)>65535)=True:=eq_true (by omega);have e1:my b=2:=if_pos h0;have e2:gQ b=2:=by unfold gQ; rw[e1]; rfl
   rw[e2,show bp b=[] from if_neg (by rw[e2]; decide)];simp only[IC,ai,af,seval,g0];exact bu
  ·have g0:((b.length:Int)>65535)=False:=eq_false (by omega);simp only[IC,ai,af,seval,g0];refine bQ wa (fun t=>t.r.length) (fun t=>t.r.length+t.o.length≤b.length∧gy b=(gy t.r).map (t.o++·)) ⟨b,[]⟩ ⟨aoz _,by cases gy b <;> rfl⟩ ?_ ?_
   ·refine aV (fun _=>32) ?_ ?_ rfl rfl <;> simp only[wx,aH,seval] <;> first | rfl | exact⟨rfl,rfl⟩ | skip
   ·rintro⟨r,o⟩ ⟨hol,hd⟩;dsimp only at hol hd;have az:=uH (o.map im);have ol:(o.map im).length=o.length:=aox ..;by_cases hlt:0<r.length
    ·have g1:((r.length:Int)>0)=True:=eq_true (by omega);have c:=ane G r (by omega);by_cases h1:r.length<4
     ·rw[if_pos h1,decide_eq_false (by omega)] at c;rw[RU (by omega) h1] at hd;have e1:my b=1:=by unfold my; rw[if_neg h0,hd]; rfl
      have e2:gQ b=1:=by unfold gQ; rw[e1]; rfl
      rw[e2,show bp b=[] from if_neg (by rw[e2]; decide)];simp only[uQ,wa,af,seval,g1];refine sD (c) ?_;exact bu
     ·rw[if_neg h1] at c;by_cases h2:r.length-4<eD r
      ·rw[decide_eq_false (by omega)] at c;rw[MK h1 h2] at hd;have e1:my b=1:=by unfold my; rw[if_neg h0,hd]; rfl
       have e2:gQ b=1:=by unfold gQ; rw[e1]; rfl
       rw[e2,show bp b=[] from if_neg (by rw[e2]; decide)];simp only[uQ,wa,af,seval,g1];refine sD (c) ?_;exact bu
      ·rw[decide_eq_true (by omega)] at c;have hd2:=agP hd h1 h2;have hr:=akN h1 h2;have tl:(r.take (4+eD r)).length=4+eD r:=by rw[aow]; omega
       have dl:(r.drop (4+eD r)).length=r.length-(4+eD r):=aoB;have c2:=ang G (r.take (4+eD r)) (by omega) (by omega);rw[hr] at c2;have eo:((o++[jU r]).map im).map bw=(o.map im).map bw++[bw (im (jU r))]:=by simp
       have lo:(o++[jU r]).length=o.length+1:=by simp
       have cz:(bw (im (jU r))).cells.length=3:=rfl;have t3:(r.drop (4+eD r)).take (r.length-(4+eD r))=r.drop (4+eD r):=aot (by omega);generalize hR:o++[jU r]=O at *
       generalize bw (im (jU r))=E at *
       generalize hK:4+eD r=K at *
       simp only[uQ,wa,af,seval,g1];refine sC (c) ?_;simp only[af,seval,iteOmega,toNatUp];refine sC (c2) ?_;simp only[cG,cz,t3,af,seval,iteOmega,toNatUp];refine bA (⟨r.drop K,O⟩:Dw) (by dsimp only; omega) ⟨by dsimp only; omega,by dsimp only; exact hd2⟩ (aV (fun _=>208) ?_ ?_ rfl rfl) <;> simp only[eo,lo,wx,aH,seval] <;> first | rfl | exact⟨rfl,rfl⟩ | skip
    ·have g1:((r.length:Int)>0)=False:=eq_false (by omega);obtain rfl:r=[]:=ao3.1 (by omega);rw[A8] at hd;have hd:gy b=some o:=by rw[hd]; simp
     have e1:my b=0:=by unfold my; rw[if_neg h0,hd]; rfl
     have e2:qP b=o:=by unfold qP; rw[if_neg h0,hd]; rfl
     by_cases h64:64<o.length
     ·have e3:gQ b=8:=by unfold gQ; rw[if_pos e1,e2,if_pos h64]
      rw[e3,show bp b=[] from if_neg (by rw[e3]; decide)];have g2:((o.length:Int)>64)=True:=eq_true (by omega);simp only[uQ,wa,af,seval,g2];exact bu
     ·have e3:gQ b=0:=by unfold gQ; rw[if_pos e1,e2,if_neg h64]
      rw[e3,show bp b=o.map im from by unfold bp; rw[if_pos e3,e2]];have g2:((o.length:Int)>64)=False:=eq_false (by omega);simp only[uQ,wa,af,seval,g2];exact bu
def Cx:aK:=⟨1,11,ae [bH 2 false] (ae [oM 3 0,bc 4 3,am .geq 5 4 1,oM 6 5,bE 7 0 6 true,fB 8 7 6 true,cu .leq 9 8 16 6 true,dh 10 6 9,oM 2 10] .ret),[(2,none)]⟩
theorem akP:aI Tryz.prog {} Tryz.f73=some Cx:=by kernel_rfl
theorem YB (G:au) (l:List Int) (hl:l.length≤9000000000000000000):aF Tryz.prog G 73 [.sl (l.map zD)] (.w (.c (.d (.bool (decide (1≤l.length∧l.length≤16)))))):=by
  refine aT Tryz.func73 akP rfl rfl ?_;by_cases h1:1≤l.length
  ·have g1:((l.length:Int)≥1)=True:=eq_true (by omega);by_cases h2:l.length≤16
   ·have g2:((l.length:Int)≤16)=True:=eq_true (by omega);rw[decide_eq_true ⟨h1,h2⟩];simp only[Cx,ai,af,seval,g1,g2];exact aZ
   ·have g2:((l.length:Int)≤16)=False:=eq_false (by omega);rw[decide_eq_false (by omega)];simp only[Cx,ai,af,seval,g1,g2];exact aZ
  ·have g1:((l.length:Int)≥1)=False:=eq_false (by omega);rw[decide_eq_false (by omega)];simp only[Cx,ai,af,seval,g1];exact aZ
def vB:aK:=⟨2,33,ae [aM 4,ak 5 0] (.seq (ae [oM 6 0,aW 7 64 6,dd 8 7,oM 9 8,bE 10 1 9 false,oG 11 (.call 64 [(.t 10)] none) 9 false,fY 12 11 9 false,cC 13 9 12] (aw 13 (ae [aM 4,ak 5 4] .ret) .skip)) (.seq (ae [oM 14 0,aW 15 73 14,dd 16 15,oM 17 16,bE 18 1 17 false,oG 19 (.call 73 [(.t 18)] none) 17 false,fY 20 19 17 false,cC 21 17 20] (aw 21 (ae [aM 4,ak 5 8] .ret) .skip)) (ae [oM 22 0,aW 23 65 22,oO 24 (.call 75 [(kI 1),(.t 23)] none),oM 25 1,aW 26 65 25,oO 27 (.call 75 [(kI 4),(.t 26)] none),oO 28 (.call 75 [(kI 0),(.k (.c .nil))] none),oO 29 (.bldSl false 3 3 (.agg [(.bool false),ej,(.sl [])]) [(0,(.t 24)),(1,(.t 27)),(2,(.t 28))]),aW 30 74 29,aB 31 30 0,aB 32 30 1,oM 4 31,oM 5 32] .ret))),[(4,none),(5,none)]⟩
theorem akQ:aI Tryz.prog {} Tryz.f33=some vB:=by kernel_rfl
theorem YC (G:au) (x y:List Int) (hx:x.length≤1000000) (hy:y.length≤1000000):aF Tryz.prog G 33 [.sl (x.map zD),.sl (y.map zD)] (.tup [.c (.d (.sl ((df x y).map bD))),.c (.d (.int .i64 (gg x y)))]):=by
  refine aT Tryz.func33 akQ rfl rfl ?_;have c1:=v9 G x (by omega);have c2:=v9 G y (by omega);have c3:=YB G x (by omega);have c4:=YB G y (by omega);by_cases h1:dq x
  ·rw[decide_eq_true h1] at c1;by_cases h2:dq y
   ·rw[decide_eq_true h2] at c2;by_cases h3:1≤x.length∧x.length≤16
    ·rw[decide_eq_true h3] at c3;by_cases h4:1≤y.length∧y.length≤16
     ·rw[decide_eq_true h4] at c4;have e:gg x y=0:=by unfold gg; rw[if_neg (not_not_intro ⟨h1,h2⟩),if_neg (by omega)]
      have c5:=tJ G x (by omega) h1;have c6:=tJ G y (by omega) h2;have c7:=na G 1 (bG x);have c8:=na G 4 (bG y);have c9:=na G 0 [];have l1:=iQ x;have l2:=iQ y;have hf:∀ r∈gB x y,eJ r=0:=by
        intro r hr;simp only[gB,aoK,aqK,or_false] at hr;rcases hr with rfl | rfl | rfl <;> exact HW (by dsimp only; omega) (by dsimp only; omega) (by first | (dsimp only; omega) | simp)
      have ht:(cg (gB x y)).length≤65535:=by
        simp only[gB,uI,RQ,aoq,uZ,ap1]; omega
      obtain⟨q1,q2⟩:=HX hf (by simp[gB]) ht;have c10:=YA G (gB x y) (by simp[gB]) (fun r hr=>by have:=(rN (hf r hr)).2.2; omega);rw[q1,q2] at c10;rw[e,show df x y=cg (gB x y) from if_pos e];have hL:(gB x y).map bw=[D.agg [.bool true,.int .i64 1,.sl ((bG x).map bD)],D.agg [.bool true,.int .i64 4,.sl ((bG y).map bD)],D.agg [.bool true,.int .i64 0,.sl []]]:=rfl;rw[hL] at c10;generalize cg (gB x y)=R at *
      clear hf ht q1 q2 hL;simp only[aoA] at c9;generalize bG x=X at *
      generalize bG y=Y at *
      simp only[vB,ai,af,seval];refine sD (c1) ?_;refine sD (c2) ?_;refine sD (c3) ?_;refine sD (c4) ?_;refine sD (c5) ?_;refine sD (c7) ?_;refine sD (c6) ?_;refine sD (c8) ?_;refine sD (c9) ?_;refine sD (c10) ?_;exact bu
     ·rw[decide_eq_false h4] at c4;have e:gg x y=8:=by unfold gg; rw[if_neg (not_not_intro ⟨h1,h2⟩),if_pos (by omega)]
      rw[e,show df x y=[] from if_neg (by rw[e]; decide)];simp only[vB,ai,af,seval];refine sD (c1) ?_;refine sD (c2) ?_;refine sD (c3) ?_;refine sD (c4) ?_;exact bu
    ·rw[decide_eq_false h3] at c3;have e:gg x y=8:=by unfold gg; rw[if_neg (not_not_intro ⟨h1,h2⟩),if_pos (by omega)]
     rw[e,show df x y=[] from if_neg (by rw[e]; decide)];simp only[vB,ai,af,seval];refine sD (c1) ?_;refine sD (c2) ?_;refine sD (c3) ?_;exact bu
   ·rw[decide_eq_false h2] at c2;have e:gg x y=4:=by unfold gg; rw[if_pos (fun h=>h2 h.2)]
    rw[e,show df x y=[] from if_neg (by rw[e]; decide)];simp only[vB,ai,af,seval];refine sD (c1) ?_;refine sD (c2) ?_;exact bu
  ·rw[decide_eq_false h1] at c1;have e:gg x y=4:=by unfold gg; rw[if_pos (fun h=>h1 h.1)]
   rw[e,show df x y=[] from if_neg (by rw[e]; decide)];simp only[vB,ai,af,seval];refine sD (c1) ?_;exact bu
def Dm (l:List Int) (v:Int) (i:Nat):St:=⟨bz [(0,.w (.c (.d (.sl (l.map zD))))),(1,.w (.c (.d (.int .i64 v)))),(7,.w (.c (.d (.int .i64 (l.length:Int))))),(8,.w (.c (.d (.int .i64 (i:Int)))))],hL [],uL []⟩
def inP (l:List Int) (v n:Int):Prop:=(v∈l∧0≤n)∨(v∉l∧n=-1)
def AG:bq := ae [aU .lss 9 8 7] (.seq (aw 9 .skip (.exit 0)) (.seq (.block 1 (ae [oM 10 8,oM 5 10] (ae [oM 11 1,oM 12 0,oM 13 5,bW 14 1 12 13,aA 15 14,aU .eql 16 11 15] (aw 16 (ae [oM 17 5,oM 4 17] .ret) .skip)))) (.reg [am .add 18 8 1,oM 8 18])))
def WI:aK:=⟨2,19,ae [ak 4 0] (.seq (ae [oM 6 0,bc 7 6,ak 8 0] (.block 0 (.loop AG))) (ae [oO 4 (.mv (.k (.c (.d (.int .i64 (-1))))))] .ret)),[(4,none)]⟩
theorem akR:aI Tryz.prog {} Tryz.f176=some WI:=by kernel_rfl
theorem ani (G:au) (l:List Int) (v:Int) (hl:l.length≤9000000000000000000):∃ n,inP l v n∧aF Tryz.prog G 176 [.sl (l.map zD),.int .i64 v] (.w (.c (.d (.int .i64 n)))):=by
  have key:∀ n,(∀ k,n=((l.idxOf v:Nat):Int)∧v∈l∨n=-1∧v∉l→k=n→k=n)→(n=((l.idxOf v:Nat):Int)∧v∈l∨n=-1∧v∉l)→aF Tryz.prog G 176 [.sl (l.map zD),.int .i64 v] (.w (.c (.d (.int .i64 n)))):=by
    intro n _ hn;refine aT Tryz.func176 akR rfl rfl ?_;simp only[WI,ai,af,seval];refine bQ (Dm l v) (fun i=>l.length-i) (fun i=>i≤l.length∧v∉l.take i) 0 ⟨aoy _,by rw[apJ]; exact aqK⟩ ?_ ?_
    ·refine aV (fun _=>0) ?_ ?_ rfl rfl <;> simp only[wx,aH,seval] <;> first | rfl | exact⟨rfl,rfl⟩ | skip
    ·rintro i ⟨hi,hp⟩;by_cases hlt:i<l.length
     ·have g:=wE hlt;have hm:=Gl hlt;have hs:=xw hlt;by_cases h1:v=l.getD i 0
      ·have hv:v∈l:=h1 ▸ hm;have hi2:l.idxOf v=i:=by
         have e:l=l.take i++l.getD i 0::l.drop (i+1):=by
           have:=(aoX (i+1) l).symm;rw[hs,aoC] at this;exact this
         have:(l.take i++l.getD i 0::l.drop (i+1)).idxOf v=i:=by
           rw[List.idxOf_append,if_neg hp,← h1,List.idxOf_cons_self,aow]; omega
         rw[← e] at this;exact this
       obtain⟨rfl,_⟩:=hn.resolve_right fun h=>h.2 hv
       rw[hi2];have g1:(v=l.getD i 0)=True:=eq_true h1;generalize l.getD i 0=w at *
       simp only[AG,Dm,af,seval,iteOmega,toNatUp,ba,g,zD,g1];exact aZ
      ·have g1:(v=l.getD i 0)=False:=eq_false h1;have hn:v∉l.take (i+1):=by
         rw[hs];intro q;rcases aoG.1 q with q | q
         ·exact hp q
         ·exact h1 (aou.1 q)
       generalize l.getD i 0=w at *
       simp only[AG,Dm,af,seval,iteOmega,toNatUp,ba,g,zD,g1];refine bA (i+1) (by omega) ⟨by omega,hn⟩ (aV (fun i=>i) ?_ ?_ rfl rfl) <;> simp only[wx,aH,aY,seval] <;> first | rfl | exact⟨rfl,rfl⟩ | skip
     ·rw[aot (by omega)] at hp;obtain⟨rfl,_⟩:=hn.resolve_left fun h=>hp h.2
      simp only[AG,Dm,af,seval,iteOmega];exact aZ
  by_cases hv:v∈l
  ·exact⟨_,.inl ⟨hv,aqu _⟩,key _ (fun _ _ h=>h) (.inl ⟨rfl,hv⟩)⟩
  ·exact⟨_,.inr ⟨hv,rfl⟩,key _ (fun _ _ h=>h) (.inr ⟨rfl,hv⟩)⟩
def ID:aK:=⟨2,9,ae [bH 4 false] (ae [oM 5 0,oM 6 1,cd 7 176 5 6,am .geq 8 7 0,oM 4 8] .ret),[(4,none)]⟩
theorem akS:aI Tryz.prog {} Tryz.f163=some ID:=by kernel_rfl
theorem YD (G:au) (l:List Int) (v:Int) (hl:l.length≤9000000000000000000):aF Tryz.prog G 163 [.sl (l.map zD),.int .i64 v] (.w (.c (.d (.bool (decide (v∈l)))))):=by
  refine aT Tryz.func163 akS rfl rfl ?_;obtain⟨n,hn,c⟩:=ani G l v hl;rcases hn with ⟨h1,h2⟩ | ⟨h1,rfl⟩
  ·rw[decide_eq_true h1];have g:(n≥0)=True:=eq_true h2;simp only[ID,ai,af,seval];refine sC (c) ?_;simp only[g,af,seval];exact aZ
  ·rw[decide_eq_false h1];simp only[ID,ai,af,seval];refine sD (c) ?_;exact aZ
def Dn (x y:List Int) (i:Nat):St:=⟨bz [(1,.w (.c (.d (.sl (y.map zD))))),(8,.w (.c (.d (.sl (x.map zD))))),(9,.w (.c (.d (.int .i64 (x.length:Int))))),(10,.w (.c (.d (.int .i64 (i:Int)))))],hL [],uL []⟩
def AH:bq := ae [aU .lss 11 10 9] (.seq (aw 11 .skip (.exit 0)) (.seq (.block 1 (ae [bW 12 1 8 10,aA 13 12,oM 7 13] (ae [oM 14 1,oM 15 7,cd 16 163 14 15] (aw 16 (ae [oM 17 7,oM 4 17,bH 5 true] .ret) .skip)))) (.reg [am .add 18 10 1,oM 10 18])))
def WJ:aK:=⟨2,19,ae [ak 4 0,bH 5 false] (.seq (ae [oM 8 0,bc 9 8,ak 10 0] (.block 0 (.loop AH))) (ae [ak 4 0,bH 5 false] .ret)),[(4,none),(5,none)]⟩
theorem akT:aI Tryz.prog {} Tryz.f133=some WJ:=by kernel_rfl
theorem YE (G:au) (x y:List Int) (hx:x.length≤1000000) (hy:y.length≤1000000):aF Tryz.prog G 133 [.sl (x.map zD),.sl (y.map zD)] (.tup [.c (.d (.int .i64 ((gC x y).getD 0))),.c (.d (.bool (gC x y).isSome))]):=by
  refine aT Tryz.func133 akT rfl rfl ?_;simp only[WJ,ai,af,seval];refine bQ (Dn x y) (fun i=>x.length-i) (fun i=>i≤x.length∧∀ v∈x.take i,v∉y) 0 ⟨aoy _,by rw[apJ]; exact fun v hv=>by cases hv⟩ ?_ ?_
  ·refine aV (fun _=>0) ?_ ?_ rfl rfl <;> simp only[wx,aH,seval] <;> first | rfl | exact⟨rfl,rfl⟩ | skip
  ·rintro i ⟨hi,hp⟩;by_cases hlt:i<x.length
   ·have g:=wE hlt;have hs:=xw hlt;have hat:=ajq hlt hp;have c:=YD G y (x.getD i 0) (by omega);generalize x.getD i 0=w at *
    by_cases h1:w∈y
    ·rw[hat h1,apx,ap3];rw[decide_eq_true h1] at c;simp only[AH,Dn,af,seval,iteOmega,toNatUp,ba,g,zD];refine sD (c) ?_;exact bu
    ·rw[decide_eq_false h1] at c;have hn:∀ v∈x.take (i+1),v∉y:=by
       rw[hs];intro v q;rcases aoG.1 q with q | q
       ·exact hp v q
       ·rw[aou.1 q]; exact h1
     clear hat;simp only[AH,Dn,af,seval,iteOmega,toNatUp,ba,g,zD];refine sD (c) ?_;refine bA (i+1) (by omega) ⟨by omega,hn⟩ (aV (fun i=>i) ?_ ?_ rfl rfl) <;> simp only[wx,aH,aY,seval] <;> first | rfl | exact⟨rfl,rfl⟩ | skip
   ·rw[aot (by omega)] at hp;have:gC x y=none:=List.find?_eq_none.2 fun v hv q=>hp v hv (of_decide_eq_true q)
    rw[this,apP,aqf];simp only[AH,Dn,af,seval,iteOmega];exact bu
def WK:aK:=⟨3,20,ae [cW 3 0,aM 6] (ae [bn 10 6 3,oM 11 1,oM 12 2,oO 13 (.bldSl false 1 1 aj [(0,(.t 12))]),oO 14 (.bldSl false 2 1 (.sl []) [(0,(.t 11)),(1,(.t 13))]),aW 15 44 14,oO 16 (.call 117 [(.t 10),(.k (.c (.d (.str ⟨#[115,101,99,116,105,109,101,32,107,101,121,115]⟩)))),(.t 15),(kI 32)] none),oM 9 16,aB 17 9 0,aB 18 9 1,oM 7 17,oM 8 18] (ae [oM 19 7,oM 6 19] .ret)),[(6,none)]⟩
theorem akU:aI Tryz.prog {} Tryz.f66=some WK:=by kernel_rfl
theorem YF (G:au) (hF:G.at 0=some (.ra (dW.map wD))) (hG:G.at 1=some (.ra (cy.map wD))) (c:Ch) (p a:Int) (z:UInt8) (h:kH c p a=0):aF Tryz.prog G 66 [bV c,.sl ((bG [p,a]).map bD),bD z] (.w (.c (.d (.sl ((cE c p a z).map bD))))):=by
  refine aT Tryz.func66 akU rfl rfl ?_;have hv:eT c:=by
    unfold kH at h;by_cases g:eT c
    ·exact g
    ·rw[if_pos g] at h; exact absurd h (by decide)
  have bl:(bG [p,a]).length=4:=iQ _;have cj:=dV G [bG [p,a],[z]] (by simp) (by simp[bl]);rw[show [bG [p,a],[z]].flatten=sG p a z from by unfold sG; simp] at cj;simp only[aos,aoA] at cj;have hl:(sG p a z).length=5:=by unfold sG; rw[aoq,bl]; rfl
  have c4:=amy G hF hG c KD (sG p a z) 32 (by decide) (by omega) (by decide) (by decide);have hX:DW c KD.data.toList (sG p a z) 32=cE c p a z:=by
    unfold DW cE;rw[if_pos hv,if_pos h,rm _ _ (by decide)];rfl
  rw[hX] at c4;unfold KD at c4;unfold bV at *
  generalize sG p a z=X at *
  generalize cE c p a z=K at *
  generalize bG [p,a]=B at *
  simp only[WK,ai,af,seval];refine sD (cj) ?_;refine sD (c4) ?_;exact aZ
def Cy:aK:=⟨3,30,ae [cW 3 0,oO 6 (.alloc [.nil,.nil]),ak 7 0] (.seq (ae [bn 9 6 3,aW 10 61 9,dd 11 10] (aw 11 (ae [oO 12 (.build [.nil,.nil] []),aS 2 6 12,ak 7 3] .ret) .skip)) (.seq (ae [oM 13 1,oM 14 2,oO 15 (.bldSl false 2 1 ej [(0,(.t 13)),(1,(.t 14))]),aW 16 64 15,dd 17 16] (aw 17 (ae [oO 18 (.build [.nil,.nil] []),aS 2 6 18,ak 7 4] .ret) .skip)) (ae [oM 19 1,oM 20 2,oO 21 (.bldSl false 2 1 ej [(0,(.t 19)),(1,(.t 20))]),aW 22 65 21,oM 8 22] (ae [bn 23 6 3,oM 24 8,oO 25 (.call 66 [(.t 23),(.t 24),(.k (.c (.d aj)))] none),bn 26 6 3,oM 27 8,oO 28 (.call 66 [(.t 26),(.t 27),(.k (.c (.d (.int .u8 1))))] none),oO 29 (.build [.nil,.nil] [(0,1,(.t 25)),(1,1,(.t 28))]),aS 2 6 29,ak 7 0] .ret)))),[(6,(some (.ag 2))),(7,none)]⟩
theorem akV:aI Tryz.prog {} Tryz.f27=some Cy:=by kernel_rfl
theorem YG (G:au) (hF:G.at 0=some (.ra (dW.map wD))) (hG:G.at 1=some (.ra (cy.map wD))) (c:Ch) (p a:Int):aF Tryz.prog G 27 [bV c,.int .i64 p,.int .i64 a] (.tup [.c (.d (gF (cE c p a 0) (cE c p a 1))),.c (.d (.int .i64 (kH c p a)))]):=by
  refine aT Tryz.func27 akV rfl rfl ?_;have c1:=vZ G hF hG c;have c2:=v9 G [p,a] (by simp);by_cases h:eT c
  ·rw[decide_eq_true h] at c1;by_cases hs:dq [p,a]
   ·rw[decide_eq_true hs] at c2;have e:kH c p a=0:=by unfold kH; rw[if_neg (not_not_intro h),if_neg (not_not_intro hs)]
    have c3:=tJ G [p,a] (by simp) hs;have c4:=YF G hF hG c p a 0 e;have c5:=YF G hF hG c p a 1 e;rw[e];unfold bV gF at *
    simp only[aos,aoA,zD] at c2 c3 c4 c5;generalize bG [p,a]=B at *
    generalize cE c p a 0=U at *
    generalize cE c p a 1=W at *
    simp only[Cy,ai,af,seval];refine sD (c1) ?_;refine sD (c2) ?_;refine sD (c3) ?_;refine sD (c4) ?_;refine sD (c5) ?_;exact bu
   ·rw[decide_eq_false hs] at c2;have e:kH c p a=4:=by unfold kH; rw[if_neg (not_not_intro h),if_pos hs]
    rw[e,show cE c p a 0=[] from if_neg (by rw[e]; decide),show cE c p a 1=[] from if_neg (by rw[e]; decide)];unfold bV gF at *
    simp only[aos,aoA,zD] at c2;simp only[Cy,ai,af,seval];refine sD (c1) ?_;refine sD (c2) ?_;exact bu
  ·rw[decide_eq_false h] at c1;have e:kH c p a=3:=by unfold kH; rw[if_pos h]
   rw[e,show cE c p a 0=[] from if_neg (by rw[e]; decide),show cE c p a 1=[] from if_neg (by rw[e]; decide)];unfold bV gF at *
   simp only[Cy,ai,af,seval];refine sD (c1) ?_;exact bu
def Dq (l:List Ek) (g:Nat) (caps:List D) (i:Nat):St:=⟨bz [(0,.w (.c (.d (.sl (l.map bw))))),(1,.w (.c (.d (.fn g caps)))),(7,.w (.c (.d (.int .i64 (l.length:Int))))),(8,.w (.c (.d (.int .i64 (i:Int)))))],hL [],uL []⟩
def inK (p:Ek→Bool) (l:List Ek) (n:Int):Prop:=(l.any p=true∧0≤n)∨(l.any p=false∧n=-1)
def AJ:bq := ae [aU .lss 9 8 7] (.seq (aw 9 .skip (.exit 0)) (.seq (.block 1 (ae [oM 10 8,oM 5 10] (ae [oM 11 1,oM 12 0,oM 13 5,bW 14 3 12 13,bn 15 3 14,cd 16 1000000007 11 15] (aw 16 (ae [oM 17 5,oM 4 17] .ret) .skip)))) (.reg [am .add 18 8 1,oM 8 18])))
def WY:aK:=⟨2,19,ae [ak 4 0] (.seq (ae [oM 6 0,bc 7 6,ak 8 0] (.block 0 (.loop AJ))) (ae [oO 4 (.mv (.k (.c (.d (.int .i64 (-1))))))] .ret)),[(4,none)]⟩
theorem akY:aI Tryz.prog {} Tryz.f162=some WY:=by kernel_rfl
theorem anj (G:au) (l:List Ek) (g:Nat) (caps:List D) (p:Ek→Bool) (hl:l.length≤9223372036854775807) (hp:∀ x∈l,oc Tryz.prog G g caps [bw x] (.w (.c (.d (.bool (p x)))))):∃ n,inK p l n∧aF Tryz.prog G 162 [.sl (l.map bw),.fn g caps] (.w (.c (.d (.int .i64 n)))):=by
  have key:∀ n:Int,(l.any p=true∧(∃ i:Nat,n=(i:Int)∧i<l.length∧p (l.getD i default)=true∧∀ j,j<i→p (l.getD j default)=false))∨(l.any p=false∧n=-1)→aF Tryz.prog G 162 [.sl (l.map bw),.fn g caps] (.w (.c (.d (.int .i64 n)))):=by
    intro n hn;refine aT Tryz.func162 akY rfl rfl ?_;simp only[WY,ai,af,seval];refine bQ (Dq l g caps) (fun i=>l.length-i) (fun i=>i≤l.length∧∀ j,j<i→p (l.getD j default)=false) 0 ⟨aoy _,fun j hj=>by omega⟩ ?_ ?_
    ·refine aV (fun i=>0) ?_ ?_ rfl rfl <;> simp only[wx,aH,seval] <;> rfl
    ·rintro i ⟨hi,hno⟩;by_cases hlt:i<l.length
     ·have g1:=qC hlt;have hd:=hp _ (oI hlt);unfold bw at hd;cases hpi:p (l.getD i default)
      ·rw[hpi] at hd;simp only[AJ,Dq,af,seval,iteOmega,toNatUp,ba,g1,bw];refine uG hd rfl (.inl rfl) ?_;simp only[af,seval,iteOmega];refine bA (i+1) (by omega) ⟨by omega,fun j hj=>?_⟩ (aV (fun i=>0) ?_ ?_ rfl rfl)
       ·rcases aoP j i with h | h
        ·exact hno j h
        ·obtain rfl:j=i:=by omega
         exact hpi
       all_goals simp only[wx,aH,aY,seval]
      ·rw[hpi] at hd;have hni:n=(i:Int):=by
         rcases hn with ⟨_,k,rfl,hk,h1,h2⟩ | ⟨h1,_⟩
         ·rcases Nat.lt_trichotomy k i with h | h | h
          ·rw[hno k h] at h1; cases h1
          ·rw[h]
          ·rw[h2 i h] at hpi; cases hpi
         ·have:=apC.2 ⟨_,oI hlt,hpi⟩;rw[h1] at this; cases this
       subst hni;simp only[AJ,Dq,af,seval,iteOmega,toNatUp,ba,g1,bw];refine uG hd rfl (.inl rfl) ?_;simp only[af,seval];exact aZ
     ·have hni:n=-1:=by
        rcases hn with ⟨_,k,rfl,hk,h1,h2⟩ | ⟨_,h⟩
        ·rw[hno k (by omega)] at h1; cases h1
        ·exact h
      subst hni;simp only[AJ,Dq,af,seval,iteOmega];exact aZ
  cases ha:l.any p
  ·exact⟨_,.inr ⟨ha,rfl⟩,key _ (.inr ⟨ha,rfl⟩)⟩
  ·have:∃ i,i<l.length∧p (l.getD i default)=true:=by
     obtain⟨x,hx,h1⟩:=apC.1 ha;obtain⟨i,hi,rfl⟩:=ao0 hx;exact⟨i,hi,by rw[aor,aon hi]; exact h1⟩
   obtain⟨i,⟨h1,h2⟩,h3⟩:=NI this;exact⟨_,.inl ⟨ha,aqu _⟩,key (i:Int) (.inl ⟨ha,i,rfl,h1,h2,fun j hj=>by
     cases hq:p (l.getD j default)
     ·rfl
     ·have:=h3 j ⟨by omega,hq⟩; omega⟩)⟩
def II:aK:=⟨2,9,ae [bH 4 false] (ae [oM 5 0,oM 6 1,cd 7 162 5 6,am .geq 8 7 0,oM 4 8] .ret),[(4,none)]⟩
theorem akZ:aI Tryz.prog {} Tryz.f131=some II:=by kernel_rfl
theorem ank (G:au) (l:List Ek) (g:Nat) (caps:List D) (p:Ek→Bool) (hl:l.length≤9223372036854775807) (hp:∀ x∈l,oc Tryz.prog G g caps [bw x] (.w (.c (.d (.bool (p x)))))):aF Tryz.prog G 131 [.sl (l.map bw),.fn g caps] (.w (.c (.d (.bool (l.any p))))):=by
  refine aT Tryz.func131 akZ rfl rfl ?_;obtain⟨n,hn,c⟩:=anj G l g caps p hl hp;rcases hn with ⟨h1,h2⟩ | ⟨h1,rfl⟩
  ·rw[h1];have g1:(n≥0)=True:=eq_true h2;simp only[II,ai,af,seval];refine sC (c) ?_;simp only[g1,af,seval];exact aZ
  ·rw[h1];simp only[II,ai,af,seval];refine sD (c) ?_;exact aZ
def WZ:aK:=⟨1,5,ae [cW 1 0,bH 2 false] (ae [aO 3 0 1,aA 4 3,oM 2 4] .ret),[(2,none)]⟩
theorem ak0:aI Tryz.prog {} Tryz.f132=some WZ:=by kernel_rfl
theorem anl (G:au) (r:Ek):oc Tryz.prog G 132 [] [bw r] (.w (.c (.d (.bool r.cr)))):=by
  refine⟨enters_of Tryz.func132 (by kernel_rfl) rfl,?_⟩;refine aT Tryz.func132 ak0 rfl rfl ?_;obtain⟨cr,ty,bo⟩:=r;unfold bw;simp only[WZ,ai,af,seval];exact aZ
def IJ:aK:=⟨2,10,ae [bH 4 false] (ae [oM 5 0,oM 6 1,oO 7 (.mpGet .i64 (.sl []) false (.t 5) (.t 6)),bc 8 7,am .gtr 9 8 0,oM 4 9] .ret),[(4,none)]⟩
theorem ak1:aI Tryz.prog {} Tryz.f90=some IJ:=by kernel_rfl
theorem rR (G:au) (l:List Ek) (k:Int):aF Tryz.prog G 90 [dT l,.int .i64 k] (.w (.c (.d (.bool (decide (0<(a9 l k).length)))))):=by
  refine aT Tryz.func90 ak1 rfl rfl ?_;have hk:=IG l k;unfold dT;generalize eO l=E at *
  generalize a9 l k=x at *
  by_cases h:0<x.length
  ·rw[decide_eq_true h];have g1:((x.length:Int)>0)=True:=eq_true (by omega);simp only[IJ,ai,af,seval,fi,hk,g1];exact aZ
  ·rw[decide_eq_false h];have g1:((x.length:Int)>0)=False:=eq_false (by omega);simp only[IJ,ai,af,seval,fi,hk,g1];exact aZ
def fG (l:List Ek) (k:Int):List UInt8:=((a9 l k).getD 0 default).bo
def cx (l:List Ek) (k:Int):List Int:=iK (fG l k)
def IK:aK:=⟨2,15,ae [aM 4] (.seq (ae [oM 5 0,oM 6 1,cd 7 90 5 6,dd 8 7] (aw 8 (ae [aM 4] .ret) .skip)) (ae [oM 9 0,oM 10 1,oO 11 (.mpGet .i64 (.sl []) false (.t 9) (.t 10)),oO 12 (.idxSl 3 (.t 11) (kI 0)),aO 13 2 12,aA 14 13,oM 4 14] .ret)),[(4,none)]⟩
theorem ak2:aI Tryz.prog {} Tryz.f137=some IK:=by kernel_rfl
theorem JQ (G:au) (l:List Ek) (k:Int):aF Tryz.prog G 137 [dT l,.int .i64 k] (.w (.c (.d (.sl ((fG l k).map bD))))):=by
  refine aT Tryz.func137 ak2 rfl rfl ?_;have c:=rR G l k;have hk:=IG l k;unfold dT fG at *
  generalize eO l=E at *
  generalize a9 l k=x at *
  by_cases h:0<x.length
  ·rw[decide_eq_true h] at c;have g:=qC h;generalize x.getD 0 default=r at *
   simp only[IK,ai,af,seval];refine sC (c) ?_;simp only[fi,hk,ba,g,bw,af,seval,iteOmega,toNatUp];exact aZ
  ·rw[decide_eq_false h] at c;obtain rfl:x=[]:=ao3.1 (by omega);rw[show (([]:List Ek).getD 0 default).bo=[] from rfl];simp only[IK,ai,af,seval];refine sD (c) ?_;exact aZ
theorem vg {l:List Ek} {n:Nat} (h:∀ r∈l,r.bo.length≤n) (k:Int):(fG l k).length≤n:=by
  unfold fG;rcases aoP 0 (a9 l k).length with h1 | h1
  ·exact h _ (apV.1 (oI h1)).1
  ·obtain h2:a9 l k=[]:=ao3.1 (by omega);rw[h2]; exact aoy _
def W0:aK:=⟨2,15,ae [aM 4] (ae [oM 8 0,oM 9 1,cd 10 137 8 9,aW 11 161 10,oM 7 11,aB 12 7 0,aB 13 7 1,oM 5 12,oM 6 13] (ae [oM 14 5,oM 4 14] .ret)),[(4,none)]⟩
theorem ak3:aI Tryz.prog {} Tryz.f134=some W0:=by kernel_rfl
theorem wb (G:au) (l:List Ek) (k:Int) (h:∀ r∈l,r.bo.length≤1000000000):aF Tryz.prog G 134 [dT l,.int .i64 k] (.w (.c (.d (.sl ((cx l k).map zD))))):=by
  refine aT Tryz.func134 ak3 rfl rfl ?_;have c1:=JQ G l k;have c2:=Yy G (fG l k) (vg h k);unfold cx dT at *
  generalize eO l=E at *
  generalize fG l k=B at *
  generalize iK B=N at *
  simp only[W0,ai,af,seval];refine sD (c1) ?_;refine sD (c2) ?_;exact aZ
def uh (l:List Ek):Bool:=decide (0<(a9 l 1).length)&&(decide (0<(a9 l 4).length)&&(!decide (0<(a9 l 2).length)&&(!decide (0<(a9 l 3).length)&&!decide (0<(a9 l 5).length))))
def vD:aK:=⟨1,24,ae [bH 2 false] (ae [oM 3 0,oO 4 (.call 90 [(.t 3),(kI 1)] none),oM 5 4,bE 6 0 5 true,oG 7 (.call 90 [(.t 6),(kI 4)] none) 5 true,dh 8 5 7,oM 9 8,bE 10 0 9 true,oG 11 (.call 90 [(.t 10),(kI 2)] none) 9 true,fY 12 11 9 true,dh 13 9 12,oM 14 13,bE 15 0 14 true,oG 16 (.call 90 [(.t 15),(kI 3)] none) 14 true,fY 17 16 14 true,dh 18 14 17,oM 19 18,bE 20 0 19 true,oG 21 (.call 90 [(.t 20),(kI 5)] none) 19 true,fY 22 21 19 true,dh 23 19 22,oM 2 23] .ret),[(2,none)]⟩
theorem ak4:aI Tryz.prog {} Tryz.f83=some vD:=by kernel_rfl
theorem anm (G:au) (l:List Ek):aF Tryz.prog G 83 [dT l] (.w (.c (.d (.bool (uh l))))):=by
  refine aT Tryz.func83 ak4 rfl rfl ?_;have c1:=rR G l 1;have c4:=rR G l 4;have c2:=rR G l 2;have c3:=rR G l 3;have c5:=rR G l 5;unfold uh;unfold dT at *
  generalize eO l=E at *
  generalize decide (0<(a9 l 1).length)=b1 at *
  generalize decide (0<(a9 l 4).length)=b4 at *
  generalize decide (0<(a9 l 2).length)=b2 at *
  generalize decide (0<(a9 l 3).length)=b3 at *
  generalize decide (0<(a9 l 5).length)=b5 at *
  cases b1
  ·simp only[vD,ai,af,seval];refine sD (c1) ?_;exact aZ
  cases b4
  ·simp only[vD,ai,af,seval];refine sD (c1) ?_;refine sD (c4) ?_;exact aZ
  cases b2
  case true =>
    simp only[vD,ai,af,seval];refine sD (c1) ?_;refine sD (c4) ?_;refine sD (c2) ?_;exact aZ
  cases b3
  case true =>
    simp only[vD,ai,af,seval];refine sD (c1) ?_;refine sD (c4) ?_;refine sD (c2) ?_;refine sD (c3) ?_;exact aZ
  cases b5 <;> (
    simp only[vD,ai,af,seval];refine sD (c1) ?_;refine sD (c4) ?_;refine sD (c2) ?_;refine sD (c3) ?_;refine sD (c5) ?_;exact aZ
    skip)
def ui (k:Int) (x:List Ek):Bool :=
  if k=0 then decide (x.length=1∧(x.getD 0 default).bo.length=0)
  else if k=1∨k=4 then decide (x.length=1∧(x.getD 0 default).bo.length%2=0)
  else if k=6 then decide (x.length=1)
  else if k=7 then decide (x.length=1∧(x.getD 0 default).bo.length=2)
  else true
def kq:aK:=⟨2,52,ae [bH 4 false] (ae [oM 8 1,oO 9 (.idxSl 3 (.t 8) (kI 0)),aO 10 2 9,aA 11 10,oM 5 11] (.seq (ae [oM 12 0] (.block 0 (ae [am .eql 14 12 0,oM 13 14] (aw 13 (ae [oM 15 1,bc 16 15,am .eql 17 16 1,oM 18 17,bE 19 5 18 true,fB 20 19 18 true,cu .eql 21 20 0 18 true,dh 22 18 21,oM 4 22] .ret) (.seq (ae [am .eql 24 12 1,oM 23 24] (aw 23 .skip (.reg [am .eql 25 12 4,oM 23 25]))) (aw 23 (ae [oM 27 5,aW 28 161 27,oM 26 28,aB 29 26 0,aB 30 26 1,oM 6 29,oM 7 30] (ae [oM 31 1,bc 32 31,am .eql 33 32 1,oM 34 33,bE 35 7 34 true,dh 36 34 35,oM 4 36] .ret)) (ae [am .eql 38 12 6,oM 37 38] (aw 37 (ae [oM 39 1,bc 40 39,am .eql 41 40 1,oM 4 41] .ret) (ae [am .eql 43 12 7,oM 42 43] (aw 42 (ae [oM 44 1,bc 45 44,am .eql 46 45 1,oM 47 46,bE 48 5 47 true,
 fB 49 48 47 true,cu .eql 50 49 2 47 true,dh 51 47 50,oM 4 51] .ret) .skip)))))))))) (ae [bH 4 true] .ret))),[(4,none)]⟩
theorem ak5:aI Tryz.prog {} Tryz.f130=some kq:=by kernel_rfl
theorem ann (G:au) (k:Int) (x:List Ek) (hx:0<x.length) (hl:x.length≤1000000) (hb:(x.getD 0 default).bo.length≤1000000000):aF Tryz.prog G 130 [.int .i64 k,.sl (x.map bw)] (.w (.c (.d (.bool (ui k x))))):=by
  refine aT Tryz.func130 ak5 rfl rfl ?_;have g:=qC hx;have c:=Yy G (x.getD 0 default).bo hb;unfold ui;generalize x.getD 0 default=r at *
  obtain⟨cr,ty,bo⟩:=r;dsimp only at *
  generalize iK bo=nn at *
  by_cases k0:k=0
  ·rw[if_pos k0];subst k0;by_cases h1:x.length=1
   ·have g1:((x.length:Int)=1)=True:=eq_true (by omega);by_cases h2:bo.length=0
    ·rw[decide_eq_true ⟨h1,h2⟩];have g2:((bo.length:Int)=0)=True:=eq_true (by omega);simp only[kq,ai,af,seval,iteOmega,toNatUp,ba,g,bw,g1,g2];exact aZ
    ·rw[decide_eq_false (fun h=>h2 h.2)];have g2:((bo.length:Int)=0)=False:=eq_false (by omega);simp only[kq,ai,af,seval,iteOmega,toNatUp,ba,g,bw,g1,g2];exact aZ
   ·have g1:((x.length:Int)=1)=False:=eq_false (by omega);rw[decide_eq_false (fun h=>h1 h.1)];simp only[kq,ai,af,seval,iteOmega,toNatUp,ba,g,bw,g1];exact aZ
  ·rw[if_neg k0];have g0:=eq_false k0;by_cases k1:k=1
   ·rw[if_pos (.inl k1)];subst k1;by_cases h1:x.length=1
    ·have g1:((x.length:Int)=1)=True:=eq_true (by omega);by_cases h2:bo.length%2=0
     ·rw[decide_eq_true ⟨h1,h2⟩];rw[decide_eq_true h2] at c;simp only[kq,ai,af,seval,iteOmega,toNatUp,ba,g,bw];refine sC (c) ?_;simp only[g1,af,seval];exact aZ
     ·rw[decide_eq_false (fun h=>h2 h.2)];rw[decide_eq_false h2] at c;simp only[kq,ai,af,seval,iteOmega,toNatUp,ba,g,bw];refine sC (c) ?_;simp only[g1,af,seval];exact aZ
    ·have g1:((x.length:Int)=1)=False:=eq_false (by omega);rw[decide_eq_false (fun h=>h1 h.1)];generalize decide (bo.length%2=0)=d at *
     simp only[kq,ai,af,seval,iteOmega,toNatUp,ba,g,bw];refine sC (c) ?_;simp only[g1,af,seval];exact aZ
   ·have g1':=eq_false k1;by_cases k4:k=4
    ·rw[if_pos (.inr k4)];subst k4;by_cases h1:x.length=1
     ·have g1:((x.length:Int)=1)=True:=eq_true (by omega);by_cases h2:bo.length%2=0
      ·rw[decide_eq_true ⟨h1,h2⟩];rw[decide_eq_true h2] at c;simp only[kq,ai,af,seval,iteOmega,toNatUp,ba,g,bw];refine sC (c) ?_;simp only[g1,af,seval];exact aZ
      ·rw[decide_eq_false (fun h=>h2 h.2)];rw[decide_eq_false h2] at c;simp only[kq,ai,af,seval,iteOmega,toNatUp,ba,g,bw];refine sC (c) ?_;simp only[g1,af,seval];exact aZ
     ·have g1:((x.length:Int)=1)=False:=eq_false (by omega);rw[decide_eq_false (fun h=>h1 h.1)];generalize decide (bo.length%2=0)=d at *
      simp only[kq,ai,af,seval,iteOmega,toNatUp,ba,g,bw];refine sC (c) ?_;simp only[g1,af,seval];exact aZ
    ·have g4':=eq_false k4;rw[if_neg (fun h=>h.elim k1 k4)];by_cases k6:k=6
     ·rw[if_pos k6];subst k6;by_cases h1:x.length=1
      ·have g1:((x.length:Int)=1)=True:=eq_true (by omega);rw[decide_eq_true h1];simp only[kq,ai,af,seval,iteOmega,toNatUp,ba,g,bw,g1];exact aZ
      ·have g1:((x.length:Int)=1)=False:=eq_false (by omega);rw[decide_eq_false h1];simp only[kq,ai,af,seval,iteOmega,toNatUp,ba,g,bw,g1];exact aZ
     ·have g6':=eq_false k6;rw[if_neg k6];by_cases k7:k=7
      ·rw[if_pos k7];subst k7;by_cases h1:x.length=1
       ·have g1:((x.length:Int)=1)=True:=eq_true (by omega);by_cases h2:bo.length=2
        ·rw[decide_eq_true ⟨h1,h2⟩];have g2:((bo.length:Int)=2)=True:=eq_true (by omega);simp only[kq,ai,af,seval,iteOmega,toNatUp,ba,g,bw,g1,g2];exact aZ
        ·rw[decide_eq_false (fun h=>h2 h.2)];have g2:((bo.length:Int)=2)=False:=eq_false (by omega);simp only[kq,ai,af,seval,iteOmega,toNatUp,ba,g,bw,g1,g2];exact aZ
       ·have g1:((x.length:Int)=1)=False:=eq_false (by omega);rw[decide_eq_false (fun h=>h1 h.1)];simp only[kq,ai,af,seval,iteOmega,toNatUp,ba,g,bw,g1];exact aZ
      ·have g7':=eq_false k7;rw[if_neg k7];simp only[kq,ai,af,seval,iteOmega,toNatUp,ba,g,bw,g0,g1',g4',g6',g7'];exact aZ
structure Wk where
  left:List (Int×D)
  last:Option (Int×D)
theorem KQ {α:Type}:∀ (l:List α) (j:Nat) (p:α),l[j]?=some p→∀ x∈l,x∈l.eraseIdx j∨x=p
  | [],_,_,h,_,_=>by simp at h
  | a::l,0,p,h,x,hx=>by
    simp only[apy,aov] at h;subst h;rcases aoK.1 hx with rfl | hx
    ·exact .inr rfl
    ·exact .inl hx
  | a::l,j+1,p,h,x,hx=>by
    rw[ao2] at h;rw[List.eraseIdx_cons_succ];rcases aoK.1 hx with rfl | hx
    ·exact .inl aoW
    ·rcases KQ l j p h x hx with h | h
     ·exact .inl (aoQ _ h)
     ·exact .inr h
theorem Qk {α:Type} {l:List α} {j:Nat} {p:α} (h:l[j]?=some p):(l.eraseIdx j).length<l.length:=by
  obtain⟨h1,_⟩:=aoJ.1 h;rw[List.length_eraseIdx,if_pos h1]; omega
def oo (l:List Ek) (P:Int→Prop) (t:Wk):Prop:=(∀ p∈t.left,p∈eO l)∧∀ p∈eO l,p∈t.left∨P p.1
theorem oo.start (l:List Ek) (P:Int→Prop):oo l P ⟨eO l,none⟩:=⟨fun _ h=>h,fun _ h=>.inl h⟩
theorem oo.next {l:List Ek} {P:Int→Prop} {t:Wk} (h:oo l P t) {j:Nat} {p:Int×D} (hj:t.left[j]?=some p) (hP:P p.1):oo l P ⟨t.left.eraseIdx j,some p⟩ :=
  ⟨fun x hx=>h.1 x (List.mem_of_mem_eraseIdx hx),fun x hx=>(h.2 x hx).elim (fun h1=>(KQ _ _ _ hj x h1).imp id (fun e:x=p=>by rw[e]; exact hP)) .inr⟩
theorem oo.done {l:List Ek} {P:Int→Prop} {t:Wk} (h:oo l P t) (he:t.left=[]) {k:Int} (hk:a9 l k≠[]):P k:=by
  rcases h.2 _ (agT hk) with h1 | h1
  ·rw[he] at h1; cases h1
  ·exact h1
theorem agV {l:List Ek} {k:Int} (h:7<k) (ha:(a9 l k).any (fun r=>r.cr)=true):lX l=true:=by
  obtain⟨r,h1,h2⟩:=apC.1 ha;obtain⟨h3,h4⟩:=apV.1 h1;have h4:r.ty=k:=of_decide_eq_true h4;exact apC.2 ⟨r,h3,by rw[h2,aqp,h4]; exact decide_eq_true h⟩
theorem ak6 {l:List Ek} (h:∀ k,a9 l k≠[]→¬ (7<k∧(a9 l k).any (fun r=>r.cr)=true)):lX l=false:=by
  refine apz.2 fun r hr hq=>?_
  rw[aoU,decide_eq_true_eq] at hq;have hm:r∈a9 l r.ty:=apV.2 ⟨hr,decide_eq_true rfl⟩;exact h r.ty (fun e=>by rw[e] at hm; cases hm) ⟨hq.2,apC.2 ⟨r,hm,hq.1⟩⟩
def YH (t:Wk):St:=⟨bz [(6,.w (.c (.ptr 1 1 0 0)))],hL [(1,.it .i64 t.left t.last)],uL [1]⟩
def Ql:bq := .seq (.nextM 7 (.t 6) [aB 8 7 0]) (.seq (aw 8 .skip (.exit 0)) (.block 1 (ae [oO 9 (.mpEnt (.t 6)),aB 10 9 0,aB 11 9 1,oM 3 10,oM 4 11] (ae [oM 12 3,am .gtr 13 12 7,oM 14 13,bE 15 4 14 true,oG 16 (.call 131 [(.t 15),(.k (.c (.d (.fn 132 []))))] none) 14 true,dh 17 14 16] (aw 17 (ae [bH 2 true] .ret) .skip)))))
def W4:aK:=⟨1,18,ae [bH 2 false] (.seq (ae [oM 5 0,oO 6 (.mpIter (.t 5))] (.block 0 (.loop Ql))) (ae [bH 2 false] .ret)),[(2,none)]⟩
theorem ak7:aI Tryz.prog {} Tryz.f85=some W4:=by kernel_rfl
theorem YI (G:au) (l:List Ek) (hl:l.length≤1000000):aF Tryz.prog G 85 [dT l] (.w (.c (.d (.bool (lX l))))):=by
  refine aT Tryz.func85 ak7 rfl rfl ?_;unfold dT;have hst:=oo.start l fun k=>¬ (7<k∧(a9 l k).any (fun r=>r.cr)=true)
  simp only[W4,ai,af,seval,fi];refine bQ YH (fun t=>t.left.length) (oo l fun k=>¬ (7<k∧(a9 l k).any (fun r=>r.cr)=true)) ⟨eO l,none⟩ hst ?_ ?_
  ·refine aV (fun _=>48) ?_ ?_ rfl rfl <;> simp only[wx,aH,seval] <;> first | rfl | exact⟨rfl,rfl⟩ | skip
  ·rintro⟨left,last⟩ hI;simp only[Ql,YH,af,seval];refine WU (id:=1) (s:=1) (q:=.i64) (left:=left) (last:=last) rfl rfl ?_ ?_
   ·intro he;rw[ak6 fun k hk=>hI.done he hk];simp only[af,seval];exact aZ
   ·intro j p hj;obtain⟨e1,e2⟩:=To (hI.1 p (aps hj));have hnx:=fun h=>hI.next hj h
    have hlt:=Qk hj;generalize left.eraseIdx j=left' at *
    clear hj hI;obtain⟨k,d⟩:=p;dsimp only at *
    obtain rfl:d=D.sl ((a9 l k).map bw):=congrArg Prod.snd e1;clear e1;have c:=ank G (a9 l k) 132 [] (fun r=>r.cr) (by have:=List.length_filter_le (fun r:Ek=>decide (r.ty=k)) l; unfold a9; omega) fun x _=>anl G x
    by_cases hk:k>7
    ·have g1:=eq_true hk;cases hc:(a9 l k).any fun r=>r.cr
     ·rw[hc] at c;have hn:=hnx (fun h=>by rw[hc] at h; cases h.2);simp only[af,seval,fi,g1];refine sD (c) ?_;refine bA (⟨left',some (k,D.sl ((a9 l k).map bw))⟩:Wk) hlt hn (aV (fun _=>1) ?_ ?_ rfl rfl) <;> simp only[wx,aH,seval] <;> first | rfl | exact⟨rfl,rfl⟩ | skip
     ·rw[agV hk hc];rw[hc] at c;simp only[af,seval,fi,g1];refine sD (c) ?_;exact aZ
    ·have g1:=eq_false hk;have hn:=hnx (fun h=>hk h.1);simp only[af,seval,fi,g1];refine bA (⟨left',some (k,D.sl ((a9 l k).map bw))⟩:Wk) hlt hn (aV (fun _=>1) ?_ ?_ rfl rfl) <;> simp only[wx,aH,seval] <;> first | rfl | exact⟨rfl,rfl⟩ | skip
theorem Tq {l:List Ek} {k:Int} (h:(a9 l k).length=1) {r:Ek} (hr:r∈l) (hk:r.ty=k):(a9 l k).getD 0 default=r:=by
  have hm:r∈a9 l k:=apV.2 ⟨hr,decide_eq_true hk⟩
  match hx:a9 l k,h with
  | [x],_ =>
    rw[hx] at hm;rw[aou.1 hm]; rfl
theorem IL {l:List Ek} {r:Ek} (hr:r∈l):a9 l r.ty≠[]:=fun e=>by
  have hm:r∈a9 l r.ty:=apV.2 ⟨hr,decide_eq_true rfl⟩;rw[e] at hm; cases hm
theorem Ts {l:List Ek} {k:Int} (h:a9 l k≠[]):0<(a9 l k).length:=Nat.pos_of_ne_zero fun e=>h (ao3.1 e)
theorem ak8 (l:List Ek):qV l↔(0<l.length∧(l.getD (l.length-1) default).ty=0∧∀ k,a9 l k≠[]→ui k (a9 l k)=true):=by
  constructor
  ·rintro⟨⟨h1,h2,h3,h4,h5,h6,h7⟩,hb⟩;obtain⟨i1,i2⟩:=ajl (l:=l) (k:=0) (j:=0) (by omega);have hg:=rq (l:=l) (k:=0) (j:=0) (by omega);rw[h2] at i1 i2;refine⟨by omega,i2,fun k hk=>?_⟩;have hp:=Ts hk;have hm:=apV.1 (oI hp);have hty:((a9 l k).getD 0 default).ty=k:=of_decide_eq_true hm.2;have hb1:wU ((a9 l k).getD 0 default):=hb _ hm.1;unfold ui;split
   ·rename_i e;subst e;rw[← dQ,← hg];exact decide_eq_true ⟨h1,h3⟩
   ·split
    ·rename_i e;refine decide_eq_true ⟨?_,hb1.1 (by rw[hty]; exact e)⟩;rw[dQ] at h4 h5;rcases e with rfl | rfl <;> omega
    ·split
     ·rename_i e;subst e;rw[dQ] at h6;exact decide_eq_true (by omega)
     ·split
      ·rename_i e;subst e;rw[dQ] at h7;exact decide_eq_true ⟨by omega,hb1.2 hty⟩
      ·rfl
  ·rintro⟨hl,h0,hf⟩;have hlast:l.getD (l.length-1) default∈l:=oI (by omega);have f0:=hf 0 (h0 ▸ IL hlast);have f0:(a9 l 0).length=1∧((a9 l 0).getD 0 default).bo.length=0:=of_decide_eq_true f0;have few:∀ k,(k=1∨k=4∨k=6∨k=7)→(dk l k).length≤1:=by
     intro k hk;rw[dQ];by_cases he:a9 l k=[]
     ·rw[he]; exact aoy _
     ·have:=hf k he;rcases hk with rfl | rfl | rfl | rfl
      ·exact Nat.le_of_eq (of_decide_eq_true this:_∧_).1
      ·exact Nat.le_of_eq (of_decide_eq_true this:_∧_).1
      ·exact Nat.le_of_eq (of_decide_eq_true this:_=1)
      ·exact Nat.le_of_eq (of_decide_eq_true this:_∧_).1
   have n0:(dk l 0).length=1:=by rw[dQ]; exact f0.1
   have hidx:(dk l 0).getD 0 0=l.length-1:=by
     have hm:l.length-1∈dk l 0:=apV.2 ⟨apI.2 (by omega),decide_eq_true h0⟩
     match hx:dk l 0,n0 with
     | [x],_ =>
       rw[hx] at hm;rw[aou.1 hm]; rfl
   refine⟨⟨n0,hidx,?_,few 1 (by simp),few 4 (by simp),few 6 (by simp),few 7 (by simp)⟩,fun r hr=>⟨fun hk=>?_,fun hk=>?_⟩⟩
   ·rw[rq (by omega)]; exact f0.2
   ·have h1:=hf r.ty (IL hr);have h2:(a9 l r.ty).length=1∧((a9 l r.ty).getD 0 default).bo.length%2=0:=by
      rcases hk with hk | hk <;> (rw[hk] at h1 ⊢; exact of_decide_eq_true h1)
    rw[Tq h2.1 hr rfl] at h2;exact h2.2
   ·have h1:=hf r.ty (IL hr);have h2:(a9 l r.ty).length=1∧((a9 l r.ty).getD 0 default).bo.length=2:=by
      rw[hk] at h1 ⊢; exact of_decide_eq_true h1
    rw[Tq h2.1 hr rfl] at h2;exact h2.2
theorem adQ {es:List (Int×List Ek)} {g:Nat→Nat} (h:∀ j,j<es.length→g (8*j+3)=8*j+3):(d8 es 0).map (fun p=>(p.1,p.2.ren g))=d8 es 0:=by
  refine apF fun j=>?_
  rw[apk,xY];cases hj:es[j]? with
  | none=>rfl
  | some p =>
    have:=h j (aoJ.1 hj).1;simp only[apu,C.ren,aph,this]
theorem adR (es:List (Int×List Ek)) (p:Int×List Ek):d8 (es++[p]) 0=d8 es 0++[(p.1,.own (8*es.length+3) 3 0 p.2.length)]:=by
  have key:∀ (es:List (Int×List Ek)) (b:Nat),d8 (es++[p]) b=d8 es b++[(p.1,.own (8*(b+es.length)+3) 3 0 p.2.length)]:=by
    intro es
    induction es with
    | nil=>intro b; rfl
    | cons q r ih=>intro b; rw[ape,d8,ih,d8,apj,show b+1+r.length=b+(r.length+1) by omega,ape]
  rw[key,aph]
theorem agW {es:List (Int×List Ek)} {j k:Nat} (hj:j<es.length) (p:Int×List Ek) {g:Nat→Nat} (h:∀ i,i≠j→g (8*i+3)=8*i+3) (hk:g (8*j+3)=k):(d8 (es.set j p) 0).map (fun q=>(q.1,q.2.ren g))=(d8 es 0).set j (p.1,.own k 3 0 p.2.length):=by
  refine apF fun i=>?_
  rw[apk,xY,aqG,aqG,Tp];by_cases e:j=i
  ·subst e;rw[if_pos rfl,if_pos rfl,if_pos hj,if_pos hj];simp only[apu,C.ren,aph,hk]
  ·rw[if_neg e,if_neg e,xY];cases hi:es[i]? with
   | none=>rfl
   | some q=>simp only[apu,C.ren,aph,h i (fun q=>e q.symm)]
def oq (n:Nat):Nat→Nat:=fun i=>if i=8*n+3 then 392 else i
theorem yu (n:Nat):oq n 1=1:=if_neg (by omega)
theorem tx (n:Nat):oq n (8*n+3)=392:=if_pos rfl
theorem qi {n j:Nat} (h:j≠n):oq n (8*j+3)=8*j+3:=if_neg (by omega)
theorem Tt (n j:Nat):oq n 1≠oq n (8*j+3):=by
  rw[yu];by_cases h:j=n
  ·rw[h,tx]; decide
  ·rw[qi h]; omega
theorem Qm {n i j:Nat} (h:oq n (8*i+3)=oq n (8*j+3)):i=j:=by
  by_cases h1:i=n <;> by_cases h2:j=n
  ·omega
  ·rw[h1,tx,qi h2] at h; omega
  ·rw[h2,tx,qi h1] at h; omega
  ·rw[qi h1,qi h2] at h; omega
theorem agX {σ:St} {fl:List (Nat×V)} {es:List (Int×List Ek)} {k:Int} {x:Ek} (h1:qO σ.f (oq es.length) fl) (hm:σ.h 1=some (.mp .i64 (d8 es 0++[(k,.own 392 3 0 1)]))) (hw:σ.h 392=some (.row 3 [bw x]))
    (hr:∀ j,σ.h (8*j+3)=jj es (8*j+3)) (hf:(fl.flatMap fun p=>p.2.ids).all (fun i=>kA i)=true):ft σ ⟨bz fl,jj (es++[(k,[x])]),kA⟩:=by
  refine Hz (oq es.length) h1 ?_ (fun j p hp=>?_) (Tt _) (fun i j _ _=>Qm) hf
  ·rw[yu,hm,adR,aoH,adQ fun j hj=>qi (by omega)];simp only[aos,aoA,C.ren,tx,ao6]
  ·by_cases h:j=es.length
   ·subst h;rw[aoV (aoz _),aqm] at hp;cases hp;rw[tx,hw]; rfl
   ·rw[qi h,hr,Cz];rcases aoP j es.length with h2 | h2
    ·rw[apb h2] at hp;rw[hp]; rfl
    ·rw[aoV h2,api (by simp; omega)] at hp;cases hp
theorem agY {σ:St} {fl:List (Nat×V)} {es:List (Int×List Ek)} {j0:Nat} {k:Int} {y:List Ek} {x:Ek} (hj:es[j0]?=some (k,y)) (h1:qO σ.f (oq j0) fl) (hm:σ.h 1=some (.mp .i64 ((d8 es 0).set j0 (k,.own 392 3 0 (y.length+1))))) (hw:σ.h 392=some (.row 3 (y.map bw++[bw x])))
    (hr:∀ j,j≠j0→σ.h (8*j+3)=jj es (8*j+3)) (hf:(fl.flatMap fun p=>p.2.ids).all (fun i=>kA i)=true):ft σ ⟨bz fl,jj (es.set j0 (k,y++[x])),kA⟩:=by
  have hlt:=(aoJ.1 hj).1;refine Hz (oq j0) h1 ?_ (fun j p hp=>?_) (Tt _) (fun i j _ _=>Qm) hf
  ·rw[yu,hm,agW hlt (k,y++[x]) (k:=392) (fun i hi=>qi hi) (tx _),aoq]; rfl
  ·rw[aqG] at hp;by_cases h:j0=j
   ·subst h;rw[if_pos rfl,if_pos hlt] at hp;cases hp;rw[tx,hw,aoH]; rfl
   ·rw[if_neg h] at hp;rw[qi fun e=>h e.symm,hr _ fun e=>h e.symm,Cz,hp]; rfl
def Dr (l:List Ek) (i:Nat):St:=⟨bz [(4,.w (.c (.d (.sl (l.map bw))))),(6,.w (.c (.mp 1))),(34,.w (.c (.d (.sl (l.map bw))))),(35,.w (.c (.d (.int .i64 (l.length:Int))))),(36,.w (.c (.d (.int .i64 (i:Int)))))],jj (iN l i),kA⟩
def Zb (l:List Ek) (t:Wk):St:=⟨bz [(6,.w (.c (.d (dT l)))),(52,.w (.c (.ptr 1 1 0 0)))],hL [(1,.it .i64 t.left t.last)],uL [1]⟩
theorem agZ (l:List Ek) (i:Nat) (hi:i≤l.length):∀ (j:Nat) (p:Int×List Ek),(iN l i)[j]?=some p→p.2.length≤l.length:=by
  intro j p hp;have hm:=aps hp;have h1:=Hy (FJ l i) (show (p.1,p.2)∈iN l i from hm);rw[IE l i hi] at h1;split at h1
  ·cases h1
  ·rw[← Option.some.inj h1];have:=List.length_filter_le (fun r:Ek=>decide (r.ty=p.1)) (l.take i);rw[aow] at this;unfold a9;omega
def AK:bq := ae [aU .lss 37 36 35] (.seq (aw 37 .skip (.exit 0)) (.seq (.block 1 (ae [bW 38 3 34 36,bn 39 3 38,oO 8 (.alloc [cv,ah,.nil]),aS 3 8 39] (.reg [oM 40 6,aO 41 1 8,oO 42 (.loadB .sc (.t 41)),oM 43 6,aO 44 1 8,oO 45 (.loadB .sc (.t 44)),oO 46 (.mpGet .i64 (.sl []) false (.t 43) (.t 45)),oO 47 (.loadB (.ag 3) (.t 8)),oO 48 (.bldSl false 1 3 (.agg [(.bool false),ej,(.sl [])]) [(0,(.t 47))]),oO 49 (.app false 3 40 (.t 46) (.t 48)),oN (.mpSet .i64 (.t 40) (.t 42) (.t 49))]))) (.reg [am .add 50 36 1,oM 36 50])))
def Qn:bq := .seq (.nextM 53 (.t 52) [aB 54 53 0]) (.seq (aw 54 .skip (.exit 2)) (.block 3 (ae [oO 55 (.mpEnt (.t 52)),aB 56 55 0,aB 57 55 1,oM 9 56,oM 10 57] (ae [oM 58 9,oM 59 10,cd 60 130 58 59,dd 61 60] (aw 61 (ae [oO 2 (.mv (.k (.c (.d (.mp .i64 []))))),bH 3 false] .ret) .skip)))))
def yx:aK:=⟨1,63,ae [oO 2 (.mv (.k (.c (.d (.mp .i64 []))))),bH 3 false] (ae [oM 12 0,aW 13 129 12,oM 11 13,aB 14 11 0,aB 15 11 1,oM 4 14,oM 5 15] (.seq (ae [oM 16 5,am .neq 17 16 0,oM 18 17,bE 19 4 18 false,fB 20 19 18 false,cu .eql 21 20 0 18 false,cC 22 18 21,oM 23 22,bE 24 4 23 false,bE 25 4 23 false,fB 26 25 23 false,cu .sub 27 26 1 23 false,oG 28 (.idxSl 3 (.t 24) (.t 27)) 23 false,dN 29 1 28 23 false,dz 30 29 23 false,cu .neq 31 30 0 23 false,cC 32 23 31] (aw 32 (ae [oO 2 (.mv (.k (.c (.d (.mp .i64 []))))),bH 3 false] .ret) .skip)) (ae [oO 33 (.mkMp .i64 none),oM 6 33] (.seq (ae [oM 34 4,bc 35 34,ak 36 0] (.block 0 (.loop AK))) (.seq (.seq (.ghost 6 (.reg [oM 51 6,oO 52 (.mpIter (.t 51))])) (.block 2 (.loop Qn))) (ae [oM 62 6,oM 2 62,bH 3 true]
 .ret)))))),[(2,none),(3,none)]⟩
theorem ak9:aI Tryz.prog { bx:=[42,45,47],gh:=[(10,6)] } Tryz.f82=some yx:=by kernel_rfl
theorem JR (G:au) (b:List UInt8) (hb:b.length≤1000000000):aF Tryz.prog G 82 [.sl (b.map bD)] (.tup [.c (.d (dT (mF b))),.c (.d (.bool (decide (iz b))))]):=by
  refine aT Tryz.func82 ak9 rfl rfl ?_;have c:=anh G b hb;have hno:¬ iz b→mF b=[]∧decide (iz b)=false:=fun h=>⟨if_neg h,decide_eq_false h⟩
  by_cases he:gQ b=0
  ·obtain⟨q1,q2,q3,q4⟩:=XR he;have hyes:qV (bp b)→mF b=bp b∧decide (iz b)=true:=fun h=>⟨if_pos ⟨he,h⟩,decide_eq_true ⟨he,h⟩⟩
   have hno:¬ qV (bp b)→mF b=[]∧decide (iz b)=false:=fun h=>hno fun h2=>h h2.2
   have h64:=(vU q1).2.1;have hbo:∀ r∈bp b,r.bo.length≤65535:=fun r hr=>(rN (q4 r hr)).2.2
   have hfm:=ak8 (bp b);rw[he] at c;generalize bp b=l at *
   by_cases h0:0<l.length
   ·have g:=qC (l:=l) (i:=l.length-1) (by omega);have gl:((l.length:Int)=0)=False:=eq_false (by omega);have gt:((l.length:Int)-1).toNat=l.length-1:=by omega
    by_cases h1:(l.getD (l.length-1) default).ty=0
    ·have gty:=eq_true h1;have az:=uH l;obtain⟨R,hR⟩:∃ R,R=l.getD (l.length-1) default:=⟨_,rfl⟩
     rw[← hR] at g gty;have hfm2:qV l↔∀ k,a9 l k≠[]→ui k (a9 l k)=true:=⟨fun h=>(hfm.1 h).2.2,fun h=>hfm.2 ⟨h0,h1,h⟩⟩
     clear hfm q1 q2 q3 q4 hR h1;obtain⟨Rc,Rt,Rb⟩:=R;dsimp only at gty;simp only[yx,ai,af,seval];refine sC (c) ?_;simp only[gl,gt,ba,g,bw,gty,fi,af,seval,iteOmega];refine bQ (Dr l) (fun i=>l.length-i) (fun i=>i≤l.length) 0 (aoy _) ?_ ?_
     ·refine Hz (fun i=>if i=1 then 264 else 0) ?_ ?_ (fun j p hp=>by cases hp) (fun j=>?_) (fun i j hi=>by cases hi) rfl
      ·simp only[wx,aH,seval,fi]
      ·simp only[af,seval]; rfl
      ·rw[if_pos rfl,if_neg (by omega)]; decide
     ·intro i hi;have u64:kA 64=false:=IH 8;have u392:kA 392=false:=IH 49;have h1r:=akX (iN l i);by_cases hlt:i<l.length
      ·have g:=qC hlt;have hst:iN l (i+1)=dE (iN l i) (l.getD i default).ty ((bJ (iN l i) (l.getD i default).ty).getD []++[l.getD i default]):=rfl;have hln:=agZ l i hi;generalize l.getD i default=x at *
       obtain⟨es,hes⟩:∃ es,es=iN l i:=⟨_,rfl⟩
       rw[← hes] at hst h1r hln;obtain⟨X,hX⟩:∃ X,X=x:=⟨_,rfl⟩
       rcases WW es 0 x.ty with ⟨m1,m2⟩ | ⟨j,y,m1,m2,m3,m4⟩
       ·rw[m2] at hst;rw[apP,apa,Gt _ m2,← hX] at hst;have p1:=fun c=>Gt (es:=d8 es 0) (k:=x.ty) c m1
        obtain⟨xc,xt,xb⟩:=x;dsimp only at *
        simp only[AK,Dr,← hes,af,aa,seval,iteOmega,toNatUp,ba,g,bw,fi,u64,u392,h1r,m1,p1,cG];refine bA (i+1) (by omega) (by omega) ?_
        show ft _ ⟨bz _,jj (iN l (i+1)),kA⟩
        rw[hst,hX];refine agX ?_ ?_ ?_ (fun j=>by dsimp only; rw[upd_ne _ _ (by omega),upd_ne _ _ (by omega),upd_ne _ _ (by omega),upd_ne _ _ (by omega)]) rfl
        ·simp only[wx,aH,aY,seval,fi,yu] <;> first | rfl | exact⟨rfl,rfl⟩ | skip
        ·simp only[af,seval]
        ·simp only[af,seval,bw]
       ·rw[m1] at hst;rw[apx,(m4 .nil).2,← hX] at hst;rw[aph] at m3;have p1:=fun c=>(m4 c).1
        have hyl:=hln j _ m2;dsimp only at hyl;have hrow:jj es (8*j+3)=some (.row 3 (y.map bw)):=by rw[Cz,m2]; rfl
        have n1:(8*j+3==64)=false:=by rw[beq_eq_false_iff_ne]; omega
        have n2:(1==8*j+3)=false:=by rw[beq_eq_false_iff_ne]; omega
        have az2:=uH y;obtain⟨xc,xt,xb⟩:=x;dsimp only at *
        simp only[AK,Dr,← hes,af,aa,seval,iteOmega,toNatUp,ba,g,bw,fi,u64,u392,h1r,m3,p1,cG,n1,n2,hrow];refine bA (i+1) (by omega) (by omega) ?_
        show ft _ ⟨bz _,jj (iN l (i+1)),kA⟩
        rw[hst,hX];refine agY m2 ?_ ?_ ?_ (fun i hi=>by dsimp only; rw[upd_ne _ _ (by omega),upd_ne _ _ (by omega),upd_ne _ _ (by omega),upd_ne _ _ (by omega),upd_ne _ _ (by omega)]) rfl
        ·simp only[wx,aH,aY,seval,fi,yu] <;> first | rfl | exact⟨rfl,rfl⟩ | skip
        ·simp only[af,seval]
        ·simp only[af,seval,bw]
      ·obtain rfl:i=l.length:=by omega
       have u416:kA 416=false:=IH 52;simp only[AK,Dr,af,seval,iteOmega];refine akW (id:=1) (q:=.i64) (es:=d8 (iN l l.length) 0) (ds:=eO l) rfl h1r (abH _) ?_;generalize upd (killAll (jj (iN l l.length)) ((d8 (iN l l.length) 0).map (·.2))) 1 none=K;simp only[af,seval,fi,u416];refine bQ (Zb l) (fun t=>t.left.length) (oo l fun k=>ui k (a9 l k)=true) ⟨eO l,none⟩ (oo.start l _) ?_ ?_
       ·refine aV (fun _=>416) ?_ ?_ rfl rfl <;> simp only[wx,aH,seval,dT] <;> first | rfl | exact⟨rfl,rfl⟩ | skip
       ·rintro⟨left,last⟩ hI;simp only[Qn,Zb,dT,af,seval];refine WU (id:=1) (s:=1) (q:=.i64) (left:=left) (last:=last) rfl rfl ?_ ?_
        ·intro hle;obtain⟨e1,e2⟩:=hyes (hfm2.2 fun k hk=>hI.done hle hk);rw[e1,e2];simp only[af,seval];exact bu
        ·intro j p hj;obtain⟨e1,e2⟩:=To (hI.1 p (aps hj));have hnx:=fun h=>hI.next hj h
         have hle:=Qk hj;generalize left.eraseIdx j=left' at *
         clear hj hI;obtain⟨k,d⟩:=p;dsimp only at *
         obtain rfl:d=D.sl ((a9 l k).map bw):=congrArg Prod.snd e1;clear e1;have hp:=Ts e2;have c2:=ann G k (a9 l k) hp (by have:=List.length_filter_le (fun r:Ek=>decide (r.ty=k)) l; unfold a9; omega) (by have:=hbo _ (apV.1 (oI hp)).1; unfold a9; omega);cases hc:ui k (a9 l k)
         ·rw[hc] at c2;obtain⟨e1,e3⟩:=hno fun h=>by have:=hfm2.1 h k e2; rw[hc] at this; cases this
          rw[e1,e3,show eO []=[] from rfl];simp only[af,seval,fi];refine sD (c2) ?_;exact bu
         ·rw[hc] at c2;have hn:=hnx hc;simp only[af,seval,fi];refine sD (c2) ?_;refine bA (⟨left',some (k,D.sl ((a9 l k).map bw))⟩:Wk) hle hn (aV (fun _=>1) ?_ ?_ rfl rfl) <;> simp only[wx,aH,seval,dT] <;> first | rfl | exact⟨rfl,rfl⟩ | skip
    ·obtain⟨e1,e2⟩:=hno fun h=>h1 (hfm.1 h).2.1
     rw[e1,e2,xX];have gty:=eq_false h1;generalize l.getD (l.length-1) default=R at *
     obtain⟨Rc,Rt,Rb⟩:=R;dsimp only at gty;simp only[yx,ai,af,seval];refine sC (c) ?_;simp only[gl,gt,ba,g,bw,gty,af,seval,iteOmega];exact bu
   ·obtain⟨e1,e2⟩:=hno fun h=>h0 (hfm.1 h).1
    rw[e1,e2,xX];have gl:((l.length:Int)=0)=True:=eq_true (by omega);simp only[yx,ai,af,seval];refine sC (c) ?_;simp only[gl,af,seval];exact bu
  ·obtain⟨e1,e2⟩:=hno fun h=>he h.1
   rw[e1,e2,xX];have g1:(gQ b=0)=False:=eq_false he;generalize gQ b=e at *
   generalize bp b=l at *
   simp only[yx,ai,af,seval];refine sC (c) ?_;simp only[g1,af,seval];exact bu
def Ex (id:Int):Bool:=decide (0≤id∧id≤4294967295)
def Br:aK:=⟨1,9,ae [bH 2 false] (ae [oM 3 0,oO 4 (.bin .leq (kI 0) (.t 3)),oM 5 4,bE 6 0 5 true,cu .lss 7 6 4294967296 5 true,dh 8 5 7,oM 2 8] .ret),[(2,none)]⟩
theorem ag0:aI Tryz.prog {} Tryz.f95=some Br:=by kernel_rfl
theorem ala (G:au) (id:Int):aF Tryz.prog G 95 [.int .i64 id] (.w (.c (.d (.bool (Ex id))))):=by
  refine aT Tryz.func95 ag0 rfl rfl ?_;unfold Ex;by_cases h1:0≤id
  ·by_cases h2:id<4294967296
   ·have g1:(0≤id)=True:=eq_true h1;have g2:(id<4294967296)=True:=eq_true h2;rw[decide_eq_true (show 0≤id∧id≤4294967295 by omega)];simp only[Br,ai,af,seval,g1,g2];exact aZ
   ·have g1:(0≤id)=True:=eq_true h1;have g2:(id<4294967296)=False:=eq_false h2;rw[decide_eq_false (show ¬ (0≤id∧id≤4294967295) by omega)];simp only[Br,ai,af,seval,g1,g2];exact aZ
  ·have g1:(0≤id)=False:=eq_false h1;rw[decide_eq_false (show ¬ (0≤id∧id≤4294967295) by omega)];simp only[Br,ai,af,seval,g1];exact aZ
def HA:aK:=⟨1,35,ae [ak 2 0,oO 3 (.alloc [.nil,.nil]),bH 4 false] (ae [oM 12 0,oO 13 (.call 118 [(.t 12),(kI 4)] none),oM 11 13,aB 14 11 0,aB 15 11 1,aB 16 11 2,oM 5 14,oM 6 15,oM 7 16] (.seq (ae [oM 17 5,oO 18 (.slice 1 (.t 17) (some (kI 2)) none none),aW 19 81 18,oO 20 (.bin .neq (.t 19) (.k (.c aQ)))] (aw 20 (ae [oO 21 (.build [.nil,.nil] []),ak 2 0,aS 2 3 21,bH 4 false] .ret) .skip)) (ae [oM 23 6,oO 24 (.call 118 [(.t 23),(kI 32)] none),oM 22 24,aB 25 22 0,aB 26 22 1,aB 27 22 2,oM 8 25,oM 9 26,oM 10 27] (ae [oM 28 5,oO 29 (.slice 1 (.t 28) none (some (kI 2)) none),aW 30 81 29,oO 31 (.conv .i64 (.t 30)),oM 32 8,oM 33 9,oO 34 (.build [.nil,.nil] [(0,1,(.t 32)),(1,1,(.t 33))]),oM 2 31,aS 2 3 34,bH 4 true] .ret)))),[(2,none),(3,(some (.ag 2))),(4,none)]⟩
theorem ag1:aI Tryz.prog {} Tryz.f109=some HA:=by kernel_rfl
theorem alb (G:au) (V:List UInt8) (hV:V.length=68):aF Tryz.prog G 109 [.sl (V.map bD)] (if V.getD 2 0=0∧V.getD 3 0=0 then .tup [.c (.d (.int .i64 (bi (aG V 0 2):Int))),.c (.d (gF (aG V 4 32) (aG V 36 32))),.c (.d (.bool true))] else .tup [.c (.d (.int .i64 0)),.c (.d (gF [] [])),.c (.d (.bool false))]):=by
  refine aT Tryz.func109 ag1 rfl rfl ?_;have c1:=tm G V 4 (by omega) (by omega);have c2:=tm G (V.drop 4) 32 (by simp; omega) (by simp; omega);have c3:=ku G ((V.take 4).drop 2) (by simp; omega);have c4:=ku G ((V.take 4).take 2) (by simp; omega);have e1:(V.take 4).take 2=aG V 0 2:=by unfold aG; rw[aqe]; rfl
  have e2:(V.drop 4).take 32=aG V 4 32:=rfl;have e3:(V.drop 4).drop 32=aG V 36 32:=by
    unfold aG;rw[ap8,aot (by simp; omega)]
  have hz:bi ((V.take 4).drop 2)=0↔V.getD 2 0=0∧V.getD 3 0=0:=by
    have:(V.take 4).drop 2=[V.getD 2 0,V.getD 3 0]:=by
      match V,hV with
      | a::b::c::d::l,_=>rfl
    rw[this];generalize V.getD 2 0=a;generalize V.getD 3 0=b;have ha:=a.toNat_lt;have hb:=b.toNat_lt;have e:bi [a,b]=a.toNat*256+b.toNat:=by simp only[bi,List.foldl]; omega
    rw[e];constructor
    ·intro h;exact⟨UInt8.toNat_inj.1 (show a.toNat=0 by omega),UInt8.toNat_inj.1 (show b.toNat=0 by omega)⟩
    ·rintro⟨rfl,rfl⟩;rfl
  have l4:((V.take 4).drop 2).length=2:=by simp; omega
  have t4:((V.take 4).drop 2).take 2=(V.take 4).drop 2:=aot (by omega);have l5:(V.take 4).length=4:=by simp; omega
  have b4:=(jc 2 (aG V 0 2) (fj (by omega)) (by decide)).1;rw[e1] at c4;rw[e2,e3] at c2;by_cases h:V.getD 2 0=0∧V.getD 3 0=0
  ·rw[if_pos h];rw[hz.2 h] at c3;simp only[HA,ai,af,seval];refine sC (c1) ?_;simp only[l5,t4,af,seval,toNatUp];refine sD (c3) ?_;refine sC (c2) ?_;simp only[e1,l5,af,seval,toNatUp];refine bK c4 (by simp only[af,seval]) (.inl rfl) ?_;simp only[af,aa,seval,iteOmega];exact lG (by simp only[af,seval] <;> rfl) (by simp only[af,seval] <;> rfl) (by simp only[af,seval])
  ·rw[if_neg h];have g:(((bi ((V.take 4).drop 2):Nat):Int)=0)=False:=eq_false (by have:=mt hz.1 h; omega);simp only[HA,ai,af,seval];refine sC (c1) ?_;simp only[l5,t4,af,seval,toNatUp];refine sC (c3) ?_;simp only[g,af,aa,seval];exact lG (by simp only[af,seval] <;> rfl) (by simp only[af,seval] <;> rfl) (by simp only[af,seval])
def HB:aK:=⟨1,11,ae [ak 2 0,ak 3 0] (.seq (ae [oM 4 0,bc 5 4,am .neq 6 5 104] (aw 6 (ae [ak 2 0,ak 3 3] .ret) .skip)) (ae [oM 7 0,oO 8 (.slice 1 (.t 7) none (some (kI 4)) none),aW 9 81 8,oO 10 (.conv .i64 (.t 9)),oM 2 10,ak 3 0] .ret)),[(2,none),(3,none)]⟩
theorem ag2:aI Tryz.prog {} Tryz.f106=some HB:=by kernel_rfl
theorem alc (G:au) (c:List UInt8) (hc:c.length≤9223372036854775807):aF Tryz.prog G 106 [.sl (c.map bD)] (.tup [.c (.d (.int .i64 (jC c:Int))),.c (.d (.int .i64 (zu c)))]):=by
  refine aT Tryz.func106 ag2 rfl rfl ?_;unfold jC zu;by_cases h:c.length=104
  ·rw[if_neg (by omega),if_neg (by omega)];have c1:=ku G (aG c 0 4) (by rw[fj (by omega)]; decide);have b1:=(jc 4 (aG c 0 4) (fj (by omega)) (by decide)).1;have t1:c.take 4=aG c 0 4:=rfl;generalize bi (aG c 0 4)=n at *
   simp only[HB,ai,af,seval,toNatUp,h,t1];refine sC c1 ?_;simp only[af,seval,iteOmega];exact bu
  ·rw[if_pos h,if_pos h];simp only[HB,ai,af,seval,iteOmega];exact bu
def qY (l:List Fd):Nat→List (Int×D)
  | 0=>[]
  | i+1=>dE (qY l i) (l.getD i default).ty (.bool true)
theorem YJ (l:List Fd) (y:Int):∀ i,bJ (qY l i) y=if ∃ k,k<i∧(l.getD k default).ty=y then some (.bool true) else none
  | 0=>by simp[qY,agQ]
  | i+1=>by
    simp only[qY,Tm,YJ l y i];by_cases h:y=(l.getD i default).ty
    ·rw[if_pos h,if_pos ⟨i,by omega,h.symm⟩]
    ·rw[if_neg h];by_cases h2:∃ k,k<i∧(l.getD k default).ty=y
     ·obtain⟨k,h3,h4⟩:=h2;rw[if_pos ⟨k,h3,h4⟩,if_pos ⟨k,by omega,h4⟩]
     ·have h5:¬ ∃ k,k<i+1∧(l.getD k default).ty=y:=by
        rintro⟨k,h3,h4⟩;rcases aoP k i with g | g
        ·exact h2 ⟨k,g,h4⟩
        ·obtain rfl:k=i:=by omega
         exact h h4.symm
      rw[if_neg h2,if_neg h5]
def uA:bq := ae [aU .lss 21 20 19] (.seq (aw 21 .skip (.exit 0)) (.seq (.block 1 (ae [bW 22 2 18 20,bn 23 2 22,oO 5 (.alloc [ah,.nil]),aS 2 5 23] (.seq (ae [aO 24 0 5,aA 25 24,aW 26 95 25,dd 27 26,oM 28 27,bE 29 3 28 false,dN 30 0 5 28 false,dz 31 30 28 false,oG 32 (.mpGet .i64 (.bool false) false (.t 29) (.t 31)) 28 false,cC 33 28 32,oM 34 33,dN 35 1 5 34 false,dz 36 35 34 false,fB 37 36 34 false,cu .neq 38 37 32 34 false,cC 39 34 38] (aw 39 (ae [bH 2 false] .ret) .skip)) (.reg [oM 40 3,aO 41 0 5,aA 42 41,oN (.mpSet .i64 (.t 40) (.t 42) (.k (.c (.d (.bool true)))))])))) (.reg [am .add 43 20 1,oM 20 43])))
def Bs:aK:=⟨1,44,ae [cW 1 0,bH 2 false] (.seq (ae [aO 6 0 1,aA 7 6,bc 8 7,am .lss 9 8 1,oM 10 9,dN 11 0 1 10 false,dz 12 11 10 false,fB 13 12 10 false,cu .gtr 14 13 4 10 false,cC 15 10 14] (aw 15 (ae [bH 2 false] .ret) .skip)) (ae [oO 16 (.mkMp .i64 none),oM 3 16] (.seq (ae [aO 17 0 1,aA 18 17,bc 19 18,ak 20 0] (.block 0 (.loop uA))) (ae [bH 2 true] .ret)))),[(2,none)]⟩
theorem ag3:aI Tryz.prog {} Tryz.f42=some Bs:=by kernel_rfl
def xg (l:List Fd) (i:Nat):St:=⟨bz [(3,.w (.c (.mp 1))),(18,.w (.c (.d (.sl (l.map bg))))),(19,.w (.c (.d (.int .i64 (l.length:Int))))),(20,.w (.c (.d (.int .i64 (i:Int)))))],hL [(1,.mp .i64 (lC (qY l i)))],uL [1]⟩
set_option maxHeartbeats 3200000 in
theorem IM (G:au) (l:List Fd) (hl:l.length≤9223372036854775807):aF Tryz.prog G 42 [cJ l] (.w (.c (.d (.bool (decide (eU l)))))):=by
  refine aT Tryz.func42 ag3 rfl rfl ?_;unfold cJ;rcases aoP l.length 1 with h1 | h1
  ·have hno:¬ eU l:=fun h=>by have:=h.1; omega
   rw[decide_eq_false hno];simp only[Bs,ai,af,seval,iteOmega];exact aZ
  ·rcases aoP 4 l.length with h4 | h4
   ·have hno:¬ eU l:=fun h=>by have:=h.2.1; omega
    have g4:((l.length:Int)>4)=True:=eq_true (by omega);rw[decide_eq_false hno];simp only[Bs,ai,af,seval,iteOmega,g4];exact aZ
   ·have g4:((l.length:Int)>4)=False:=eq_false (by omega);simp only[Bs,ai,af,seval,iteOmega,fi,g4];refine bQ (xg l) (fun i=>l.length-i) (fun i=>i≤l.length∧∀ j,j<i→mZ (l.getD j default)∧∀ k,k<j→(l.getD k default).ty≠(l.getD j default).ty) 0 ⟨aoy _,fun j hj=>by omega⟩ ?_ ?_
    ·refine aV (fun i=>128) ?_ ?_ rfl rfl <;> simp only[wx,aH,seval,qY,fi]
    ·rintro i ⟨hi,hok⟩;by_cases hlt:i<l.length
     ·have g:=lU hlt;have hno:¬ mZ (l.getD i default)→¬ eU l:=fun h hr=>h (rF hr hlt).1
      have hno2:∀ k,k<i→(l.getD k default).ty=(l.getD i default).ty→¬ eU l:=fun k hk e hr=>(rF hr hlt).2 k hk e
      have hgo:mZ (l.getD i default)→(∀ k,k<i→(l.getD k default).ty≠(l.getD i default).ty)→∀ j,j<i+1→mZ (l.getD j default)∧∀ k,k<j→(l.getD k default).ty≠(l.getD j default).ty:=fun a b j hj=>by
        rcases aoP j i with h | h
        ·exact hok j h
        ·obtain rfl:j=i:=by omega
         exact⟨a,b⟩
      have hms:=YJ l (l.getD i default).ty i;have hst:qY l (i+1)=dE (qY l i) (l.getD i default).ty (.bool true):=rfl;have ci:=ala G (l.getD i default).ty;by_cases h0:0≤(l.getD i default).ty∧(l.getD i default).ty≤4294967295
      ·rw[show Ex (l.getD i default).ty=true from decide_eq_true h0] at ci;by_cases h5:∃ k,k<i∧(l.getD k default).ty=(l.getD i default).ty
       ·obtain⟨k,h6,h7⟩:=h5;rw[if_pos ⟨k,h6,h7⟩] at hms;rw[decide_eq_false (hno2 k h6 h7)];simp only[uA,xg,af,aa,seval,iteOmega,toNatUp,fi,ba,g,bg];refine sC (ci) ?_;simp only[fi,hms,af,seval];exact aZ
       ·rw[if_neg h5] at hms;by_cases h3:(l.getD i default).da.length=32
        ·simp only[uA,xg,af,aa,seval,iteOmega,toNatUp,fi,ba,g,bg];refine sC (ci) ?_;simp only[fi,hms,h3,af,seval,iteOmega];refine bA (i+1) (by omega) ⟨by omega,hgo ⟨by omega,by omega,h3⟩ fun k hk e=>h5 ⟨k,hk,e⟩⟩ (aV (fun _=>1) ?_ ?_ rfl (by simp only[aoL,aqI,Ob.ids,Hw]; rfl)) <;> simp only[wx,aH,aY,seval,fi,qY]
        ·rw[decide_eq_false (hno fun h=>h3 h.2.2)];have h4':(((l.getD i default).da.length:Int)=32)=False:=eq_false (by omega);simp only[uA,xg,af,aa,seval,iteOmega,toNatUp,fi,ba,g,bg];refine sC (ci) ?_;simp only[fi,hms,h4',af,seval];exact aZ
      ·rw[show Ex (l.getD i default).ty=false from decide_eq_false h0] at ci;rw[decide_eq_false (hno fun h=>h0 ⟨h.1,h.2.1⟩)];simp only[uA,xg,af,aa,seval,iteOmega,toNatUp,fi,ba,g,bg];refine sD (ci) ?_;exact aZ
     ·obtain rfl:i=l.length:=by omega
      rw[decide_eq_true (V9 (by omega) (by omega) hok)];simp only[uA,xg,af,seval,iteOmega];exact aZ
def qZ (l:List Fd) (id:Int):Int:=match jY l id with | some i=>(i:Int) | none=>-1
def D6 (l:List Fd) (g:Nat) (caps:List D) (i:Nat):St:=⟨bz [(0,.w (.c (.d (.sl (l.map bg))))),(1,.w (.c (.d (.fn g caps)))),(7,.w (.c (.d (.int .i64 (l.length:Int))))),(8,.w (.c (.d (.int .i64 (i:Int)))))],hL [],uL []⟩
def Ag:bq := ae [aU .lss 9 8 7] (.seq (aw 9 .skip (.exit 0)) (.seq (.block 1 (ae [oM 10 8,oM 5 10] (ae [oM 11 1,oM 12 0,oM 13 5,bW 14 2 12 13,bn 15 2 14,cd 16 1000000007 11 15] (aw 16 (ae [oM 17 5,oM 4 17] .ret) .skip)))) (.reg [am .add 18 8 1,oM 8 18])))
def Tu:aK:=⟨2,19,ae [ak 4 0] (.seq (ae [oM 6 0,bc 7 6,ak 8 0] (.block 0 (.loop Ag))) (ae [oO 4 (.mv (.k (.c (.d (.int .i64 (-1))))))] .ret)),[(4,none)]⟩
theorem ag4:aI Tryz.prog {} Tryz.f107=some Tu:=by kernel_rfl
theorem ald (G:au) (l:List Fd) (g:Nat) (caps:List D) (id:Int) (hl:l.length≤9223372036854775807) (hp:∀ x:Fd,oc Tryz.prog G g caps [bg x] (.w (.c (.d (.bool (decide (x.ty=id))))))):aF Tryz.prog G 107 [.sl (l.map bg),.fn g caps] (.w (.c (.d (.int .i64 (qZ l id))))):=by
  refine aT Tryz.func107 ag4 rfl rfl ?_;simp only[Tu,ai,af,seval];refine bQ (D6 l g caps) (fun i=>l.length-i) (fun i=>i≤l.length∧∀ j,j<i→(l.getD j default).ty≠id) 0 ⟨aoy _,fun j hj=>by omega⟩ ?_ ?_
  ·refine aV (fun i=>0) ?_ ?_ rfl rfl <;> simp only[wx,aH,seval] <;> rfl
  ·rintro i ⟨hi,hn⟩;have haz:=mO l;by_cases hlt:i<l.length
   ·have g1:=lU hlt;have hd:=hp (l.getD i default);by_cases he:(l.getD i default).ty=id
    ·rw[decide_eq_true he] at hd;have e:qZ l id=i:=by unfold qZ; rw[af4 hlt he hn]
     rw[e];simp only[Ag,D6,af,seval,iteOmega,toNatUp,ba,g1];generalize l.getD i default=x at *
     refine uG hd (by simp only[af,seval,bg]) (.inl rfl) ?_;simp only[af,seval];exact aZ
    ·rw[decide_eq_false he] at hd;have hn':∀ j,j<i+1→(l.getD j default).ty≠id:=fun j hj=>by
       rcases aoP j i with h | h
       ·exact hn j h
       ·obtain rfl:j=i:=by omega
        exact he
     simp only[Ag,D6,af,seval,iteOmega,toNatUp,ba,g1];generalize l.getD i default=x at *
     refine uG hd (by simp only[af,seval,bg]) (.inl rfl) ?_;simp only[af,seval,iteOmega];refine bA (i+1) (by omega) ⟨by omega,hn'⟩ (aV (fun i=>0) ?_ ?_ rfl rfl) <;> simp only[wx,aH,aY,seval]
   ·have e:qZ l id=-1:=by unfold qZ; rw[adF fun j hj=>hn j (by omega)]
    rw[e];simp only[Ag,D6,af,seval,iteOmega];exact aZ
def HC:aK:=⟨2,8,ae [cW 2 0,bH 3 false] (ae [aO 4 0 2,aA 5 4,aA 6 1,aU .eql 7 5 6,oM 3 7] .ret),[(3,none)]⟩
theorem ag5:aI Tryz.prog {} Tryz.f108=some HC:=by kernel_rfl
theorem ale (G:au) (id:Int) (x:Fd):oc Tryz.prog G 108 [.ref [.int .i64 id]] [bg x] (.w (.c (.d (.bool (decide (x.ty=id)))))):=by
  refine⟨enters_of Tryz.func108 (by kernel_rfl) rfl,?_⟩;refine M3 Tryz.func108 ag5 rfl rfl ?_;unfold bg;by_cases h:x.ty=id
  ·rw[decide_eq_true h];simp only[HC,ape,apa,aos,aoA,D.up,iH,af,seval,h];exact aZ
  ·rw[decide_eq_false h];have g:(x.ty=id)=False:=eq_false h;simp only[HC,ape,apa,aos,aoA,D.up,iH,af,seval,g];exact aZ
def rz:aK:=⟨4,71,ae [cW 4 0,cW 6 2,aM 8,ak 9 0] (.seq (ae [bn 14 1 4,aW 15 42 14,dd 16 15] (aw 16 (ae [aM 8,ak 9 3] .ret) .skip)) (.seq (ae [oM 17 1,am .lss 18 17 0,oM 19 18,bE 20 1 19 false,cu .geq 21 20 65536 19 false,cC 22 19 21] (aw 22 (ae [aM 8,ak 9 4] .ret) .skip)) (.seq (ae [aO 23 0 6,aA 24 23,bc 25 24,am .neq 26 25 32,oM 27 26,dN 28 1 6 27 false,dz 29 28 27 false,fB 30 29 27 false,cu .neq 31 30 32 27 false,cC 32 27 31] (aw 32 (ae [aM 8,ak 9 5] .ret) .skip)) (.seq (ae [oM 33 3,bc 34 33,am .neq 35 34 16] (aw 35 (ae [aM 8,ak 9 3] .ret) .skip)) (ae [aO 36 0 4,aA 37 36,oO 38 (.idxSl 2 (.t 37) (kI 0)),aO 39 0 38,aA 40 39,oO 41 (.conv .u64 (.t 40)),oO 42 (.call 76 [(.t 41),(kI 4)] none),oM 10 42] (ae [oM 43 1,oO 44 (.conv .u64 (.t 43)),
 oO 45 (.call 76 [(.t 44),(kI 2)] none),oO 46 (.call 76 [(.k (.c aQ)),(kI 2)] none),aO 47 0 6,aA 48 47,aO 49 1 6,aA 50 49,oO 51 (.bldSl false 4 1 (.sl []) [(0,(.t 45)),(1,(.t 46)),(2,(.t 48)),(3,(.t 50))]),aW 52 44 51,oM 11 52] (ae [aO 54 0 4,aA 55 54,oO 56 (.idxSl 2 (.t 55) (kI 0)),aO 57 1 56,aA 58 57,oM 59 10,oM 60 3,oO 61 (.bldSl false 2 1 (.sl []) [(0,(.t 59)),(1,(.t 60))]),oM 62 11,fZ 63 77 58 61 62,oM 53 63,aB 64 53 0,aB 65 53 1,oM 12 64,oM 13 65] (ae [oM 66 10,oM 67 3,oM 68 12,oO 69 (.bldSl false 3 1 (.sl []) [(0,(.t 66)),(1,(.t 67)),(2,(.t 68))]),aW 70 44 69,oM 8 70,ak 9 0] .ret)))))))),[(8,none),(9,none)]⟩
theorem ag6:aI Tryz.prog {} Tryz.f55=some rz:=by kernel_rfl
theorem W5 (G:au) (l:List Fd) (algo:Int) (up dn nonce:List UInt8) (hl:l.length≤9223372036854775807):aF Tryz.prog G 55 [cJ l,.int .i64 algo,gF up dn,.sl (nonce.map bD)] (.tup [.c (.d (.sl ((mE l algo up dn nonce).map bD))),.c (.d (.int .i64 (lw l algo up dn nonce)))]):=by
  refine aT Tryz.func55 ag6 rfl rfl ?_;have c1:=IM G l hl;by_cases hr:eU l
  ·rw[decide_eq_true hr] at c1;have e0:lw l algo up dn nonce=if algo<0∨65535<algo then 4 else if up.length≠32∨dn.length≠32 then 5 else if nonce.length≠16 then 3 else 0:=if_pos hr
   rcases aqo algo 0 with h1 | h1
   ·have e:lw l algo up dn nonce=4:=by rw[e0,if_pos (.inl h1)]
    rw[vx e (by decide),e];unfold cJ gF at *
    simp only[rz,ai,af,seval];refine sD (c1) ?_;exact bu
   ·rcases aqo 65535 algo with h2 | h2
    ·have e:lw l algo up dn nonce=4:=by rw[e0,if_pos (.inr h2)]
     have g2:(algo≥65536)=True:=eq_true (by omega);rw[vx e (by decide),e];unfold cJ gF at *
     simp only[rz,ai,af,seval];refine sC (c1) ?_;simp only[g2,af,seval,iteOmega];exact bu
    ·have g2:(algo≥65536)=False:=eq_false (by omega);rw[if_neg (by omega)] at e0;by_cases h3:up.length=32
     ·by_cases h4:dn.length=32
      ·rw[if_neg (by omega)] at e0;by_cases h5:nonce.length=16
       ·rw[if_neg (by omega)] at e0;have eB:mE l algo up dn nonce=dB (l.getD 0 default) algo up dn nonce:=if_pos e0;rw[e0,eB];have g0:=lU (l:=l) (i:=0) (by have:=hr.1; omega);obtain⟨⟨m1,m2,m3⟩,_⟩:=rF hr (i:=0) (by have:=hr.1; omega);have r1:=hr.1;clear e0 eB;generalize l.getD 0 default=m at *
        have hp:=SG algo h3 h4;have hi:(hC m).length=4:=bO _ _;have ha:dC m.da [hC m,nonce] ((jB algo up dn).length:Int)=0:=AA m3 (by simp) (fun x hx=>by simp at hx; rcases hx with rfl | rfl <;> omega) (by omega);have hs:(fk m.da [hC m,nonce] (jB algo up dn)).length=84:=by rw[nK ha,aoq,kQ,lE,hp]
        have d1:=iD G m.ty.toNat 4 (by decide);rw[show (4:Int).toNat=4 from rfl,show aC m.ty.toNat 4=hC m from rfl,show ((m.ty.toNat:Nat):Int)=m.ty by omega] at d1;have d2:=iD G algo.toNat 2 (by decide);rw[show (2:Int).toNat=2 from rfl,show ((algo.toNat:Nat):Int)=algo by omega] at d2;have d0:=iD G 0 2 (by decide);rw[show aC 0 (2:Int).toNat=[0,0] from by decide] at d0;have d3:=dV G [aC algo.toNat 2,[0,0],up,dn] (by simp) (by rw[P6]; omega);rw[P6] at d3;have d4:=Ib G m.da [hC m,nonce] (jB algo up dn) (by omega) (by simp) (fun x hx=>by simp at hx; rcases hx with rfl | rfl <;> omega) (by omega);rw[ha] at d4;have d5:=dV G [hC m,nonce,fk m.da [hC m,nonce] (jB algo up dn)] (by simp) (by simp only[apd,apf,aoq,ap1,hi,h5,hs]; omega);rw[af3] at d5;unfold dH at d4;generalize dB m algo up dn nonce=B at *
        generalize fk m.da [hC m,nonce] (jB algo up dn)=S at *
        generalize jB algo up dn=P at *
        generalize hC m=I at *
        generalize aC algo.toNat 2=A at *
        simp only[aos,aoA] at d0 d3 d4 d5;have haz:=mO l;unfold cJ gF at *
        simp only[rz,ai,af,seval];refine sC (c1) ?_;simp only[g2,h3,h4,h5,ba,g0,bg,af,seval,iteOmega,toNatUp];refine sD (d1) ?_;refine sD (d2) ?_;refine sD (d0) ?_;refine bK d3 (by simp only[af,seval] <;> rfl) (.inl rfl) ?_;simp only[af,seval,iteOmega,toNatUp,ba,g0,bg];refine sD (d4) ?_;refine sD (d5) ?_;exact bu
       ·rw[if_pos h5] at e0;rw[vx e0 (by decide),e0];unfold cJ gF at *
        simp only[rz,ai,af,seval];refine sC (c1) ?_;simp only[g2,h3,h4,af,seval,iteOmega];exact bu
      ·have e:lw l algo up dn nonce=5:=by rw[e0,if_pos (.inr h4)]
       rw[vx e (by decide),e];unfold cJ gF at *
       simp only[rz,ai,af,seval];refine sC (c1) ?_;simp only[g2,h3,af,seval,iteOmega];exact bu
     ·have e:lw l algo up dn nonce=5:=by rw[e0,if_pos (.inl h3)]
      rw[vx e (by decide),e];unfold cJ gF at *
      simp only[rz,ai,af,seval];refine sC (c1) ?_;simp only[g2,af,seval,iteOmega];exact bu
  ·rw[decide_eq_false hr] at c1;have e:lw l algo up dn nonce=3:=if_neg hr;rw[vx e (by decide),e];unfold cJ gF at *
   simp only[rz,ai,af,seval];refine sD (c1) ?_;exact bu
set_option maxHeartbeats 6400000
def W6:aK:=⟨1,13,ae [aM 2,ak 3 0] (ae [oM 4 0,oO 5 (.bldSl false 1 1 ej [(0,(.t 4))]),aW 6 65 5,oO 7 (.call 75 [(kI 2),(.t 6)] none),oO 8 (.call 75 [(kI 0),(.k (.c .nil))] none),oO 9 (.bldSl false 2 3 (.agg [(.bool false),ej,(.sl [])]) [(0,(.t 7)),(1,(.t 8))]),aW 10 74 9,aB 11 10 0,aB 12 10 1,oM 2 11,oM 3 12] .ret),[(2,none),(3,none)]⟩
theorem alf:aI Tryz.prog {} Tryz.f84=some W6:=by kernel_rfl
theorem JS (G:au) (k:Int) (hk:0≤k∧k≤65535):aF Tryz.prog G 84 [.int .i64 k] (.tup [.c (.d (.sl ((kJ k).map bD))),.c (.d (.int .i64 0))]):=by
  refine aT Tryz.func84 alf rfl rfl ?_;have hs:dq [k]:=fun n hn=>by rw[aou.1 hn]; exact hk
  have c1:=tJ G [k] (by simp) hs;simp only[aos,aoA,zD] at c1;have c2:=na G 2 (bG [k]);have c3:=na G 0 [];have bl:(bG [k]).length=2:=iQ _;obtain⟨q1,q2⟩:=C9 (l:=[⟨true,2,bG [k]⟩,⟨true,0,[]⟩]) (by
    intro r hr;simp only[aoK,aqK,or_false] at hr;rcases hr with rfl | rfl
    ·exact jq (by decide) (by omega)
    ·exact jq (by decide) (by decide)) (by simp)
  have c4:=YA G [⟨true,2,bG [k]⟩,⟨true,0,[]⟩] (by simp) (by
    intro r hr;simp only[aoK,aqK,or_false] at hr;rcases hr with rfl | rfl
    ·dsimp only; omega
    ·simp)
  rw[q1,q2] at c4;have hR:kJ k=cg [⟨true,2,bG [k]⟩,⟨true,0,[]⟩]:=rfl;rw[← hR] at c4;simp only[aos,aoA,bw] at c4 c3;clear q1 q2 hR;generalize kJ k=R at *
  generalize bG [k]=B at *
  simp only[W6,ai,af,seval];refine sD (c1) ?_;refine sD (c2) ?_;refine sD (c3) ?_;refine sD (c4) ?_;exact bu
def pQ (ns:List (List UInt8)):Prop:=(∀ n∈ns,n.length=16)∧1≤ns.length∧ns.length≤8
instance (ns:List (List UInt8)):Decidable (pQ ns):=by unfold pQ; infer_instance
def wc (ns:List (List UInt8)) (i:Nat):St:=⟨bz [(0,.w (.c (.d (dH ns)))),(5,.w (.c (.d (dH ns)))),(6,.w (.c (.d (.int .i64 (ns.length:Int))))),(7,.w (.c (.d (.int .i64 (i:Int)))))],hL [],uL []⟩
def uR:bq := ae [aU .lss 8 7 6] (.seq (aw 8 .skip (.exit 0)) (.seq (.block 1 (ae [bW 9 1 5 7,aA 10 9,oM 4 10] (ae [oM 11 4,bc 12 11,am .neq 13 12 16] (aw 13 (ae [bH 2 false] .ret) .skip)))) (.reg [am .add 14 7 1,oM 7 14])))
def W7:aK:=⟨1,23,ae [bH 2 false] (.seq (ae [oM 5 0,bc 6 5,ak 7 0] (.block 0 (.loop uR))) (ae [oM 15 0,bc 16 15,am .geq 17 16 1,oM 18 17,bE 19 0 18 true,fB 20 19 18 true,cu .leq 21 20 8 18 true,dh 22 18 21,oM 2 22] .ret)),[(2,none)]⟩
theorem alg:aI Tryz.prog {} Tryz.f86=some W7:=by kernel_rfl
theorem ano (G:au) (ns:List (List UInt8)) (hn:ns.length≤1000000):aF Tryz.prog G 86 [dH ns] (.w (.c (.d (.bool (decide (pQ ns)))))):=by
  refine aT Tryz.func86 alg rfl rfl ?_;simp only[W7,ai,af,seval];refine bQ (wc ns) (fun i=>ns.length-i) (fun i=>i≤ns.length∧∀ n∈ns.take i,n.length=16) 0 ⟨aoy _,by rw[apJ]; exact fun n h=>by cases h⟩ ?_ ?_
  ·refine aV (fun _=>0) ?_ ?_ rfl rfl <;> simp only[wx,aH,seval] <;> first | rfl | exact⟨rfl,rfl⟩ | skip
  ·rintro i ⟨hi,hp⟩;by_cases hlt:i<ns.length
   ·have g:=Hg hlt;have hm:ns.getD i []∈ns:=by rw[aor,aon hlt]; exact aoS hlt
    have hs:=Lz hlt;generalize ns.getD i []=x at *
    by_cases h1:x.length=16
    ·have g1:((x.length:Int)=16)=True:=eq_true (by omega);have hn:∀ n∈ns.take (i+1),n.length=16:=by
       rw[hs];intro n q;rcases aoG.1 q with q | q
       ·exact hp n q
       ·rw[aou.1 q]; exact h1
     simp only[uR,wc,af,seval,iteOmega,toNatUp,ba,g,g1];refine bA (i+1) (by omega) ⟨by omega,hn⟩ (aV (fun i=>i) ?_ ?_ rfl rfl) <;> simp only[wx,aH,aY,seval] <;> first | rfl | exact⟨rfl,rfl⟩ | skip
    ·have g1:((x.length:Int)=16)=False:=eq_false (by omega);rw[decide_eq_false (fun q:pQ ns=>h1 (q.1 x hm))];simp only[uR,wc,af,seval,iteOmega,toNatUp,ba,g,g1];exact aZ
   ·rw[aot (by omega)] at hp;by_cases h1:1≤ns.length
    ·have g1:((ns.length:Int)≥1)=True:=eq_true (by omega);by_cases h2:ns.length≤8
     ·have g2:((ns.length:Int)≤8)=True:=eq_true (by omega);rw[decide_eq_true (show pQ ns from ⟨hp,h1,h2⟩)];simp only[uR,wc,af,seval,iteOmega,g1,g2];exact aZ
     ·have g2:((ns.length:Int)≤8)=False:=eq_false (by omega);rw[decide_eq_false (fun q:pQ ns=>h2 q.2.2)];simp only[uR,wc,af,seval,iteOmega,g1,g2];exact aZ
    ·have g1:((ns.length:Int)≥1)=False:=eq_false (by omega);rw[decide_eq_false (fun q:pQ ns=>h1 q.2.1)];simp only[uR,wc,af,seval,iteOmega,g1];exact aZ
def sL (p:gD):List Ek:=(if p.ho.size=0 then [] else [⟨true,6,p.ho.data.toList⟩])++(if p.pt=0 then [] else [⟨true,7,bG [p.pt]⟩])
theorem JU (p:gD):sL p++[⟨true,0,[]⟩]=lY p:=by unfold sL lY; rw[aoC]
def yy:aK:=⟨1,26,ae [cW 1 0,aM 2] (ae [aM 3] (.seq (ae [aO 4 2 1,aA 5 4,oO 6 (.bin .neq (.t 5) (.k (.c (.d (.str ⟨#[]⟩)))))] (aw 6 (.reg [oM 7 3,aO 8 2 1,aA 9 8,oO 10 (.s2b false (.t 9)),oO 11 (.call 75 [(kI 6),(.t 10)] none),oO 12 (.bldSl false 1 3 (.agg [(.bool false),ej,(.sl [])]) [(0,(.t 11))]),oO 13 (.app false 3 40 (.t 7) (.t 12)),oM 3 13]) .skip)) (.seq (ae [aO 14 3 1,aA 15 14,am .neq 16 15 0] (aw 16 (.reg [oM 17 3,aO 18 3 1,aA 19 18,oO 20 (.bldSl false 1 1 ej [(0,(.t 19))]),aW 21 65 20,oO 22 (.call 75 [(kI 7),(.t 21)] none),oO 23 (.bldSl false 1 3 (.agg [(.bool false),ej,(.sl [])]) [(0,(.t 22))]),oO 24 (.app false 3 40 (.t 17) (.t 23)),oM 3 24]) .skip)) (ae [oM 25 3,oM 2 25] .ret)))),[(2,none)]⟩
theorem alh:aI Tryz.prog {} Tryz.f88=some yy:=by kernel_rfl
theorem anp (G:au) (p:gD) (h:p.ho.size≤1000000) (hs:dq [p.pt]):aF Tryz.prog G 88 [jO p] (.w (.c (.d (.sl ((sL p).map bw))))):=by
  refine aT Tryz.func88 alh rfl rfl ?_;have c1:=na G 6 p.ho.data.toList;have c2:=tJ G [p.pt] (by simp) hs;simp only[aos,aoA,zD] at c2;have c3:=na G 7 (bG [p.pt]);have sd:p.ho.size≤maxLen:=by unfold maxLen; omega
  unfold jO sL;by_cases h1:p.ho.size=0
  ·have e1:=af6 h1;rw[if_pos h1];by_cases h2:p.pt=0
   ·have g2:=eq_true h2;rw[if_pos h2];simp only[yy,ai,af,seval,e1,g2];exact aZ
   ·have g2:=eq_false h2;rw[if_neg h2];simp only[yy,ai,bw,af,seval,e1,g2];refine sD (c2) ?_;refine sC (c3) ?_;simp only[cG,af,seval];exact aZ
  ·have e1:=af7 h1;rw[if_neg h1];by_cases h2:p.pt=0
   ·have g2:=eq_true h2;rw[if_pos h2];simp only[yy,ai,bw,af,seval,e1,sd];refine sC (c1) ?_;simp only[cG,g2,af,seval];exact aZ
   ·have g2:=eq_false h2;rw[if_neg h2];simp only[yy,ai,bw,af,seval,e1,sd];refine sC (c1) ?_;simp only[cG,g2,af,seval];refine sD (c2) ?_;refine sC (c3) ?_;simp only[cG,af,seval];exact aZ
def JV (r:List Fd) (c:Ch) (v a:Int) (ns:List (List UInt8)) (i:Nat):St:=⟨bz [(6,.w (.c (.rp [.sl (r.map bg)]))),(13,.w (.c (.own 1 3 0 (ju r c v a ns i).length))),(14,.w (.c (.d (.int .i64 a)))),(15,.w (.c (.ptr 2 1 0 0))),(66,.w (.c (.d (dH ns)))),(67,.w (.c (.d (.int .i64 (ns.length:Int))))),(68,.w (.c (.d (.int .i64 (i:Int)))))],
  hL [(1,.row 3 ((ju r c v a ns i).map bw)),(2,.box [.d (.sl ((cE c v a 0).map bD)),.d (.sl ((cE c v a 1).map bD))])],uL [1,2]⟩
def Gu:bq := ae [aU .lss 69 68 67] (.seq (aw 69 .skip (.exit 0)) (.seq (.block 1 (ae [bW 70 1 66 68,aA 71 70,oM 18 71] (ae [bn 73 1 6,oM 74 14,bn 75 2 15,oM 76 18,Kt 77 55 73 74 75 76,oM 72 77,aB 78 72 0,aB 79 72 1,oM 19 78,oM 20 79] (.reg [oM 80 13,oM 81 19,oO 82 (.build [cv,ah,.nil] [(1,1,(kI 5)),(2,1,(.t 81))]),oO 83 (.bldSl false 1 3 (.agg [(.bool false),ej,(.sl [])]) [(0,(.t 82))]),oO 84 (.app false 3 40 (.t 80) (.t 83)),oM 13 84])))) (.reg [am .add 85 68 1,oM 68 85])))
def CB:aK:=⟨5,87,ae [cW 5 0,cW 6 1,cW 7 2,aM 10] (ae [oM 22 3,oO 23 (.call 134 [(.t 22),(kI 1)] none),aO 24 0 5,aA 25 24,cd 26 133 23 25,oM 21 26,aB 27 21 0,aB 28 21 1,oM 11 27,oM 12 28] (.seq (ae [oM 29 12,dd 30 29] (aw 30 (ae [oO 31 (.call 75 [(kI 1),(.k (.c .nil))] none),oO 32 (.bldSl true 1 3 (.agg [(.bool false),ej,(.sl [])]) [(0,(.t 31))]),oM 10 32] .ret) .skip)) (ae [oM 33 11,oO 34 (.bldSl false 1 1 ej [(0,(.t 33))]),aW 35 65 34,oO 36 (.call 75 [(kI 1),(.t 35)] none),oO 37 (.bldSl true 1 3 (.agg [(.bool false),ej,(.sl [])]) [(0,(.t 36))]),oM 13 37] (ae [oM 39 3,oO 40 (.call 134 [(.t 39),(kI 4)] none),aO 41 1 5,aA 42 41,cd 43 133 40 42,oM 38 43,aB 44 38 0,aB 45 38 1,oM 14 44,oM 12 45] (.seq (ae [oM 46 12,dd 47 46] (aw 47 (ae [oM 48 13,oO 49 (.call 75 [(kI 4),(.k (.c .nil))] none),
 oO 50 (.bldSl false 1 3 (.agg [(.bool false),ej,(.sl [])]) [(0,(.t 49))]),oO 51 (.app false 3 40 (.t 48) (.t 50)),oM 10 51] .ret) .skip)) (ae [oM 52 13,oM 53 14,oO 54 (.bldSl false 1 1 ej [(0,(.t 53))]),aW 55 65 54,oO 56 (.call 75 [(kI 4),(.t 55)] none),oO 57 (.bldSl false 1 3 (.agg [(.bool false),ej,(.sl [])]) [(0,(.t 56))]),oO 58 (.app false 3 40 (.t 52) (.t 57)),oM 13 58] (ae [bn 60 6 7,oM 61 11,oM 62 14,fZ 63 27 60 61 62,oM 59 63,aB 64 59 0,aB 65 59 1,oO 15 (.alloc [.nil,.nil]),aS 2 15 64,oM 16 65] (.seq (ae [oM 66 4,bc 67 66,ak 68 0] (.block 0 (.loop Gu))) (ae [oM 86 13,oM 10 86] .ret))))))))),[(10,none)]⟩
theorem ali:aI Tryz.prog { own:=[32,37] } Tryz.f87=some CB:=by kernel_rfl
theorem anq (G:au) (hF:G.at 0=some (.ra (dW.map wD))) (hG:G.at 1=some (.ra (cy.map wD))) (p:gD) (r:List Fd) (c:Ch) (l:List Ek) (ns:List (List UInt8)) (h1:p.pr.length≤1000000) (h2:p.al.length≤1000000) (hr:r.length≤1000000) (hb:∀ r∈l,r.bo.length≤65535) (hn:ns.length≤8)
    (vC:eT c) (s1:dq p.pr) (s2:dq p.al):aF Tryz.prog G 87 [jO p,cJ r,bV c,dT l,dH ns] (.w (.c (.fr 3 ((iL p r c (cx l 1) (cx l 4) ns).map bw)))):=by
  refine aT Tryz.func87 ali rfl rfl ?_;have d1:=wb G l 1 fun r hr=>by have:=hb r hr; omega
  have d4:=wb G l 4 fun r hr=>by have:=hb r hr; omega
  have n1:(cx l 1).length≤65535:=apg (ym _) (vg hb 1);have n4:(cx l 4).length≤65535:=apg (ym _) (vg hb 4);have c1:=YE G (cx l 1) p.pr (by omega) h1;have c4:=YE G (cx l 4) p.al (by omega) h2;have k1:=na G 1 [];have k4:=na G 4 [];simp only[aoA] at k1 k4
  have hA:iL p r c (cx l 1) (cx l 4) ns=match gC (cx l 1) p.pr with
    | none=>[⟨true,1,[]⟩]
    | some v=>⟨true,1,bG [v]⟩::match gC (cx l 4) p.al with
      | none=>[⟨true,4,[]⟩]
      | some a=>⟨true,4,bG [a]⟩::jD r c v a ns:=rfl
  have i1:∀ v,gC (cx l 1) p.pr=some v→0≤v∧v≤65535:=fun v h=>s1 v (rE h).2
  have i4:∀ v,gC (cx l 4) p.al=some v→0≤v∧v≤65535:=fun v h=>s2 v (rE h).2
  generalize cx l 1=N1 at *
  generalize cx l 4=N4 at *
  rw[hA];clear hA;unfold jO cJ dT at *
  generalize eO l=E at *
  rcases hv:gC N1 p.pr with _ | v
  ·rw[hv] at c1;simp only[apP,aqf] at c1;unfold bV;simp only[CB,ai,bw,af,seval];refine sD (d1) ?_;refine sD (c1) ?_;refine sD (k1) ?_;exact iJ
  ·rw[hv] at c1;simp only[apx,ap3] at c1;have j1:=i1 v hv;have b1:=tJ G [v] (by simp) (fun n hn=>by rw[aou.1 hn]; exact j1);simp only[aos,aoA,zD] at b1;have q1:=na G 1 (bG [v]);rcases ha:gC N4 p.al with _ | a
   ·rw[ha] at c4;simp only[apP,aqf] at c4;dsimp only;generalize bG [v]=B1 at *
    unfold bV;simp only[CB,ai,bw,af,seval];refine sD (d1) ?_;refine sD (c1) ?_;refine sD (b1) ?_;refine sD (q1) ?_;refine sD (d4) ?_;refine sD (c4) ?_;refine sC (k4) ?_;simp only[cG,af,seval];exact iJ
   ·rw[ha] at c4;simp only[apx,ap3] at c4;have j4:=i4 a ha;have b4:=tJ G [a] (by simp) (fun n hn=>by rw[aou.1 hn]; exact j4);simp only[aos,aoA,zD] at b4;have q4:=na G 4 (bG [a]);have kz:=YG G hF hG c v a;rw[tG vC j1 j4] at kz;have cm:=fun n:List UInt8=>W5 G r a (cE c v a 0) (cE c v a 1) n (by omega)
    have y0:ju r c v a ns 0=[⟨true,1,bG [v]⟩,⟨true,4,bG [a]⟩]:=rfl;have ye:(⟨true,1,bG [v]⟩::⟨true,4,bG [a]⟩::jD r c v a ns:List Ek)=ju r c v a ns ns.length:=by unfold ju; rw[ao7]
    dsimp only;rw[ye];clear ye;unfold bV gF cJ at *
    simp only[CB,ai,af,seval];refine sD (d1) ?_;refine sD (c1) ?_;refine sD (b1) ?_;refine sD (q1) ?_;refine sD (d4) ?_;refine sD (c4) ?_;refine sD (b4) ?_;refine sC (q4) ?_;simp only[cG,af,seval];refine sD (kz) ?_;refine bQ (JV r c v a ns) (fun i=>ns.length-i) (fun i=>i≤ns.length) 0 (aoy _) ?_ ?_
    ·refine aV (fun i=>if i=1 then 464 else 120) ?_ ?_ rfl rfl <;> simp only[y0,bw,wx,aH,seval] <;> first | rfl | exact⟨rfl,rfl⟩ | skip
    ·intro i hi;have az:=uH (ju r c v a ns i);have yl:=Hh r c v a ns i;by_cases hlt:i<ns.length
     ·have g:=Hg hlt;have cm:=cm (ns.getD i []);have hs:=adG (r:=r) (c:=c) (v:=v) (a:=a) hlt;generalize ns.getD i []=x at *
      generalize hR:ju r c v a ns i=Rw at *
      generalize lw r a (cE c v a 0) (cE c v a 1) x=e at *
      simp only[Gu,JV,hR,af,seval,iteOmega,toNatUp,ba,g];refine sC (cm) ?_;simp only[cG,af,seval,iteOmega];refine bA (i+1) (by omega) (by omega) (aV (fun i=>if i=1 then 672 else 2) ?_ ?_ rfl rfl) <;> simp only[hs,aoH,bw,wx,aH,aY,seval] <;> first | rfl | exact⟨rfl,rfl⟩ | skip
     ·obtain rfl:i=ns.length:=by omega
      simp only[Gu,JV,af,seval,iteOmega];exact iJ
theorem ag7 {b:List UInt8} (hF:iz b):qW b↔uh (bp b)=true:=by
  unfold qW uh;rw[dQ,dQ,dQ,dQ,dQ];simp only[aoU,aqF,decide_eq_true_eq,decide_eq_false_iff_not];constructor
  ·rintro⟨_,h1,h2,h3⟩;omega
  ·rintro⟨h1,h2,h3,h4,h5⟩;exact⟨hF,by omega,by omega,by omega⟩
theorem JW {l:List Ek} {k:Int} (h:0<(a9 l k).length):jm l k=cx l k:=by
  unfold jm cx fG;rw[rq (by rw[dQ]; exact h)]
theorem alj {l:List Ek} (h:uh l=true):0<(a9 l 1).length∧0<(a9 l 4).length:=by
  unfold uh at h;simp only[aoU,decide_eq_true_eq] at h;exact⟨h.1,h.2.1⟩
theorem IP (ns:List (List UInt8)) (ho:ByteArray):sH ns ho↔pQ ns∧ho.size≤255:=⟨fun ⟨a,b,c,d⟩=>⟨⟨d,a,b⟩,c⟩,fun ⟨⟨d,a,b⟩,c⟩=>⟨a,b,c,d⟩⟩
theorem alk {p:gD} {r:List Fd} {c:Ch} {x y:List Int} {ns:List (List UInt8)} (vC:eT c) (vR:eU r) (s1:dq p.pr) (s2:dq p.al) (hn:pQ ns):(∀ e∈iL p r c x y ns,0≤e.ty∧e.ty≤7∧e.bo.length≤255)∧(iL p r c x y ns).length≤10:=by
  have l2:∀ v:Int,(bG [v]).length≤255:=fun v=>by rw[iQ]; exact (show 2*1≤255 by decide)
  have nl:=hn.2.2;unfold iL;rcases hv:gC x p.pr with _ | v
  ·refine⟨fun e he=>?_,by simp⟩;rw[aou.1 he];exact jq (by decide) (by decide)
  ·have j1:=s1 v (rE hv).2;rcases ha:gC y p.al with _ | a
   ·refine⟨fun e he=>?_,by simp⟩;simp only[aoK,aqK,or_false] at he;rcases he with rfl | rfl
    ·exact jq (by decide) (l2 v)
    ·exact jq (by decide) (by decide)
   ·have j4:=s2 a (rE ha).2;have e:(⟨true,1,bG [v]⟩::⟨true,4,bG [a]⟩::jD r c v a ns:List Ek)=ju r c v a ns ns.length:=by unfold ju; rw[ao7]
    dsimp only;rw[e];have yl:=Hh r c v a ns ns.length;exact⟨Wc vR (tG vC j1 j4) j4 hn.1,by omega⟩
def mW:aK:=⟨5,91,ae [cW 5 0,cW 6 1,cW 7 2,aM 10,ak 11 0] (.seq (ae [bn 15 6 7,aW 16 61 15,dd 17 16,oM 18 17,oG 19 (.load (.ag 1) (.t 6)) 18 false,oG 20 (.call 42 [(.t 19)] none) 18 false,fY 21 20 18 false,cC 22 18 21] (aw 22 (ae [aM 10,ak 11 3] .ret) .skip)) (.seq (ae [aO 23 0 5,aA 24 23,aW 25 64 24,dd 26 25,oM 27 26,dN 28 1 5 27 false,dz 29 28 27 false,oG 30 (.call 64 [(.t 29)] none) 27 false,fY 31 30 27 false,cC 32 27 31,oM 33 32,dN 34 3 5 33 false,dz 35 34 33 false,oG 36 (.bldSl false 1 1 ej [(0,(.t 35))]) 33 false,oG 37 (.call 64 [(.t 36)] none) 33 false,fY 38 37 33 false,cC 39 33 38] (aw 39 (ae [aM 10,ak 11 4] .ret) .skip)) (ae [oM 41 3,aW 42 82 41,oM 40 42,aB 43 40 0,aB 44 40 1,oM 12 43,oM 13 44] (.seq (.block 0 (ae [oM 46 13,dd 47 46,oM 48 47,
 bE 49 12 48 false,oG 50 (.call 83 [(.t 49)] none) 48 false,fY 51 50 48 false,cC 52 48 51,oM 45 52] (aw 45 (ae [oO 53 (.call 84 [(kI 1)] none),aB 54 53 0,aB 55 53 1,oM 10 54,oM 11 55] .ret) (ae [oM 57 12,aW 58 85 57,oM 56 58] (aw 56 (ae [oO 59 (.call 84 [(kI 0)] none),aB 60 59 0,aB 61 59 1,oM 10 60,oM 11 61] .ret) (ae [oM 63 4,aW 64 86 63,dd 65 64,oM 66 65,dN 67 2 5 66 false,dz 68 67 66 false,oG 69 (.lenStr (.t 68)) 66 false,cu .gtr 70 69 255 66 false,cC 71 66 70,oM 62 71] (aw 62 (ae [oO 72 (.call 84 [(kI 2)] none),aB 73 72 0,aB 74 72 1,oM 10 73,oM 11 74] .ret) .skip))))))) (ae [bn 75 4 5,bn 76 1 6,bn 77 6 7,oM 78 12,oM 79 4,oO 80 (.call 87 [(.t 75),(.t 76),(.t 77),(.t 78),(.t 79)] (some (0,3))),bn 81 4 5,aW 82 88 81,oO 83 (.app false 3 40 (.t 80) (.t 82)),oM 14 83]
 (ae [oM 84 14,oO 85 (.call 75 [(kI 0),(.k (.c .nil))] none),oO 86 (.bldSl false 1 3 (.agg [(.bool false),ej,(.sl [])]) [(0,(.t 85))]),oO 87 (.app false 3 40 (.t 84) (.t 86)),aW 88 74 87,aB 89 88 0,aB 90 88 1,oM 10 89,oM 11 90] .ret)))))),[(10,none),(11,none)]⟩
theorem alm:aI Tryz.prog { own:=[80] } Tryz.f36=some mW:=by kernel_rfl
theorem anr (G:au) (hF:G.at 0=some (.ra (dW.map wD))) (hG:G.at 1=some (.ra (cy.map wD))) (p:gD) (r:List Fd) (c:Ch) (b:List UInt8) (ns:List (List UInt8)) (h1:p.pr.length≤1000000) (h2:p.al.length≤1000000) (h3:p.ho.size≤1000000) (hr:r.length≤1000000) (hb:b.length≤1000000000) (hn:ns.length≤1000000) (hm:∀ n∈ns,n.length≤1000000):aF Tryz.prog G 36 [jO p,cJ r,bV c,.sl (b.map bD),.sl (ns.map fun l=>D.sl (l.map bD))] (.tup [.c (.d (.sl ((kK p r c b ns).map bD))),.c (.d (.int .i64 (iM p r c)))]):=by
  refine aT Tryz.func36 alm rfl rfl ?_;have c1:=vZ G hF hG c;have c2:=IM G r (by omega);have hno:∀ e,iM p r c=e→e≠0→kK p r c b ns=[]:=fun e q1 q2=>if_pos (by rw[q1]; exact q2)
  by_cases vC:eT c
  case neg =>
    rw[decide_eq_false vC] at c1;have E:iM p r c=3:=by unfold iM; rw[if_pos fun h=>vC h.1]
    rw[hno 3 E (by decide),E];unfold jO cJ bV at *
    simp only[mW,ai,af,seval];refine sD (c1) ?_;exact bu
  rw[decide_eq_true vC] at c1;by_cases vR:eU r
  case neg =>
    rw[decide_eq_false vR] at c2;have E:iM p r c=3:=by unfold iM; rw[if_pos fun h=>vR h.2]
    rw[hno 3 E (by decide),E];unfold jO cJ bV at *
    simp only[mW,ai,af,seval];refine sD (c1) ?_;refine sD (c2) ?_;exact bu
  rw[decide_eq_true vR] at c2;have c3:=v9 G p.pr (by omega);have c4:=v9 G p.al (by omega);have c5:=v9 G [p.pt] (by simp);simp only[aos,aoA,zD] at c5;by_cases s1:dq p.pr
  case neg =>
    rw[decide_eq_false s1] at c3;have E:iM p r c=4:=by unfold iM; rw[if_neg (not_not_intro ⟨vC,vR⟩),if_pos fun h=>s1 h.1]
    rw[hno 4 E (by decide),E];unfold jO cJ bV at *
    simp only[mW,ai,af,seval];refine sD (c1) ?_;refine sD (c2) ?_;refine sD (c3) ?_;exact bu
  rw[decide_eq_true s1] at c3;by_cases s2:dq p.al
  case neg =>
    rw[decide_eq_false s2] at c4;have E:iM p r c=4:=by unfold iM; rw[if_neg (not_not_intro ⟨vC,vR⟩),if_pos fun h=>s2 h.2.1]
    rw[hno 4 E (by decide),E];unfold jO cJ bV at *
    simp only[mW,ai,af,seval];refine sD (c1) ?_;refine sD (c2) ?_;refine sD (c3) ?_;refine sD (c4) ?_;exact bu
  rw[decide_eq_true s2] at c4;by_cases s3:dq [p.pt]
  case neg =>
    rw[decide_eq_false s3] at c5;have E:iM p r c=4:=by unfold iM; rw[if_neg (not_not_intro ⟨vC,vR⟩),if_pos fun h=>s3 h.2.2]
    rw[hno 4 E (by decide),E];unfold jO cJ bV at *
    simp only[mW,ai,af,seval];refine sD (c1) ?_;refine sD (c2) ?_;refine sD (c3) ?_;refine sD (c4) ?_;refine sD (c5) ?_;exact bu
  rw[decide_eq_true s3] at c5;have E:iM p r c=0:=by unfold iM; rw[if_neg (not_not_intro ⟨vC,vR⟩),if_neg (not_not_intro ⟨s1,s2,s3⟩)]
  have B0:kK p r c b ns=if ¬ qW b then kJ 1 else if lX (bp b)=true then kJ 0 else if ¬ sH ns p.ho then kJ 2 else cg (iL p r c (jm (bp b) 1) (jm (bp b) 4) ns++lY p):=if_neg (not_not_intro E)
  rw[E];clear hno E;have c6:=JR G b hb;have r1:=JS G 1 (by decide);have r0:=JS G 0 (by decide);have r2:=JS G 2 (by decide);by_cases hFm:iz b
  case neg =>
    rw[decide_eq_false hFm,show mF b=[] from if_neg hFm] at c6;rw[B0,if_pos fun q=>hFm q.1];generalize kJ 1=R at *
    generalize dT []=M at *
    clear B0 r0 r2;unfold jO cJ bV at *
    simp only[mW,ai,af,seval];refine sD (c1) ?_;refine sD (c2) ?_;refine sD (c3) ?_;refine sD (c4) ?_;refine sD (c5) ?_;refine sD (c6) ?_;refine sD (r1) ?_;exact bu
  rw[decide_eq_true hFm,show mF b=bp b from if_pos hFm] at c6;obtain⟨hbo,hl⟩:=Cn (b:=b);have hQ:=ag7 hFm;generalize bp b=L at *
  have c7:=anm G L;rcases hq:uh L with _ | _
  ·rw[hq] at c7;rw[B0,if_pos fun q=>by rw[hQ.1 q] at hq; cases hq];generalize kJ 1=R at *
   clear B0 r0 r2;unfold jO cJ bV dT at *
   generalize eO L=M at *
   simp only[mW,ai,af,seval];refine sD (c1) ?_;refine sD (c2) ?_;refine sD (c3) ?_;refine sD (c4) ?_;refine sD (c5) ?_;refine sD (c6) ?_;refine sD (c7) ?_;refine sD (r1) ?_;exact bu
  obtain⟨a1,a4⟩:=alj hq;rw[hq] at c7;rw[if_neg (not_not_intro (hQ.2 hq)),JW a1,JW a4] at B0;have c8:=YI G L (by omega);rcases hS:lX L with _ | _
  case true =>
    rw[hS] at c8;rw[B0,if_pos hS];generalize kJ 0=R at *
    clear B0 r1 r2;unfold jO cJ bV dT at *
    generalize eO L=M at *
    simp only[mW,ai,af,seval];refine sD (c1) ?_;refine sD (c2) ?_;refine sD (c3) ?_;refine sD (c4) ?_;refine sD (c5) ?_;refine sD (c6) ?_;refine sD (c7) ?_;refine sD (c8) ?_;refine sD (r0) ?_;exact bu
  rw[hS] at c8;rw[if_neg (by rw[hS]; decide)] at B0;have c9:=ano G ns hn;by_cases hN:pQ ns
  case neg =>
    rw[decide_eq_false hN] at c9;rw[B0,if_pos fun q=>hN ((IP _ _).1 q).1];generalize kJ 2=R at *
    clear B0 r0 r1;unfold jO cJ bV dT at *
    generalize eO L=M at *
    simp only[mW,ai,af,seval];refine sD (c1) ?_;refine sD (c2) ?_;refine sD (c3) ?_;refine sD (c4) ?_;refine sD (c5) ?_;refine sD (c6) ?_;refine sD (c7) ?_;refine sD (c8) ?_;refine sD (c9) ?_;refine sD (r2) ?_;exact bu
  rw[decide_eq_true hN] at c9;by_cases hH:p.ho.size≤255
  case neg =>
    have gH:((p.ho.size:Int)>255)=True:=eq_true (by omega);rw[B0,if_pos fun q=>hH ((IP _ _).1 q).2];generalize kJ 2=R at *
    clear B0 r0 r1;unfold jO cJ bV dT at *
    generalize eO L=M at *
    simp only[mW,ai,af,seval];refine sD (c1) ?_;refine sD (c2) ?_;refine sD (c3) ?_;refine sD (c4) ?_;refine sD (c5) ?_;refine sD (c6) ?_;refine sD (c7) ?_;refine sD (c8) ?_;refine sC (c9) ?_;simp only[gH,af,seval];refine sD (r2) ?_;exact bu
  have gH:((p.ho.size:Int)>255)=False:=eq_false (by omega);rw[if_neg (not_not_intro ((IP _ _).2 ⟨hN,hH⟩))] at B0;have ca:=anq G hF hG p r c L ns h1 h2 hr hbo hN.2.2 vC s1 s2;have cp:=anp G p h3 s3;have ce:=na G 0 [];obtain⟨ok,ol⟩:=alk (x:=cx L 1) (y:=cx L 4) vC vR s1 s2 hN;obtain⟨q1,q2⟩:=amD hH ok ol;have hl3:=Hi p;have cn:=Yz G (iL p r c (cx L 1) (cx L 4) ns++lY p) (by rw[aoq]; omega) (fun e he=>by
    have:e.bo.length≤255:=((aoG.1 he).elim (ok e) (Ip hH e)).2.2;omega)
  rw[q1,q2,← JU] at cn;rw[B0,← JU];have ap:=uH (sL p);have aq:=uH (iL p r c (cx L 1) (cx L 4) ns);have pl:(sL p).length≤3:=by have:=congrArg List.length (JU p); rw[aoq] at this; omega
  clear B0 r0 r1 r2 ok q1 q2;generalize cg (iL p r c (cx L 1) (cx L 4) ns++(sL p++[⟨true,0,[]⟩]))=R at *
  generalize iL p r c (cx L 1) (cx L 4) ns=X at *
  generalize sL p=Y at *
  simp only[aoH,aos,aoA,bw] at cn ce;unfold jO cJ bV dT dH at *
  generalize eO L=M at *
  have tk:∀ a:D,((X++Y).map bw++[a]).take (X.length+Y.length+1)=X.map bw++(Y.map bw++[a]):=fun a=>by rw[aot (by simp; omega),aoH,aoC]
  simp only[mW,ai,af,seval];refine sD (c1) ?_;refine sD (c2) ?_;refine sD (c3) ?_;refine sD (c4) ?_;refine sD (c5) ?_;refine sD (c6) ?_;refine sD (c7) ?_;refine sD (c8) ?_;refine sC (c9) ?_;simp only[gH,af,seval];refine sD (ca) ?_;refine sC (cp) ?_;simp only[cG,ap,af,seval,iteOmega];refine sC (ce) ?_;simp only[cG,af,seval,iteOmega];refine bK cn (by simp only[af,seval,iteOmega,tk] <;> rfl) (.inr (I9 _ _ _ _)) ?_;simp only[af,seval];exact bu
def pR (l:List Ek):Int:=if 8<(a9 l 5).length then 8 else if ¬ ∀ x∈oA l,x.length=104 then 3 else 0
def zA (l:List Ek):List (List UInt8):=if pR l=0 then oA l else []
def li (x:List Ek):List (List UInt8):=x.map (·.bo)
def Ds (x:List Ek) (i:Nat):St:=⟨bz [(4,.w (.c (.own 1 1 0 (li (x.take i)).length))),(12,.w (.c (.d (.sl (x.map bw))))),(13,.w (.c (.d (.int .i64 (x.length:Int))))),(14,.w (.c (.d (.int .i64 (i:Int)))))],hL [(1,.row 1 ((li (x.take i)).map fun l=>D.sl (l.map bD)))],uL [1]⟩
theorem abI (l:List (List UInt8)):fL 1 (l.map fun l=>D.sl (l.map bD))=true:=xz _ (fun _=>rfl) l
def AL:bq := ae [aU .lss 15 14 13] (.seq (aw 15 .skip (.exit 0)) (.seq (.block 1 (ae [bW 16 3 12 14,bn 17 3 16,oO 6 (.alloc [cv,ah,.nil]),aS 3 6 17] (.seq (ae [aO 18 2 6,aA 19 18,bc 20 19,am .neq 21 20 104] (aw 21 (ae [aM 2,ak 3 3] .ret) .skip)) (.reg [oM 22 4,aO 23 2 6,aA 24 23,oO 25 (.bldSl false 1 1 (.sl []) [(0,(.t 24))]),oO 26 (.app false 1 24 (.t 22) (.t 25)),oM 4 26])))) (.reg [am .add 27 14 1,oM 14 27])))
def IQ:aK:=⟨1,29,ae [aM 2,ak 3 0] (.seq (ae [oM 7 0,oO 8 (.mpGet .i64 (.sl []) false (.t 7) (kI 5)),bc 9 8,am .gtr 10 9 8] (aw 10 (ae [aM 2,ak 3 8] .ret) .skip)) (ae [oO 4 (.nilOwn 1)] (.seq (ae [oM 11 0,oO 12 (.mpGet .i64 (.sl []) false (.t 11) (kI 5)),bc 13 12,ak 14 0] (.block 0 (.loop AL))) (ae [oM 28 4,oM 2 28,ak 3 0] .ret)))),[(2,none),(3,none)]⟩
theorem aln:aI Tryz.prog { own:=[4] } Tryz.f136=some IQ:=by kernel_rfl
theorem ans (G:au) (l:List Ek) (hl:l.length≤1000000):aF Tryz.prog G 136 [dT l] (.tup [.c (.d (dH (zA l))),.c (.d (.int .i64 (pR l)))]):=by
  refine aT Tryz.func136 aln rfl rfl ?_;have hk:=IG l 5;have hE:pR l=if 8<(a9 l 5).length then 8 else if ¬ ∀ x∈li (a9 l 5),x.length=104 then 3 else 0:=rfl
  have hR:zA l=if pR l=0 then li (a9 l 5) else []:=rfl
  generalize pR l=e at *
  generalize zA l=R at *
  unfold dT;generalize eO l=E at *
  generalize a9 l 5=x at *
  by_cases h8:8<x.length
  ·rw[if_pos h8] at hE;subst hE;rw[if_neg (by decide)] at hR;subst hR;have g1:((x.length:Int)>8)=True:=eq_true (by omega);simp only[IQ,ai,dH,af,seval,fi,hk,g1];exact bu
  ·rw[if_neg h8] at hE;have g1:((x.length:Int)>8)=False:=eq_false (by omega);simp only[IQ,ai,dH,af,seval,fi,hk,g1];refine bQ (Ds x) (fun i=>x.length-i) (fun i=>i≤x.length∧∀ b∈li (x.take i),b.length=104) 0 ⟨aoy _,by rw[apJ]; exact fun n h=>by cases h⟩ ?_ ?_
   ·refine aV (fun _=>32) ?_ ?_ rfl rfl <;> simp only[wx,aH,seval] <;> first | rfl | exact⟨rfl,rfl⟩ | skip
   ·rintro i ⟨hi,hp⟩;have az:=abI (li (x.take i));have bl:(li (x.take i)).length=i:=by unfold li; rw[aox,aow]; omega
    by_cases hlt:i<x.length
    ·have g:=qC hlt;have hm:(x.getD i default).bo∈li x:=aoN.2 ⟨_,oI hlt,rfl⟩;have hs:li (x.take (i+1))=li (x.take i)++[(x.getD i default).bo]:=by unfold li; rw[zO hlt,aoH]; rfl
     generalize x.getD i default=r at *
     obtain⟨rc,rt,rb⟩:=r;dsimp only at *
     by_cases h1:rb.length=104
     ·have g2:((rb.length:Int)=104)=True:=eq_true (by omega);have hn:∀ b∈li (x.take (i+1)),b.length=104:=by
        rw[hs];intro n q;rcases aoG.1 q with q | q
        ·exact hp n q
        ·rw[aou.1 q]; exact h1
      generalize hB:li (x.take i)=B at *
      simp only[AL,Ds,hB,af,aa,seval,iteOmega,toNatUp,ba,g,bw,g2,cG];refine bA (i+1) (by omega) ⟨by omega,hn⟩ (aV (fun _=>208) ?_ ?_ rfl rfl) <;> simp only[hs,aoH,wx,aH,aY,seval] <;> first | rfl | exact⟨rfl,rfl⟩ | skip
     ·rw[if_pos fun q=>h1 (q rb hm)] at hE;subst hE;rw[if_neg (by decide)] at hR;subst hR;have g2:((rb.length:Int)=104)=False:=eq_false (by omega);generalize hB:li (x.take i)=B at *
      simp only[AL,Ds,hB,af,aa,seval,iteOmega,toNatUp,ba,g,bw,g2];exact bu
    ·obtain rfl:i=x.length:=by omega
     rw[ao7] at hp az bl;rw[if_neg (not_not_intro hp)] at hE;subst hE;rw[if_pos rfl] at hR;subst hR;simp only[AL,Ds,ao7,af,seval,iteOmega];exact bu
def fH (lo lm:List Ek) (k:Int):Option Int:=if (cx lm k).length=1∧(cx lm k).getD 0 0∈cx lo k then some ((cx lm k).getD 0 0) else none
def CC:aK:=⟨3,28,ae [ak 6 0,bH 7 false] (ae [oM 9 1,oM 10 2,cd 11 134 9 10,oM 8 11] (.seq (ae [oM 12 8,bc 13 12,am .neq 14 13 1,oM 15 14,bE 16 0 15 false,bE 17 2 15 false,oG 18 (.call 134 [(.t 16),(.t 17)] none) 15 false,bE 19 8 15 false,oG 20 (.idxSl 1 (.t 19) (kI 0)) 15 false,dz 21 20 15 false,oG 22 (.call 163 [(.t 18),(.t 21)] none) 15 false,fY 23 22 15 false,cC 24 15 23] (aw 24 (ae [ak 6 0,bH 7 false] .ret) .skip)) (ae [oM 25 8,oO 26 (.idxSl 1 (.t 25) (kI 0)),aA 27 26,oM 6 27,bH 7 true] .ret))),[(6,none),(7,none)]⟩
theorem alo:aI Tryz.prog {} Tryz.f135=some CC:=by kernel_rfl
theorem YK (G:au) (lo lm:List Ek) (k:Int) (ho:∀ r∈lo,r.bo.length≤65535) (hm:∀ r∈lm,r.bo.length≤65535):aF Tryz.prog G 135 [dT lo,dT lm,.int .i64 k] (.tup [.c (.d (.int .i64 ((fH lo lm k).getD 0))),.c (.d (.bool (fH lo lm k).isSome))]):=by
  refine aT Tryz.func135 alo rfl rfl ?_;have c1:=wb G lm k fun r hr=>by have:=hm r hr; omega
  have c2:=wb G lo k fun r hr=>by have:=ho r hr; omega
  have n2:(cx lo k).length≤65535:=apg (ym _) (vg ho k);have c3:=YD G (cx lo k) ((cx lm k).getD 0 0) (by omega);have hT:fH lo lm k=if (cx lm k).length=1∧(cx lm k).getD 0 0∈cx lo k then some ((cx lm k).getD 0 0) else none:=rfl
  unfold dT at *
  generalize fH lo lm k=T at *
  generalize cx lo k=O at *
  generalize hN:cx lm k=N at *
  generalize eO lo=E1 at *
  generalize eO lm=E2 at *
  by_cases h1:N.length=1
  ·have g1:((N.length:Int)=1)=True:=eq_true (by omega);have g:=wE (l:=N) (i:=0) (by omega);generalize N.getD 0 0=v at *
   by_cases h2:v∈O
   ·rw[if_pos ⟨h1,h2⟩] at hT;rw[decide_eq_true h2] at c3;subst hT;rw[apx,ap3];simp only[CC,ai,af,seval];refine sC (c1) ?_;simp only[g1,af,seval];refine sC (c2) ?_;simp only[ba,g,zD,af,seval,iteOmega,toNatUp];refine sC (c3) ?_;simp only[ba,g,zD,af,seval,iteOmega,toNatUp];exact bu
   ·rw[if_neg fun q=>h2 q.2] at hT;rw[decide_eq_false h2] at c3;subst hT;rw[apP,aqf];simp only[CC,ai,af,seval];refine sC (c1) ?_;simp only[g1,af,seval];refine sC (c2) ?_;simp only[ba,g,zD,af,seval,iteOmega,toNatUp];refine sD (c3) ?_;exact bu
  ·have g1:((N.length:Int)=1)=False:=eq_false (by omega);rw[if_neg fun q=>h1 q.1] at hT;subst hT;rw[apP,aqf];simp only[CC,ai,af,seval];refine sC (c1) ?_;simp only[g1,af,seval];exact bu
theorem ant {b:List UInt8} {v:Int} (h:v∈iK b):0≤v∧v≤65535:=by
  unfold iK at h;split at h
  ·rename_i he;unfold qU oz at h;obtain⟨i,hi,rfl⟩:=aoN.1 h;have:=apI.1 hi;exact ajk (by omega)
  ·cases h
theorem YL {lo lm:List Ek} {k v:Int} (h:fH lo lm k=some v):0≤v∧v≤65535:=by
  unfold fH at h;split at h
  ·rename_i q;cases h;exact ant q.2
  ·cases h
def q9 (lo lm:List Ek):Int:=if ¬ ((fH lo lm 1).isSome=true∧(fH lo lm 4).isSome=true∧0<(a9 lm 5).length) then 10 else pR lm
def xh (c:Ch) (lo lm:List Ek):wW:=if q9 lo lm=0 then ⟨(fH lo lm 1).getD 0,(fH lo lm 4).getD 0,cE c ((fH lo lm 1).getD 0) ((fH lo lm 4).getD 0) 0,cE c ((fH lo lm 1).getD 0) ((fH lo lm 4).getD 0) 1,oA lm,fG lm 6,(bi (fG lm 7):Int)⟩ else wX
theorem qv:nz wX=.agg [.int .i64 0,.int .i64 0,.sl [],.sl [],.sl [],.str ⟨#[]⟩,.int .i64 0]:=rfl
def vE:aK:=⟨3,68,ae [cW 3 0,oO 6 (.alloc [ah,ah,.nil,.nil,.nil,(.d (.str ⟨#[]⟩)),ah]),ak 7 0] (ae [oM 17 1,oM 18 2,oO 19 (.call 135 [(.t 17),(.t 18),(kI 1)] none),oM 16 19,aB 20 16 0,aB 21 16 1,oM 8 20,oM 9 21] (ae [oM 23 1,oM 24 2,oO 25 (.call 135 [(.t 23),(.t 24),(kI 4)] none),oM 22 25,aB 26 22 0,aB 27 22 1,oM 10 26,oM 11 27] (.seq (ae [oM 28 9,dd 29 28,oM 30 29,bE 31 11 30 false,fY 32 31 30 false,cC 33 30 32,oM 34 33,bE 35 2 34 false,oG 36 (.call 90 [(.t 35),(kI 5)] none) 34 false,fY 37 36 34 false,cC 38 34 37] (aw 38 (ae [oO 39 (.build [ah,ah,.nil,.nil,.nil,(.d (.str ⟨#[]⟩)),ah] []),aS 7 6 39,ak 7 10] .ret) .skip)) (ae [oM 41 2,aW 42 136 41,oM 40 42,aB 43 40 0,aB 44 40 1,oM 12 43,oM 13 44] (.seq (ae [oM 45 13,am .neq 46 45 0] (aw 46 (ae [oO 47 (.build [ah,ah,.nil,.nil,.nil,(.d (.str ⟨#[]⟩)),ah] []),
 oM 48 13,aS 7 6 47,oM 7 48] .ret) .skip)) (ae [bn 50 6 3,oM 51 8,oM 52 10,fZ 53 27 50 51 52,oM 49 53,aB 54 49 0,aB 55 49 1,oO 14 (.alloc [.nil,.nil]),aS 2 14 54,oM 15 55] (ae [oM 56 8,oM 57 10,bn 58 2 14,oM 59 12,oM 60 2,oO 61 (.call 137 [(.t 60),(kI 6)] none),oO 62 (.b2s (.t 61)),oM 63 2,oO 64 (.call 137 [(.t 63),(kI 7)] none),aW 65 81 64,oO 66 (.conv .i64 (.t 65)),oO 67 (.build [ah,ah,.nil,.nil,.nil,(.d (.str ⟨#[]⟩)),ah] [(0,1,(.t 56)),(1,1,(.t 57)),(2,2,(.t 58)),(4,1,(.t 59)),(5,1,(.t 62)),(6,1,(.t 66))]),aS 7 6 67,ak 7 0] .ret))))))),[(6,(some (.ag 7))),(7,none)]⟩
theorem alp:aI Tryz.prog {} Tryz.f91=some vE:=by kernel_rfl
theorem anu (G:au) (hF:G.at 0=some (.ra (dW.map wD))) (hG:G.at 1=some (.ra (cy.map wD))) (c:Ch) (lo lm:List Ek) (vC:eT c) (ho:∀ r∈lo,r.bo.length≤65535) (hm:∀ r∈lm,r.bo.length≤65535) (hl:lm.length≤1000000) (h7:(fG lm 7).length≤2):aF Tryz.prog G 91 [bV c,dT lo,dT lm] (.tup [.c (.d (nz (xh c lo lm))),.c (.d (.int .i64 (q9 lo lm)))]):=by
  refine aT Tryz.func91 alp rfl rfl ?_;have c1:=YK G lo lm 1 ho hm;have c4:=YK G lo lm 4 ho hm;have c5:=rR G lm 5;have c6:=ans G lm hl;have b6:=JQ G lm 6;have b7:=JQ G lm 7;have hE:q9 lo lm=if ¬ ((fH lo lm 1).isSome=true∧(fH lo lm 4).isSome=true∧0<(a9 lm 5).length) then 10 else pR lm:=rfl
  have hT:xh c lo lm=if q9 lo lm=0 then ⟨(fH lo lm 1).getD 0,(fH lo lm 4).getD 0,cE c ((fH lo lm 1).getD 0) ((fH lo lm 4).getD 0) 0,cE c ((fH lo lm 1).getD 0) ((fH lo lm 4).getD 0) 1,oA lm,fG lm 6,(bi (fG lm 7):Int)⟩ else wX:=rfl
  have hCR:pR lm=0→zA lm=oA lm:=fun h=>if_pos h
  have j1:=fun v=>YL (lo:=lo) (lm:=lm) (k:=1) (v:=v)
  have j4:=fun v=>YL (lo:=lo) (lm:=lm) (k:=4) (v:=v)
  have gt:=ku G (fG lm 7) (by omega);have gb:bi (fG lm 7)<65536:=by
    rcases aoP (fG lm 7).length 2 with h | h
    ·match hx:fG lm 7,h with
     | [],_=>decide
     | [x],_=>have:=(jc 1 [x] rfl (by decide)).1; omega
    ·exact (jc 2 (fG lm 7) (by omega) (by decide)).1
  unfold dT at *
  generalize xh c lo lm=T at *
  generalize q9 lo lm=e at *
  generalize fH lo lm 1=t1 at *
  generalize fH lo lm 4=t4 at *
  generalize (a9 lm 5).length=n5 at *
  generalize pR lm=ce at *
  generalize zA lm=cR at *
  generalize oA lm=cL at *
  generalize bi (fG lm 7)=P7 at *
  generalize fG lm 6=B6 at *
  generalize fG lm 7=B7 at *
  generalize eO lo=E1 at *
  generalize eO lm=E2 at *
  have bad:e=10→T=wX:=fun h=>by rw[hT,if_neg (by rw[h]; decide)]
  rcases t1 with _ | v
  ·rw[if_pos (fun q=>by cases q.1)] at hE;rw[bad hE,hE,qv];simp only[apP,aqf] at c1;unfold bV;generalize t4.getD 0=w4 at *
   generalize t4.isSome=s4 at *
   simp only[vE,ai,af,seval];refine sD (c1) ?_;refine sD (c4) ?_;exact bu
  ·simp only[apx,ap3] at c1;rcases t4 with _ | a
   ·rw[if_pos (fun q=>by cases q.2.1)] at hE;rw[bad hE,hE,qv];simp only[apP,aqf] at c4;unfold bV;simp only[vE,ai,af,seval];refine sD (c1) ?_;refine sD (c4) ?_;exact bu
   ·simp only[apx,ap3] at c4;by_cases h5:0<n5
    ·rw[decide_eq_true h5] at c5;rw[if_neg (not_not_intro ⟨rfl,rfl,h5⟩)] at hE;subst hE;by_cases h0:e=0
     ·subst h0;rw[if_pos rfl] at hT;subst hT;rw[hCR rfl] at c6;have kz:=YG G hF hG c v a;rw[tG vC (j1 v rfl) (j4 a rfl)] at kz;simp only[apx];unfold nz dH bV gF at *
      generalize cE c v a 0=U at *
      generalize cE c v a 1=W at *
      simp only[vE,ai,af,seval];refine sD (c1) ?_;refine sD (c4) ?_;refine sD (c5) ?_;refine sD (c6) ?_;refine sD (kz) ?_;refine sC (b6) ?_;simp only[Aq,af,seval];refine sD (b7) ?_;refine sD (gt) ?_;exact bu
     ·have g0:=eq_false h0;rw[if_neg h0] at hT;subst hT;rw[qv];unfold dH bV at *
      generalize (cR.map fun l=>D.sl (l.map bD))=cc at *
      simp only[vE,ai,af,seval];refine sD (c1) ?_;refine sD (c4) ?_;refine sD (c5) ?_;refine sC (c6) ?_;simp only[g0,af,aa,seval];exact bu
    ·rw[decide_eq_false h5] at c5;rw[if_pos (fun q=>h5 q.2.2)] at hE;rw[bad hE,hE,qv];unfold bV;simp only[vE,ai,af,seval];refine sD (c1) ?_;refine sD (c4) ?_;refine sD (c5) ?_;exact bu
theorem alq {x y:List Int} (h:gg x y=0):cx (gB x y) 1=x∧cx (gB x y) 4=y:=by
  obtain⟨h1,h2,_⟩:=zb h;obtain⟨a1,a4,_⟩:=Ya x y;unfold cx fG;rw[a1,a4];exact⟨rn h1,rn h2⟩
theorem W8 {q:List UInt8} (h:nA q):cx (bp q) 1=mG q∧cx (bp q) 4=mH q:=by
  obtain⟨_,_,h3,h4⟩:=h;have h5:=(Jq h3).2.1;rw[h4] at h5;have:=alq h3;rw[← h5] at this;exact this
theorem ag8 {q:List UInt8} (hF:iz q):nA q↔(gg (cx (bp q) 1) (cx (bp q) 4)=0∧df (cx (bp q) 1) (cx (bp q) 4)=q):=by
  constructor
  ·intro h;obtain⟨e1,e2⟩:=W8 h;rw[e1,e2];exact⟨h.2.2.1,h.2.2.2⟩
  ·rintro⟨h1,h2⟩;have:=(Y9 h1).1;rw[h2] at this;exact this
def CE:aK:=⟨1,31,ae [oO 2 (.mv (.k (.c (.d (.mp .i64 []))))),bH 3 false] (ae [oM 9 0,aW 10 82 9,oM 8 10,aB 11 8 0,aB 12 8 1,oM 4 11,oM 5 12] (.seq (ae [oM 13 5,dd 14 13] (aw 14 (ae [oO 2 (.mv (.k (.c (.d (.mp .i64 []))))),bH 3 false] .ret) .skip)) (ae [oM 16 4,oO 17 (.call 134 [(.t 16),(kI 1)] none),oM 18 4,oO 19 (.call 134 [(.t 18),(kI 4)] none),cd 20 33 17 19,oM 15 20,aB 21 15 0,aB 22 15 1,oM 6 21,oM 7 22] (ae [oM 23 4,oM 24 7,am .eql 25 24 0,oM 26 25,bE 27 6 26 true,bE 28 0 26 true,oG 29 (.call 94 [(.t 27),(.t 28)] none) 26 true,dh 30 26 29,oM 2 23,oM 3 30] .ret)))),[(2,none),(3,none)]⟩
theorem alr:aI Tryz.prog {} Tryz.f89=some CE:=by kernel_rfl
theorem anv (G:au) (b:List UInt8) (hb:b.length≤1000000000):aF Tryz.prog G 89 [.sl (b.map bD)] (.tup [.c (.d (dT (mF b))),.c (.d (.bool (decide (nA b))))]):=by
  refine aT Tryz.func89 alr rfl rfl ?_;have c:=JR G b hb;by_cases hF:iz b
  ·have hQ:=ag8 hF;rw[decide_eq_true hF,show mF b=bp b from if_pos hF] at c;rw[show mF b=bp b from if_pos hF];obtain⟨hbo,hl⟩:=Cn (b:=b);generalize bp b=L at *
   have d1:=wb G L 1 fun r hr=>by have:=hbo r hr; omega
   have d4:=wb G L 4 fun r hr=>by have:=hbo r hr; omega
   have n1:(cx L 1).length≤65535:=apg (ym _) (vg hbo 1);have n4:(cx L 4).length≤65535:=apg (ym _) (vg hbo 4);have cq:=YC G (cx L 1) (cx L 4) (by omega) (by omega);have cs:=rD G (df (cx L 1) (cx L 4)) b;unfold dT at *
   generalize cx L 1=N1 at *
   generalize cx L 4=N4 at *
   generalize eO L=E at *
   by_cases h0:gg N1 N4=0
   ·rw[h0] at cq;have hd:decide (nA b)=(df N1 N4==b):=by
      by_cases h1:df N1 N4=b
      ·rw[decide_eq_true (hQ.2 ⟨h0,h1⟩),h1]; simp
      ·rw[decide_eq_false fun q=>h1 (hQ.1 q).2]; simp[h1]
    rw[hd];generalize (df N1 N4==b)=d at *
    generalize df N1 N4=R at *
    clear hQ hd;simp only[CE,ai,af,seval];refine sD (c) ?_;refine sD (d1) ?_;refine sD (d4) ?_;refine sD (cq) ?_;refine sD (cs) ?_;exact bu
   ·have g0:=eq_false h0;rw[decide_eq_false fun q=>h0 (hQ.1 q).1];generalize gg N1 N4=e at *
    generalize df N1 N4=R at *
    clear hQ;simp only[CE,ai,af,seval];refine sD (c) ?_;refine sD (d1) ?_;refine sD (d4) ?_;refine sC (cq) ?_;simp only[g0,af,seval];exact bu
  ·rw[decide_eq_false hF,show mF b=[] from if_neg hF,xX] at c;rw[decide_eq_false fun q:nA b=>hF q.1,show mF b=[] from if_neg hF,xX];simp only[CE,ai,af,seval];refine sD (c) ?_;exact bu
theorem W9 {b:List UInt8} (h:iz b):(a9 (bp b) 1).length≤1∧(a9 (bp b) 4).length≤1∧(a9 (bp b) 6).length≤1∧(a9 (bp b) 7).length≤1:=by
  obtain⟨_,⟨_,_,_,h4,h5,h6,h7⟩,_⟩:=h;rw[dQ] at h4 h5 h6 h7;exact⟨h4,h5,h6,h7⟩
theorem D7 {l:List Ek} {k:Int} (h:a9 l k=[]):fG l k=[]∧cx l k=[]:=by
  have:fG l k=[]:=by unfold fG; rw[h]; rfl
  exact⟨this,by unfold cx; rw[this]; rfl⟩
theorem YM {lo lm:List Ek} {k:Int} {x:List Int} (h:(a9 lm k).length≤1) (hx:cx lo k=x):i5 lm k x=fH lo lm k:=by
  unfold i5 fH;rw[hx,dQ];by_cases h1:(a9 lm k).length=1
  ·rw[if_pos h1,JW (by omega)]
  ·have h2:a9 lm k=[]:=ao3.1 (by omega);rw[if_neg h1,(D7 h2).2,if_neg (by simp)]
theorem als {l:List Ek} (h:(a9 l 6).length≤1):wY l=fG l 6:=by
  unfold wY;rw[dQ];by_cases h1:(a9 l 6).length=1
  ·rw[if_pos h1,rq (by rw[dQ]; omega)]; rfl
  ·rw[if_neg h1,(D7 (ao3.1 (by omega))).1]
theorem alt {l:List Ek} (h:(a9 l 7).length≤1):wZ l=(bi (fG l 7):Int):=by
  unfold wZ;rw[dQ];by_cases h1:(a9 l 7).length=1
  ·rw[if_pos h1,rq (by rw[dQ]; omega)]; rfl
  ·rw[if_neg h1,(D7 (ao3.1 (by omega))).1]; rfl
theorem hm7 {b:List UInt8} (h:iz b):(fG (bp b) 7).length≤2:=by
  obtain⟨_,_,_,h7⟩:=W9 h;rcases aoP 0 (a9 (bp b) 7).length with h1 | h1
  ·have hm:=apV.1 (oI h1);have:=(h.2.2 _ hm.1).2 (of_decide_eq_true hm.2);exact Nat.le_of_eq this
  ·rw[(D7 (ao3.1 (by omega))).1]; decide
theorem anw {c:Ch} {q b:List UInt8} (vC:eT c) (hq:nA q) (hF:iz b) (hS:lX (bp b)=false) (h2:¬ 0<(a9 (bp b) 2).length):iA c q b=q9 (bp q) (bp b)∧t9 c q b=xh c (bp q) (bp b):=by
  obtain⟨k1,k4,k6,k7⟩:=W9 hF;obtain⟨x1,x4⟩:=W8 hq;have o1:=YM (lo:=bp q) (lm:=bp b) k1 x1;have o4:=YM (lo:=bp q) (lm:=bp b) k4 x4;have e:iA c q b=q9 (bp q) (bp b):=by
    unfold iA q9 pR;rw[if_neg (not_not_intro vC),if_neg (not_not_intro hq),if_neg (not_not_intro hF),if_neg (by rw[hS]; decide),dQ,if_neg (by omega),o1,o4,dQ];by_cases h:(fH (bp q) (bp b) 1).isSome=true∧(fH (bp q) (bp b) 4).isSome=true∧0<(a9 (bp b) 5).length
    ·rw[if_neg (not_not_intro h),if_neg (not_not_intro ⟨h.1,h.2.1,by omega⟩)]
    ·rw[if_pos h,if_pos fun g=>h ⟨g.1,g.2.1,by omega⟩]
  refine⟨e,?_⟩;unfold t9 xh;rw[e,o1,o4,als k6,alt k7]
def tz:aK:=⟨3,43,ae [cW 3 0,oO 6 (.alloc [ah,ah,.nil,.nil,.nil,(.d (.str ⟨#[]⟩)),ah]),ak 7 0] (.seq (ae [bn 11 6 3,aW 12 61 11,dd 13 12] (aw 13 (ae [oO 14 (.build [ah,ah,.nil,.nil,.nil,(.d (.str ⟨#[]⟩)),ah] []),aS 7 6 14,ak 7 3] .ret) .skip)) (ae [oM 16 1,aW 17 89 16,oM 15 17,aB 18 15 0,aB 19 15 1,oM 8 18,oM 9 19] (.seq (ae [oM 20 9,dd 21 20] (aw 21 (ae [oO 22 (.build [ah,ah,.nil,.nil,.nil,(.d (.str ⟨#[]⟩)),ah] []),aS 7 6 22,ak 7 3] .ret) .skip)) (ae [oM 24 2,aW 25 82 24,oM 23 25,aB 26 23 0,aB 27 23 1,oM 10 26,oM 9 27] (.seq (ae [oM 28 9,dd 29 28] (aw 29 (ae [oO 30 (.build [ah,ah,.nil,.nil,.nil,(.d (.str ⟨#[]⟩)),ah] []),aS 7 6 30,ak 7 3] .ret) .skip)) (.seq (ae [oM 31 10,aW 32 85 31] (aw 32 (ae [oO 33 (.build [ah,ah,.nil,.nil,.nil,(.d (.str ⟨#[]⟩)),ah] []),
 aS 7 6 33,ak 7 11] .ret) .skip)) (.seq (ae [oM 34 10,oO 35 (.call 90 [(.t 34),(kI 2)] none)] (aw 35 (ae [oO 36 (.build [ah,ah,.nil,.nil,.nil,(.d (.str ⟨#[]⟩)),ah] []),aS 7 6 36,ak 7 7] .ret) .skip)) (ae [bn 37 6 3,oM 38 8,oM 39 10,fZ 40 91 37 38 39,aB 41 40 0,aB 42 40 1,aS 7 6 41,oM 7 42] .ret)))))))),[(6,(some (.ag 7))),(7,none)]⟩
theorem alu:aI Tryz.prog {} Tryz.f37=some tz:=by kernel_rfl
theorem anx (G:au) (hF:G.at 0=some (.ra (dW.map wD))) (hG:G.at 1=some (.ra (cy.map wD))) (c:Ch) (q b:List UInt8) (hq:q.length≤1000000000) (hb:b.length≤1000000000):aF Tryz.prog G 37 [bV c,.sl (q.map bD),.sl (b.map bD)] (.tup [.c (.d (nz (t9 c q b))),.c (.d (.int .i64 (iA c q b)))]):=by
  refine aT Tryz.func37 alu rfl rfl ?_;have c1:=vZ G hF hG c;have hno:∀ e,iA c q b=e→e≠0→t9 c q b=wX:=fun e h1 h2=>if_neg (by rw[h1]; exact h2)
  by_cases vC:eT c
  case neg =>
    rw[decide_eq_false vC] at c1;have E:iA c q b=3:=if_pos vC;rw[hno 3 E (by decide),E,qv];unfold bV at *
    simp only[tz,ai,af,seval];refine sD (c1) ?_;exact bu
  rw[decide_eq_true vC] at c1;have c2:=anv G q hq;by_cases hQ:nA q
  case neg =>
    rw[decide_eq_false hQ] at c2;have E:iA c q b=3:=by unfold iA; rw[if_neg (not_not_intro vC),if_pos hQ]
    rw[hno 3 E (by decide),E,qv];unfold bV dT at *
    simp only[tz,ai,af,seval];refine sD (c1) ?_;refine sD (c2) ?_;exact bu
  rw[decide_eq_true hQ,show mF q=bp q from if_pos hQ.1] at c2;have c3:=JR G b hb;by_cases hFm:iz b
  case neg =>
    rw[decide_eq_false hFm] at c3;have E:iA c q b=3:=by unfold iA; rw[if_neg (not_not_intro vC),if_neg (not_not_intro hQ),if_pos hFm]
    rw[hno 3 E (by decide),E,qv];unfold bV dT at *
    simp only[tz,ai,af,seval];refine sD (c1) ?_;refine sD (c2) ?_;refine sD (c3) ?_;exact bu
  rw[decide_eq_true hFm,show mF b=bp b from if_pos hFm] at c3;obtain⟨hbo,hl⟩:=Cn (b:=b);obtain⟨hbq,_⟩:=Cn (b:=q);have c4:=YI G (bp b) (by omega);rcases hS:lX (bp b) with _ | _
  case true =>
    rw[hS] at c4;have E:iA c q b=11:=by unfold iA; rw[if_neg (not_not_intro vC),if_neg (not_not_intro hQ),if_neg (not_not_intro hFm),if_pos hS]
    rw[hno 11 E (by decide),E,qv];unfold bV dT at *
    generalize eO (bp q)=E1 at *
    generalize eO (bp b)=E2 at *
    simp only[tz,ai,af,seval];refine sD (c1) ?_;refine sD (c2) ?_;refine sD (c3) ?_;refine sD (c4) ?_;exact bu
  rw[hS] at c4;have c5:=rR G (bp b) 2;by_cases h2:0<(a9 (bp b) 2).length
  ·rw[decide_eq_true h2] at c5;have E:iA c q b=7:=by unfold iA; rw[if_neg (not_not_intro vC),if_neg (not_not_intro hQ),if_neg (not_not_intro hFm),if_neg (by rw[hS]; decide),if_pos (by rw[dQ]; omega)]
   rw[hno 7 E (by decide),E,qv];unfold bV dT at *
   generalize eO (bp q)=E1 at *
   generalize eO (bp b)=E2 at *
   simp only[tz,ai,af,seval];refine sD (c1) ?_;refine sD (c2) ?_;refine sD (c3) ?_;refine sD (c4) ?_;refine sD (c5) ?_;exact bu
  ·rw[decide_eq_false h2] at c5;obtain⟨e1,e2⟩:=anw vC hQ hFm hS h2;rw[e1,e2];have c6:=anu G hF hG c (bp q) (bp b) vC hbq hbo (by omega) (hm7 hFm);generalize xh c (bp q) (bp b)=T at *
   generalize q9 (bp q) (bp b)=e at *
   unfold nz at *
   unfold bV dT at *
   generalize eO (bp q)=E1 at *
   generalize eO (bp b)=E2 at *
   simp only[tz,ai,af,seval];refine sD (c1) ?_;refine sD (c2) ?_;refine sD (c3) ?_;refine sD (c4) ?_;refine sD (c5) ?_;refine sD (c6) ?_;exact bu
theorem alv:gg [0] [15]=0∧(df [0] [15]).length≤100:=by
  have h:gg [0] [15]=0:=by decide
  have e:df [0] [15]=cg (gB [0] [15]):=if_pos h;refine⟨h,?_⟩;rw[e];have:(cg (gB [0] [15])).length≤3*(2+4):=yh (m:=2) fun e he=>by
    rcases aoK.1 he with rfl | he
    ·show (bG [0]).length≤2; rw[iQ]; exact aoz _
    ·rcases aoK.1 he with rfl | he
     ·show (bG [15]).length≤2; rw[iQ]; exact aoz _
     ·rw[aou.1 he]; exact aoy _
  omega
theorem yz (cl:Bool) (K:List UInt8) (n m:Int):bV (bU cl K n m)=.agg [.bool cl,.sl (K.map bD),.sl (((bU cl K 0 0).sk).map bD),.sl (((bU cl K 0 0).rk).map bD),.int .i64 n,.int .i64 m]:=rfl
theorem ag9 (l:List (List UInt8)):D.noU8 (.sl (l.map fun l=>D.sl (l.map bD)))=true:=by
  show (l.map _).all _=true
  rw[List.all_map,aoE];exact fun _ _=>rfl
theorem anz (l:List UInt8) (e:Int):V.byt (.tup [.c (.d (.sl (l.map bD))),.c (.d (.int .i64 e))])=true:=by
  have h:(l.map bD).all D.isU8=true:=by
    rw[List.all_map,aoE];exact fun _ _=>rfl
  show (((l.map bD).all D.isU8&&_)=true)
  rw[h]; rfl
theorem aha {p:gD} {r:List Fd} {c:Ch} {b:List UInt8} {ns:List (List UInt8)}:(kK p r c b ns).length≤4000:=by
  by_cases h0:iM p r c=0
  ·obtain⟨vC,vR,s1,s2,s3⟩:=Za h0;have rf:∀ k:Int,(kJ k).length≤4000:=fun k=>by
     have:(kJ k).length≤2*(2+4):=yh (m:=2) fun e he=>by
       rcases aoK.1 he with rfl | he
       ·show (bG [k]).length≤2; rw[iQ]; exact aoz _
       ·rw[aou.1 he]; exact aoy _
     omega
   unfold kK;rw[if_neg (not_not_intro h0)];by_cases h1:qW b
   ·rw[if_neg (not_not_intro h1)];split
    ·exact rf 0
    ·by_cases hn:sH ns p.ho
     ·rw[if_neg (not_not_intro hn)];have ok:(∀ e∈iL p r c (jm (bp b) 1) (jm (bp b) 4) ns,0≤e.ty∧e.ty≤7∧e.bo.length≤255)∧(iL p r c (jm (bp b) 1) (jm (bp b) 4) ns).length≤10:=by
        unfold iL;rcases hx:gC (jm (bp b) 1) p.pr with _ | v
        ·exact⟨fun e he=>(by rw[aou.1 he]; exact jq (by decide) (by decide)),show 1≤10 by decide⟩
        ·rcases hy:gC (jm (bp b) 4) p.al with _ | a
         ·refine⟨fun e he=>?_,show 2≤10 by decide⟩;rcases aoK.1 he with rfl | he
          ·exact jq (by decide) (by rw[iQ]; exact (show 2*1≤255 by decide))
          ·rw[aou.1 he]; exact jq (by decide) (by decide)
         ·have v2:=s1 _ (rE hx).2;have b2:=s2 _ (rE hy).2;have:=Wc (ns:=ns) vR (tG vC v2 b2) b2 hn.2.2.2;have e:ju r c v a ns ns.length=⟨true,1,bG [v]⟩::⟨true,4,bG [a]⟩::jD r c v a ns:=by unfold ju; rw[ao7]
          rw[e] at this;refine⟨this,?_⟩;have:=Hh r c v a ns ns.length;rw[e] at this;have h8:=hn.2.1
          show (⟨true,1,bG [v]⟩::⟨true,4,bG [a]⟩::jD r c v a ns:List Ek).length≤10
          omega
      have h9:=yh (m:=255) fun e he=>((aoG.1 he).elim (ok.1 e) (Ip hn.2.2.1 e)).2.2
      have h3:=Hi p;have h10:=ok.2;rw[aoq] at h9;omega
     ·rw[if_pos hn]; exact rf 2
   ·rw[if_pos h1]; exact rf 1
  ·rw[show kK p r c b ns=[] from if_pos h0]; exact aoy _
def tU:Nat→V
  | 0=>.w (.c .nil)
  | j+1=>.w (.c (.own 4 1 0 (j+1)))
def tV (s:Nat):Nat→List (Nat×Ob)
  | 0=>[]
  | j+1=>[(4,.row 1 ((fN s (j+1)).map fun l=>D.sl (l.map bD)))]
def Dt (s n:Nat) (R:List D) (K A1 A2 B1 B2:List UInt8) (j:Nat):St:=⟨bz [(0,.w (.c (.d (.int .i64 (s:Int))))),(1,.w (.c (.d (.int .i64 (n:Int))))),(5,.w (.c (.rp [.sl R]))),(6,.w (.c (.ptr 1 1 0 0))),(8,.w (.c (.ptr 2 1 0 0))),(9,.w (.c (.ptr 3 1 0 0))),(10,tU j),(11,.w (.c (.d (.int .i64 (j:Int)))))],
  hL ((1,.box [.d (.int .i64 0),.d (.int .i64 0),.nil,.nil,.nil,.d (.str ⟨#[]⟩),.d (.int .i64 0)])::(2,.box [.d (.bool true),.d (.sl (K.map bD)),.d (.sl (A1.map bD)),.d (.sl (A2.map bD)),.d (.int .i64 0),.d (.int .i64 0)])::(3,.box [.d (.bool false),.d (.sl (K.map bD)),.d (.sl (B1.map bD)),.d (.sl (B2.map bD)),.d (.int .i64 0),.d (.int .i64 0)])::tV s j),uL [1,2,3,4]⟩
def AM:bq := .seq (ae [oM 30 11,oM 31 1,aU .lss 32 30 31] (aw 32 .skip (.exit 0))) (.seq (.block 1 (.reg [oM 35 10,oM 36 0,oM 37 11,am .add 38 37 1,oO 39 (.bin .mul (kI 2000000) (.t 38)),aU .add 40 36 39,oO 41 (.call 13 [(.t 40),(kI 16)] none),oO 42 (.bldSl false 1 1 (.sl []) [(0,(.t 41))]),oO 43 (.app false 1 24 (.t 35) (.t 42)),oM 10 43])) (.reg [oM 33 11,am .add 34 33 1,oM 11 34]))
def Xa:aK:=⟨3,137,ae [cW 5 2,oO 6 (.alloc [ah,ah,.nil,.nil,.nil,(.d (.str ⟨#[]⟩)),ah]),bH 7 false] (ae [oM 26 0,aW 27 25 26,oM 25 27,aB 28 25 0,aB 29 25 1,oO 8 (.alloc [cv,.nil,.nil,.nil,ah,ah]),oO 9 (.alloc [cv,.nil,.nil,.nil,ah,ah]),aS 6 8 28,aS 6 9 29] (ae [aM 10] (.seq (ae [ak 11 0] (.block 0 (.loop AM))) (ae [oO 45 (.bldSl false 1 1 ej [(0,(kI 0))]),oO 46 (.bldSl false 1 1 ej [(0,(kI 15))]),cd 47 33 45 46,oM 44 47,aB 48 44 0,aB 49 44 1,oM 12 48,oM 13 49] (ae [bn 51 6 8,oM 52 12,oO 53 (.call 34 [(.t 51),(kI 0),(.t 52)] none),oM 50 53,aB 54 50 0,aB 55 50 1,aB 56 50 2,aS 6 8 54,oM 14 55,oM 15 56] (ae [bn 58 6 9,oM 59 14,cd 60 35 58 59,oM 57 60,aB 61 57 0,aB 62 57 1,aB 63 57 2,aB 64 57 3,aS 6 9 61,oM 16 62,oM 12 63,oM 17 64] (ae [oO 66 (.bldSl false 1 1 ej [(0,(kI 0))]),
 oO 67 (.bldSl false 1 1 ej [(0,(kI 15))]),oO 68 (.build [.nil,.nil,(.d (.str ⟨#[]⟩)),ah] [(0,1,(.t 66)),(1,1,(.t 67))]),bn 69 1 5,bn 70 6 9,oM 71 12,oM 72 10,oO 73 (.call 36 [(.t 68),(.t 69),(.t 70),(.t 71),(.t 72)] none),oM 65 73,aB 74 65 0,aB 75 65 1,oM 18 74,oM 19 75] (ae [bn 77 6 9,oM 78 18,oO 79 (.call 34 [(.t 77),(kI 0),(.t 78)] none),oM 76 79,aB 80 76 0,aB 81 76 1,aB 82 76 2,aS 6 9 80,oM 14 81,oM 20 82] (ae [bn 84 6 8,oM 85 14,cd 86 35 84 85,oM 83 86,aB 87 83 0,aB 88 83 1,aB 89 83 2,aB 90 83 3,aS 6 8 87,oM 21 88,oM 18 89,oM 22 90] (ae [bn 92 6 8,oM 93 12,oM 94 18,fZ 95 37 92 93 94,oM 91 95,aB 96 91 0,aB 97 91 1,oO 23 (.alloc [ah,ah,.nil,.nil,.nil,(.d (.str ⟨#[]⟩)),ah]),aS 7 23 96,oM 24 97] (ae [oO 98 (.loadX (.ag 7) (.t 23) [(.t 6)]),oM 99 13,am .eql 100 99 0,
 oM 101 100,bE 102 15 101 true,cu .eql 103 102 0 101 true,dh 104 101 103,oM 105 104,bE 106 17 105 true,cu .eql 107 106 0 105 true,dh 108 105 107,oM 109 108,bE 110 19 109 true,cu .eql 111 110 0 109 true,dh 112 109 111,oM 113 112,bE 114 20 113 true,cu .eql 115 114 0 113 true,dh 116 113 115,oM 117 116,bE 118 22 117 true,cu .eql 119 118 0 117 true,dh 120 117 119,oM 121 120,bE 122 24 121 true,cu .eql 123 122 0 121 true,dh 124 121 123,oM 125 124,dN 126 4 23 125 true,oG 127 (.loadX .sc (.t 126) [(.t 6)]) 125 true,fB 128 127 125 true,bE 129 1 125 true,sE .eql 130 128 129 125 true,dh 131 125 130,oM 132 131,dN 133 4 9 132 true,oG 134 (.loadX .sc (.t 133) [(.t 6)]) 132 true,cu .eql 135 134 1 132 true,dh 136 132 135,aS 7 6 98,oM 7 136] .ret))))))))))),[(6,(some (.ag 7))),(7,none)]⟩
theorem alw:aI Tryz.prog { lx:=[(98,[6]),(127,[6]),(134,[6])] } Tryz.f10=some Xa:=by kernel_rfl
theorem YN (G:au) (hF:G.at 0=some (.ra (dW.map wD))) (hG:G.at 1=some (.ra (cy.map wD))) (s t n:Nat) (hs:s<1000) (ht:t≤5) (h1:1≤n) (h8:n≤8):aF Tryz.prog G 10 [.int .i64 (s:Int),.int .i64 (n:Int),cJ (bS s (bd (s:Int) 32) t)] (.tup [.c (.d (nz (oB s t n))),.c (.d (.bool true))]):=by
  refine aT Tryz.func10 alw rfl rfl ?_;have c1:=amC G (s:Int);obtain⟨q0,ql⟩:=alv;have kl:=SL (s:Int);have hU:oB s t n=⟨0,15,cE (bU false (ly (s:Int)) 0 (0+1)) 0 15 0,cE (bU false (ly (s:Int)) 0 (0+1)) 0 15 1,(fN s n).map fun x=>dB (fW s (bd (s:Int) 32) t) 15 (cE (bU false (ly (s:Int)) 0 (0+1)) 0 15 0) (cE (bU false (ly (s:Int)) 0 (0+1)) 0 15 1) x,jP.ho.data.toList,jP.pt⟩:=rfl;rw[hU];clear hU;generalize ly (s:Int)=K at *
  have c2:=YC G [0] [15] (show (1:Nat)≤_ by decide) (show (1:Nat)≤_ by decide);rw[q0] at c2;have hz:(0:Int)≤0∧(0:Int)≤1099511627776:=by decide
  have hz1:(0:Int)≤0+1∧(0+1:Int)≤1099511627776:=by decide
  obtain⟨R1,⟨x1,x2,x3,x4⟩,y1,y2,y3,y4⟩:=Ss (cl:=true) (K:=K) (b:=df [0] [15]) (n:=0) (m:=0) (k:=0) kl (by decide) hz (by decide) (by omega);have c3:=Ye G hF hG (bU true K 0 0) 0 (df [0] [15]) (by omega);rw[x1,x2,x3] at c3;have c4:=Yf G hF hG (bU (!true) K 0 0) R1 (by omega);rw[y1,y2,y3,y4,Bool.not_true] at c4;have hR:=agM (s:=s) (K:=bd (s:Int) 32) (t:=t) (by omega) (y9 (cl:=false) (n:=0) (m:=0+1) kl hz hz1);have hn:sH (fN s n) jP.ho:=⟨by rw[sW]; exact h1,by rw[sW]; exact h8,by decide,Hu⟩
  have rl:=qb s (bd (s:Int) 32) t;have hv:=y9 (cl:=true) (n:=0+1) (m:=0+1) kl hz1 hz1;obtain⟨_,_,ag⟩:=agree (c':=bU true K (0+1) (0+1)) q0 hR hn hv rfl;obtain⟨a1,a2,_,_,kz⟩:=ag 0 15 (by decide) (by decide);have sl:=aha (p:=jP) (r:=bS s (bd (s:Int) 32) t) (c:=bU false K 0 (0+1)) (b:=df [0] [15]) (ns:=fN s n);have c5:=anr G hF hG jP (bS s (bd (s:Int) 32) t) (bU false K 0 (0+1)) (df [0] [15]) (fN s n) (by decide) (by decide) (by decide) (by omega) (by omega) (by rw[sW]; omega) (fun x hx=>by have:=Hu x hx; omega);rw[hR] at c5;obtain⟨R2,⟨z1,z2,z3,z4⟩,v1,v2,v3,v4⟩:=Ss (cl:=false) (K:=K) (b:=kK jP (bS s (bd (s:Int) 32) t) (bU false K 0 (0+1)) (df [0] [15]) (fN s n)) (n:=0) (m:=0+1) (k:=0) kl (by decide) hz1 (by decide) (by omega);have c6:=Ye G hF hG (bU false K 0 (0+1)) 0 (kK jP (bS s (bd (s:Int) 32) t) (bU false K 0 (0+1)) (df [0] [15]) (fN s n)) (by omega);rw[z1,z2,z3] at c6;have c7:=Yf G hF hG (bU (!false) K (0+1) 0) R2 (by omega);rw[v1,v2,v3,v4,Bool.not_false] at c7;have c8:=anx G hF hG (bU true K (0+1) (0+1)) (df [0] [15]) (kK jP (bS s (bd (s:Int) 32) t) (bU false K 0 (0+1)) (df [0] [15]) (fN s n)) (by omega) (by omega);rw[a1,a2] at c8;rw[P8] at c8;have gL:((((fN s n).map fun x=>dB (fW s (bd (s:Int) 32) t) 15 (cE (bU false K 0 (0+1)) 0 15 0) (cE (bU false K 0 (0+1)) 0 15 1) x).length:Int)=(n:Int))=True:=eq_true (by rw[aox,sW]);clear x1 x2 x3 y1 y2 y3 y4 z1 z2 z3 v1 v2 v3 v4 a1 a2 ag hR hn hv kz;unfold nz at c8 ⊢;generalize hCK:((fN s n).map fun x=>dB (fW s (bd (s:Int) 32) t) 15 (cE (bU false K 0 (0+1)) 0 15 0) (cE (bU false K 0 (0+1)) 0 15 1) x)=CK at *
  generalize kK jP (bS s (bd (s:Int) 32) t) (bU false K 0 (0+1)) (df [0] [15]) (fN s n)=S at *
  generalize cE (bU false K 0 (0+1)) 0 15 0=U at *
  generalize cE (bU false K 0 (0+1)) 0 15 1=W at *
  generalize df [0] [15]=Q at *
  generalize bS s (bd (s:Int) 32) t=ring at *
  rw[yz,yz] at c1;rw[yz,yz] at c3 c4 c6 c7;rw[yz] at c5 c8;unfold cJ jO at *
  simp only[aos,aoA,zD] at c2 c5;generalize hA1:(bU true K 0 0).sk=K1 at *
  generalize hA2:(bU true K 0 0).rk=K2 at *
  generalize hA3:(bU false K 0 0).sk=K3 at *
  generalize hA4:(bU false K 0 0).rk=K4 at *
  have eh:jP.ho=⟨#[]⟩:=rfl;have ep:jP.pt=0:=rfl;have epr:jP.pr=[0]:=rfl;have eal:jP.al=[15]:=rfl;rw[eh,ep] at c8 ⊢;rw[eh,ep,epr,eal] at c5;simp only[aos,aoA,zD] at c5;have et:(⟨((⟨#[]⟩:ByteArray).data.toList).toArray⟩:ByteArray)=⟨#[]⟩:=rfl;simp only[et] at c8 ⊢;clear hCK eh ep epr eal et;generalize hRD:ring.map bg=RD at *
  simp only[Xa,ai,af,seval];refine sD (c1) ?_;refine bQ (Dt s n RD K K1 K2 K3 K4) (fun j=>n-j) (fun j=>j≤n) 0 (aoy _) ?_ ?_
  ·refine aV (fun i=>if i=1 then 48 else if i=2 then 64 else if i=3 then 72 else 344) ?_ ?_ rfl rfl <;> simp only[tU,tV,wx,aH,seval] <;> first | rfl | exact⟨rfl,rfl⟩ | skip
  ·intro j hj;have hS:=akr s j;have hll:=sW s (j+1);have hlj:=sW s j;have az:=ma (fN s j);by_cases hlt:j<n
   ·have cB:=oJ G ((s+2000000*(j+1):Nat):Int) 16 (by decide);have ec:(s:Int)+2000000*((j:Int)+1)=((s+2000000*(j+1):Nat):Int):=by omega
    rw[show bd ((s+2000000*(j+1):Nat):Int) 16=zz s j from rfl] at cB;have gi:((j:Int)<(n:Int))=True:=eq_true (by omega);generalize zz s j=b at *
    clear c1 c2 c3 c4 c5 c6 c7 c8;rcases j with _ | j
    ·have e1:fN s (0+1)=[b]:=hS;simp only[AM,Dt,tU,tV,af,seval,iteOmega];refine sC (cB) ?_;simp only[cG,af,seval];refine bA (0+1) (by omega) (by omega) (aV (fun i=>if i=4 then 344 else i) ?_ ?_ rfl rfl) <;> simp only[tU,tV,e1,wx,aH,seval] <;> first | rfl | exact⟨rfl,rfl⟩ | skip
    ·simp only[AM,Dt,tU,tV,af,seval,iteOmega];refine sC (cB) ?_;simp only[cG,hlj,af,seval,iteOmega];refine bA (j+1+1) (by omega) (by omega) (aV (fun i=>if i=4 then 344 else i) ?_ ?_ rfl rfl) <;> simp only[tU,tV,hS,aoH,wx,aH,aY,seval] <;> first | rfl | exact⟨rfl,rfl⟩ | skip
   ·obtain rfl:j=n:=by omega
    have gi:((j:Int)<(j:Int))=False:=eq_false (by omega);have tn:((fN s j).map fun l=>D.sl (l.map bD)).take j=(fN s j).map fun l=>D.sl (l.map bD):=aot (by rw[aox,hlj]; exact aoz _)
    obtain⟨j,rfl⟩:∃ i,j=i+1:=⟨j-1,by omega⟩
    clear hS hll c1;rw[show ((j+1:Nat):Int)=(j:Int)+1 from rfl] at gL;simp only[AM,Dt,tU,tV,af,seval,iteOmega];refine sD (c2) ?_;refine sD (c3) ?_;refine sD (c4) ?_;refine ace c5 (by simp only[af,seval,iteOmega,tn]) (anz _ _) (by simp only[af,seval,vJ,V.hasOwn,C.isOwn,V.own1,ag9,Bool.true_or,Bool.false_or]) ?_;simp only[af,seval];refine sD (c6) ?_;refine sD (c7) ?_;refine sC (c8) ?_;simp only[gL,af,aa,seval];exact bu
def Xb:aK:=⟨2,37,ae [cW 2 0,oO 4 (.alloc [.nil,.nil,.nil,.nil,ah,ah]),ak 5 0] (.seq (ae [aO 6 2 2,bn 7 2 6,aW 8 38 7,dd 9 8] (aw 9 (ae [oO 10 (.build [.nil,.nil,.nil,.nil,ah,ah] []),aS 6 4 10,ak 5 5] .ret) .skip)) (.seq (ae [oM 11 1,am .lss 12 11 0] (aw 12 (ae [oO 13 (.build [.nil,.nil,.nil,.nil,ah,ah] []),aS 6 4 13,ak 5 4] .ret) .skip)) (.seq (ae [aO 14 4 2,aA 15 14,aW 16 39 15,dd 17 16] (aw 17 (ae [oO 18 (.build [.nil,.nil,.nil,.nil,ah,ah] []),aS 6 4 18,ak 5 3] .ret) .skip)) (.seq (ae [aO 19 4 2,aA 20 19,bc 21 20,am .gtr 22 21 8] (aw 22 (ae [oO 23 (.build [.nil,.nil,.nil,.nil,ah,ah] []),aS 6 4 23,ak 5 8] .ret) .skip)) (.seq (ae [aO 24 4 2,aA 25 24,bc 26 25,am .eql 27 26 0] (aw 27 (ae [oO 28 (.build [.nil,.nil,.nil,.nil,ah,ah] []),
 aS 6 4 28,ak 5 10] .ret) .skip)) (ae [aO 29 2 2,bn 30 2 29,oM 31 1,oO 32 (.build [.nil,.nil,.nil,.nil,ah,ah] [(0,2,(.t 30)),(4,1,(.t 31))]),oO 33 (.call 41 [(.t 32)] (some (2,1))),aO 34 4 2,aA 35 34,oO 36 (.callM 40 [(.t 33),(.t 35)]),aS 6 4 36,ak 5 0] .ret)))))),[(4,(some (.ag 6))),(5,none)]⟩
theorem alx:aI Tryz.prog { comp:=[(33,1002)],mt:=[36] } Tryz.f11=some Xb:=by kernel_rfl
theorem anA (G:au) (t:wW) (m:Int) (h1:t.up.length=32) (h2:t.dn.length=32) (hm:0≤m) (hA:gM t.ck=true) (hn:1≤t.ck.length) (h8:t.ck.length≤8):aF Tryz.prog G 11 [nz t,.int .i64 m] (.tup [.c (.d (eG ⟨t.up,t.dn,eK [] [] t.ck,[],m,0⟩)),.c (.d (.int .i64 0))]):=by
  refine aT Tryz.func11 alx rfl rfl ?_;have c1:=Yq G t.up t.dn;rw[decide_eq_true (show sK t.up t.dn from ⟨h1,h2⟩)] at c1;have c2:=Yr G t.ck (by omega);rw[hA] at c2;have a4:=oE.1 hA;have c3:=JI G ⟨t.up,t.dn,[],[],m,0⟩ (by show t.up.length≤_; omega) (by show t.dn.length≤_; omega) (aoy _) (fun c hc=>by cases hc) (aoy _);have c4:=Yv G ⟨t.up,t.dn,[],[],m,0⟩ t.ck (aoy _) (fun c hc=>by have:=a4 c hc; omega) (by omega);have az:=ma (eK [] [] t.ck);have g1:(m<0)=False:=eq_false (by omega);have g2:((t.ck.length:Int)>8)=False:=eq_false (by omega);have g3:((t.ck.length:Int)=0)=False:=eq_false (by omega);unfold Et at c3;unfold nz eG at *
  simp only[aoA] at c3;simp only[Xb,ai,af,seval];refine sC (c1) ?_;simp only[g1,af,seval];refine sC (c2) ?_;simp only[g2,g3,af,seval];refine sD (c3) ?_;refine pi [.mix (lB ⟨t.up,t.dn,[],[],m,0⟩ 264 0),.c (.d (.sl (nF t.ck)))] [(1,264),(3,1000)] c4 ?_ ?_ ?_ rfl rfl ?_
  ·simp only[lB,nF,af,seval] <;> rfl
  ·simp only[lB,af,seval,de,Dl] <;> rfl
  ·simp only[kD,nF,wx,seval,de] <;> rfl
  ·simp only[lB,nF,af,aa,seval,de,Dl];exact bu
theorem aly {l:List Fd} {id:Int} {i:Nat} (h:jY l id=some i):qZ l id=(i:Int):=by unfold qZ; rw[h]
theorem alz {l:List Fd} {id:Int} (h:jY l id=none):qZ l id=-1:=by unfold qZ; rw[h]
theorem alA {l:List Fd} {id:Int} {i:Nat} (h:jY l id=some i):i<l.length:=by
  unfold jY at h;rw[apU] at h;exact h.1
def s9:aK:=⟨2,63,ae [cW 2 0,ak 4 0,oO 5 (.alloc [.nil,.nil]),ak 6 0,ak 7 0] (.seq (ae [bn 11 1 2,aW 12 42 11,dd 13 12] (aw 13 (ae [oO 14 (.build [.nil,.nil] []),ak 4 0,aS 2 5 14,ak 6 0,ak 7 3] .ret) .skip)) (ae [oM 16 1,aW 17 106 16,oM 15 17,aB 18 15 0,aB 19 15 1,oO 8 (.alloc [ah]),ei 8 18,oM 7 19] (.seq (ae [oM 20 7,am .neq 21 20 0] (aw 21 (ae [oO 22 (.build [.nil,.nil] []),oM 23 7,ak 4 0,aS 2 5 22,ak 6 0,oM 7 23] .ret) .skip)) (ae [aO 24 0 2,aA 25 24,oO 26 (.closM 108 [] [(.t 8)]),cd 27 107 25 26,oM 6 27] (.seq (ae [oM 28 6,am .lss 29 28 0] (aw 29 (ae [oO 30 (.build [.nil,.nil] []),ak 4 0,aS 2 5 30,ak 6 0,ak 7 5] .ret) .skip)) (ae [aO 32 0 2,aA 33 32,oM 34 6,bW 35 2 33 34,aO 36 1 35,aA 37 36,oM 38 1,oO 39 (.slice 1 (.t 38) none (some (kI 4)) none),
 oM 40 1,oO 41 (.slice 1 (.t 40) (some (kI 4)) (some (kI 20)) none),oO 42 (.bldSl false 2 1 (.sl []) [(0,(.t 39)),(1,(.t 41))]),oM 43 1,oO 44 (.slice 1 (.t 43) (some (kI 20)) none none),fZ 45 69 37 42 44,oM 31 45,aB 46 31 0,aB 47 31 1,oM 9 46,oM 7 47] (.seq (ae [oM 48 7,am .neq 49 48 0] (aw 49 (ae [oO 50 (.build [.nil,.nil] []),ak 4 0,aS 2 5 50,ak 6 0,ak 7 6] .ret) .skip)) (ae [oM 52 9,aW 53 109 52,oM 51 53,aB 54 51 0,aB 55 51 1,aB 56 51 2,oM 4 54,aS 2 5 55,oM 10 56] (.seq (ae [oM 57 10,dd 58 57] (aw 58 (ae [oO 59 (.build [.nil,.nil] []),ak 4 0,aS 2 5 59,ak 6 0,ak 7 6] .ret) .skip)) (ae [oM 60 4,bn 61 2 5,oM 62 6,oM 4 60,aS 2 5 61,oM 6 62,ak 7 0] .ret)))))))))),[(4,none),(5,(some (.ag 2))),(6,none),(7,none)]⟩
theorem ahb:aI Tryz.prog { mt:=[26] } Tryz.f54=some s9:=by kernel_rfl
set_option maxHeartbeats 3200000 in
theorem Xc (G:au) (l:List Fd) (c:List UInt8) (hl:l.length≤9223372036854775807) (hcl:c.length≤9223372036854775807):aF Tryz.prog G 54 [cJ l,.sl (c.map bD)] (.tup [.c (.d (.int .i64 (ny l c).al)),.c (.d (gF (ny l c).up (ny l c).dn)),.c (.d (.int .i64 (ny l c).ag)),.c (.d (.int .i64 (gA l c)))]):=by
  refine aT Tryz.func54 ahb rfl rfl ?_;have c1:=IM G l hl;by_cases hr:eU l
  ·rw[decide_eq_true hr] at c1;have c2:=alc G c hcl;by_cases hc:c.length=104
   ·have ci:zu c=0:=if_neg (by omega);rw[ci] at c2;have c3:=ald G l 108 [.ref [.int .i64 (jC c)]] (jC c) hl (fun x=>ale G (jC c) x);have haz:=mO l;rcases hw:jY l (jC c) with _ | i
    ·have e:gA l c=5:=by unfold gA; rw[if_pos hr,if_neg (by omega),hw]
     rw[yk e (by decide),e];rw[alz hw] at c3;generalize jC c=n at *
     unfold cJ gF at *
     simp only[s9,ai,af,seval];refine sD (c1) ?_;refine sC (c2) ?_;simp only[gR,af,aa,seval];refine bK c3 (by simp only[af,seval] <;> rfl) (.inr rfl) ?_;simp only[af,aa,seval];exact tF (by simp only[af,seval] <;> rfl) (by simp only[af,seval] <;> rfl) (by simp only[af,seval] <;> rfl) (by simp only[af,seval] <;> rfl)
    ·have hi:=alA hw;have g:=lU hi;have ce:=af5 hr hc hw;obtain⟨⟨m1,m2,m3⟩,_⟩:=rF hr hi;rw[aly hw] at c3;have c4:=Jc G (l.getD i default).da [aG c 0 4,aG c 4 16] (c.drop 20) (by omega) (by simp) (fun x hx=>by simp at hx; rcases hx with rfl | rfl <;> (rw[fj (by omega)]; decide)) (by simp; omega);rw[show iG (l.getD i default).da [aG c 0 4,aG c 4 16] (c.drop 20)=pN (l.getD i default) c from rfl,show iX (l.getD i default).da [aG c 0 4,aG c 4 16] (c.drop 20)=iZ (l.getD i default) c from rfl] at c4;unfold dH at c4;simp only[aos,aoA] at c4;have t1:c.take 4=aG c 0 4:=rfl;have t2:(c.drop 4).take (20-4)=aG c 4 16:=rfl;have t3:(c.drop 20).take 84=c.drop 20:=aot (by simp; omega);have hok:tT (l.getD i default) c↔pN (l.getD i default) c=0∧(iZ (l.getD i default) c).getD 2 0=0∧(iZ (l.getD i default) c).getD 3 0=0:=Iff.rfl;have hR:gA l c=0→ny l c=⟨(bi (aG (iZ (l.getD i default) c) 0 2):Int),aG (iZ (l.getD i default) c) 4 32,aG (iZ (l.getD i default) c) 36 32,(i:Int)⟩:=fun h=>by
       unfold ny;rw[if_pos h,hw];rfl
     have hVl:=fun h=>afS (m:=l.getD i default) hc h
     have hi0:0≤(i:Int):=by omega
     generalize iZ (l.getD i default) c=V at *
     by_cases x0:pN (l.getD i default) c=0
     ·have hVl:=hVl x0;have c5:=alb G V hVl;rw[x0] at c4;by_cases y:V.getD 2 0=0∧V.getD 3 0=0
      ·have e0:gA l c=0:=by rw[ce,if_pos (hok.2 ⟨x0,y⟩)]
       rw[hR e0,e0];rw[if_pos y] at c5;clear hR ce e0 hok;generalize aG V 4 32=U1 at *
       generalize aG V 36 32=U2 at *
       generalize bi (aG V 0 2)=al at *
       generalize hx:l.getD i default=x at *
       generalize jC c=n at *
       generalize aG c 0 4=D0 at *
       generalize aG c 4 16=D1 at *
       unfold cJ gF at *
       simp only[s9,ai,af,seval];refine sD (c1) ?_;refine sC (c2) ?_;simp only[gR,af,aa,seval];refine bK c3 (by simp only[af,seval] <;> rfl) (.inr rfl) ?_;simp only[af,seval,iteOmega,toNatUp,ba,g,bg,hc,t1,t2,t3];refine bK c4 (by simp only[af,seval]) (.inl rfl) ?_;simp only[af,seval];refine sD (c5) ?_;exact tF (by simp only[af,seval] <;> rfl) (by simp only[af,seval] <;> rfl) (by simp only[af,seval] <;> rfl) (by simp only[af,seval] <;> rfl)
      ·have e6:gA l c=6:=by rw[ce,if_neg (fun h=>y (hok.1 h).2)]
       rw[yk e6 (by decide),e6];rw[if_neg y] at c5;clear hR ce e6 hok;generalize hx:l.getD i default=x at *
       generalize jC c=n at *
       generalize aG c 0 4=D0 at *
       generalize aG c 4 16=D1 at *
       unfold cJ gF at *
       simp only[s9,ai,af,seval];refine sD (c1) ?_;refine sC (c2) ?_;simp only[gR,af,aa,seval];refine bK c3 (by simp only[af,seval] <;> rfl) (.inr rfl) ?_;simp only[af,seval,iteOmega,toNatUp,ba,g,bg,hc,t1,t2,t3];refine bK c4 (by simp only[af,seval]) (.inl rfl) ?_;simp only[af,seval];refine sD (c5) ?_;exact tF (by simp only[af,seval] <;> rfl) (by simp only[af,seval] <;> rfl) (by simp only[af,seval] <;> rfl) (by simp only[af,seval] <;> rfl)
     ·have g1:(pN (l.getD i default) c=0)=False:=eq_false x0;have e6:gA l c=6:=by rw[ce,if_neg (fun h=>x0 (hok.1 h).1)]
      rw[yk e6 (by decide),e6];clear hR ce e6 hok;generalize pN (l.getD i default) c=xe at *
      generalize hx:l.getD i default=x at *
      generalize jC c=n at *
      generalize aG c 0 4=D0 at *
      generalize aG c 4 16=D1 at *
      unfold cJ gF at *
      simp only[s9,ai,af,seval];refine sD (c1) ?_;refine sC (c2) ?_;simp only[gR,af,aa,seval];refine bK c3 (by simp only[af,seval] <;> rfl) (.inr rfl) ?_;simp only[af,seval,iteOmega,toNatUp,ba,g,bg,hc,t1,t2,t3];refine bK c4 (by simp only[af,seval]) (.inl rfl) ?_;simp only[af,aa,seval,g1];exact tF (by simp only[af,seval] <;> rfl) (by simp only[af,seval] <;> rfl) (by simp only[af,seval] <;> rfl) (by simp only[af,seval] <;> rfl)
   ·have e:gA l c=3:=by unfold gA; rw[if_pos hr,if_pos hc]
    have ci:zu c=3:=if_pos hc;rw[ci] at c2;rw[yk e (by decide),e];unfold cJ gF at *
    simp only[s9,ai,af,seval];refine sD (c1) ?_;refine sD (c2) ?_;exact tF (by simp only[af,seval] <;> rfl) (by simp only[af,seval] <;> rfl) (by simp only[af,seval] <;> rfl) (by simp only[af,seval] <;> rfl)
  ·rw[decide_eq_false hr] at c1;have e:gA l c=3:=if_neg hr;rw[yk e (by decide),e];unfold cJ gF at *
   simp only[s9,ai,af,seval];refine sD (c1) ?_;exact tF (by simp only[af,seval] <;> rfl) (by simp only[af,seval] <;> rfl) (by simp only[af,seval] <;> rfl) (by simp only[af,seval] <;> rfl)
theorem ahc {s t:Nat} {K U W:List UInt8} {r:Int} {m:Nat} (h:s+t≤4294967295) (hU:U.length=32) (hW:W.length=32):∀ c∈ic (bS s K t) U W r m,c.length=104:=fun c hc=>by
  obtain⟨i,_,rfl⟩:=aoN.1 hc;rw[(Jy h (by decide) (by decide) hU hW (jE _ _)).2];exact Co h (by decide) (by decide) hU hW (jE _ _)
def sw (r:Int) (R:List D) (i:Nat):List (Nat×V):=[(2,.w (.c (.d (.int .i64 r)))),(3,.w (.c (.rp [.sl R]))),(11,.w (.c (.d (.sl [.int .i64 0])))),(12,.w (.c (.d (.int .i64 15)))),(13,.w (.c (.ptr 1 1 0 0))),(16,.w (.c (.ptr 2 1 0 0))),(19,.w (.c (.d (.int .i64 (i:Int)))))]
def sA (U W:List UInt8) (p:dr):List (Nat×Ob):=[(1,.box [.d (.sl (U.map bD)),.d (.sl (W.map bD))]),(2,.box (rQ p))]
def wd (r:Int) (R:List D) (U W:List UInt8) (p:dr) (C:Nat→List (List UInt8)):Nat→St
  | 0=>⟨bz ((18,.w (.c .nil))::sw r R 0),hL (sA U W p),uL [1,2]⟩
  | i+1=>⟨bz ((18,.w (.c (.own 3 2 0 (dt (C (i+1))).length)))::sw r R (i+1)),hL ((3,.row 2 ((dt (C (i+1))).map bg))::sA U W p),uL [1,2,3]⟩
def AO:bq := .seq (ae [oM 105 19,aO 106 13 16,aA 107 106,oO 108 (.call 53 [(.t 107),(kI 772)] none),bc 109 108,aU .leq 110 105 109] (aw 110 .skip (.exit 0))) (.seq (.block 1 (ae [bn 114 1 3,oM 115 12,bn 116 2 13,oM 117 2,oM 118 19,aU .add 119 117 118,oO 120 (.call 13 [(.t 119),(kI 16)] none),Kt 121 55 114 115 116 120,oM 113 121,aB 122 113 0,aB 123 113 1,oM 20 122,oM 21 123] (.seq (ae [oM 124 21,am .neq 125 124 0] (aw 125 (ae [aM 6,bH 7 false] .ret) .skip)) (.reg [oM 126 18,oM 127 20,oO 128 (.build [ah,.nil] [(0,1,(kI 516)),(1,1,(.t 127))]),oO 129 (.bldSl false 1 2 (.agg [ej,(.sl [])]) [(0,(.t 128))]),oO 130 (.app false 2 32 (.t 126) (.t 129)),oM 18 130])))) (.reg [oM 111 19,am .add 112 111 1,oM 19 112]))
def IR:aK:=⟨3,164,ae [cW 3 0,aM 6,bH 7 false] (ae [oM 27 1,aW 28 52 27,oM 26 28,aB 29 26 0,aB 30 26 1,oO 8 (.alloc [ah,ah,ah,ah,ah,ah,be,be,be,aQ,aQ,aQ,aQ,.nil,.nil,cv]),aS 16 8 29,oM 9 30] (ae [aO 31 13 8,aA 32 31,oO 33 (.call 53 [(.t 32),(kI 516)] none),oM 10 33] (ae [aO 34 13 8,aA 35 34,oO 36 (.call 53 [(.t 35),(kI 260)] none),oM 11 36] (.seq (ae [oM 37 9,am .neq 38 37 0,oM 39 38,bE 40 10 39 false,fB 41 40 39 false,cu .neq 42 41 1 39 false,cC 43 39 42,oM 44 43,bE 45 11 44 false,fB 46 45 44 false,cu .neq 47 46 1 44 false,cC 48 44 47,oM 49 48,bE 50 10 49 false,oG 51 (.idxSl 1 (.t 50) (kI 0)) 49 false,dz 52 51 49 false,cu .lss 53 52 0 49 false,cC 54 49 53,oM 55 54,bE 56 10 55 false,oG 57 (.idxSl 1 (.t 56) (kI 0)) 55 false,dz 58 57 55 false,
 dN 59 13 8 55 false,dz 60 59 55 false,fB 61 60 55 false,sE .geq 62 58 61 55 false,cC 63 55 62,oM 64 63,bE 65 11 64 false,oG 66 (.idxSl 1 (.t 65) (kI 0)) 64 false,dz 67 66 64 false,cu .lss 68 67 0 64 false,cC 69 64 68,oM 70 69,bE 71 11 70 false,oG 72 (.idxSl 1 (.t 71) (kI 0)) 70 false,dz 73 72 70 false,dN 74 13 8 70 false,dz 75 74 70 false,fB 76 75 70 false,sE .geq 77 73 76 70 false,cC 78 70 77] (aw 78 (ae [aM 6,bH 7 false] .ret) .skip)) (ae [bn 80 1 3,aO 81 13 8,aA 82 81,oM 83 10,oO 84 (.idxSl 1 (.t 83) (kI 0)),aA 85 84,bW 86 2 82 85,aO 87 1 86,aA 88 87,cd 89 54 80 88,oM 79 89,aB 90 79 0,aB 91 79 1,aB 92 79 2,aB 93 79 3,oO 13 (.alloc [.nil,.nil]),oM 12 90,aS 2 13 91,oM 14 92,oM 15 93] (.seq (ae [oM 94 15,am .neq 95 94 0] (aw 95 (ae [aM 6,bH 7 false]
 .ret) .skip)) (ae [aO 97 0 13,aA 98 97,oM 99 1,cd 100 28 98 99,oM 96 100,aB 101 96 0,aB 102 96 1,oO 16 (.alloc [ah,ah,ah,ah,ah,ah,be,be,be,aQ,aQ,aQ,aQ,.nil,.nil,cv]),aS 16 16 101,oM 17 102] (.seq (ae [oM 103 17,am .neq 104 103 0] (aw 104 (ae [aM 6,bH 7 false] .ret) .skip)) (ae [aM 18] (.seq (ae [ak 19 0] (.block 0 (.loop AO))) (ae [aO 132 0 16,bn 133 13 132,oO 134 (.call 56 [(.t 133),(kI 1),(.k (.c (.d (.int .u64 7)))),(.k (.c (.d (.int .u64 8))))] none),oM 131 134,aB 135 131 0,aB 136 131 1,oO 22 (.alloc [ah,ah,ah,ah,ah,ah,be,be,be,aQ,aQ,aQ,aQ]),aS 13 22 135,oM 23 136] (ae [aO 138 1 13,aA 139 138,bn 140 13 22,aO 141 13 16,aA 142 141,oM 143 11,oO 144 (.idxSl 1 (.t 143) (kI 0)),aA 145 144,bW 146 2 142 145,bn 147 2 146,oO 148 (.bldSl false 1 2 (.agg [ej,(.sl [])]) [(0,(.t 147))]),
 oM 149 18,oO 150 (.build [ah,ah,ah,ah,ah,ah,be,be,be,aQ,aQ,aQ,aQ,.nil,.nil,cv] [(0,13,(.t 140)),(13,1,(.t 148)),(14,1,(.t 149))]),oM 151 2,am .add 152 151 100,oO 153 (.call 13 [(.t 152),(kI 16)] none),fZ 154 50 139 150 153,oM 137 154,aB 155 137 0,aB 156 137 1,oM 24 155,oM 25 156] (ae [oM 157 24,oM 158 23,am .eql 159 158 0,oM 160 159,bE 161 25 160 true,cu .eql 162 161 0 160 true,dh 163 160 162,oM 6 157,oM 7 163] .ret))))))))))))),[(6,none),(7,none)]⟩
theorem Xd:aI Tryz.prog {} Tryz.f15=some IR:=by kernel_rfl
set_option maxHeartbeats 6400000 in
theorem anB (G:au) (s t k:Nat) (K U W n u nq:List UInt8) (τ w:Nat) (r:Int) (h:s+t≤4294967295) (hk:k≤t) (h4:t-k<4) (hU:U.length=32) (hW:W.length=32) (hn:n.length=16) (hu:u.length=32) (hq:nq.length=16) (hτ:τ<18446744073709551616) (hw:w≤7) (r0:0≤r) (r1:r≤1000000000000) :
    aF Tryz.prog G 15 [cJ (bS s K t),.sl ((ka U τ u (dB (fW s K k) 15 U W n) w nq).map bD),.int .i64 r] (.tup [.c (.d (.sl ((ke W τ u (ic (bS s K t) U W r (w+1)) (bd (r+100) 16)).map bD))),.c (.d (.bool true))]):=by
  refine aT Tryz.func15 Xd rfl rfl ?_;have hc:=Co (s:=s) (k:=k) (seed:=K) (algo:=15) (up:=U) (dn:=W) (n:=n) (by omega) (by decide) (by decide) hU hW hn;obtain⟨_,o1,_⟩:=SN (s:=s) (t:=t) (k:=k) (seed:=K) (algo:=15) (up:=U) (dn:=W) (n:=n) h hk (by decide) (by decide) hU hW hn;obtain⟨o2,o3⟩:=o1 h4;have rl:=qb s K t;have c4:=Xc G (bS s K t) (dB (fW s K k) 15 U W n) (by rw[rl]; omega) (by rw[hc]; decide);rw[o2,o3] at c4;dsimp only at c4;clear o1 o2 o3;generalize dB (fW s K k) 15 U W n=c at *
  obtain⟨ql,q1,q2,q3,d,q4⟩:=Cv (U:=U) (u:=u) (c:=c) (n:=nq) (t:=τ) (w:=w) hτ hU hu hc hq (by omega);have c1:=Is G (ka U τ u c w nq) (by omega);have c5:=Wv G U (ka U τ u c w nq) (by omega) (by omega);rw[q3,q4] at c1;rw[q1,q2] at c5;obtain⟨f1,f2,f3⟩:=Iw (u:=u) (c:=c) w;have L:=vf u c w;have c2:=rG G (cb u c w++[(⟨1028,d⟩:Fd)]) 516 (by rw[aoq,L,ao6]; omega);have c3:=rG G (cb u c w++[(⟨1028,d⟩:Fd)]) 260 (by rw[aoq,L,ao6]; omega);rw[pc (show (1028:Int)≠516 by decide),f1] at c2;rw[pc (show (1028:Int)≠260 by decide),f2] at c3;have c6:=rG G (cb u c w) 772 (by omega);have g0:(cb u c w++[(⟨1028,d⟩:Fd)])[0]?=some (⟨260,u⟩:Fd):=rfl;have g1:(cb u c w++[(⟨1028,d⟩:Fd)])[1]?=some (⟨516,c⟩:Fd):=rfl;have g2:(cb u c w)[0]?=some (⟨260,u⟩:Fd):=rfl;have gl:(cb u c w++[(⟨1028,d⟩:Fd)]).length=w+3:=by rw[aoq,L]; rfl
  have cR:=ajV G (fp τ) 1 7 8;rw[akt,Yt] at cR;have lN:(bd (r+100) 16).length=16:=jE _ _;have cN:=oJ G (r+100) 16 (by decide);have l104:=ahc (s:=s) (t:=t) (K:=K) (U:=U) (W:=W) (r:=r) (m:=w+1) h hU hW;obtain⟨pE,_⟩:=Yo (key:=W) (u:=u) (n:=bd (r+100) 16) (h:=lA τ) (cs:=ic (bS s K t) U W r (w+1)) hW hu lN (Yu τ) (JJ hτ) l104 (by rw[Hv]; omega);have cP:=Wu G W ⟨lA τ,[⟨260,u⟩],dt (ic (bS s K t) U W r (w+1)),false⟩ (bd (r+100) 16) (by omega) (JJ hτ) (show 1≤_ by decide) (fun f hf=>by
    rw[aou.1 hf]
    show u.length≤_; omega) (by show (dt _).length≤_; rw[Hr,Hv]; omega) (fun f hf=>by
    have:=l104 _ (Hs hf).2;omega) (by omega)
  rw[pE] at cP;have fl:=XV 1 (d7 W ⟨lA τ,[⟨260,u⟩],dt (ic (bS s K t) U W r (w+1)),false⟩ (bd (r+100) 16)) .i64 0;have hA:ke W τ u (ic (bS s K t) U W r (w+1)) (bd (r+100) 16)=d7 W ⟨lA τ,[⟨260,u⟩],dt (ic (bS s K t) U W r (w+1)),false⟩ (bd (r+100) 16):=rfl;rw[hA];clear hA;generalize hB:d7 W ⟨lA τ,[⟨260,u⟩],dt (ic (bS s K t) U W r (w+1)),false⟩ (bd (r+100) 16)=B at *
  generalize ka U τ u c w nq=Q at *
  generalize bd (r+100) 16=N at *
  have az1:=mO (cb u c w++[(⟨1028,d⟩:Fd)]);have az2:=mO (cb u c w);generalize hP2:cb u c w++[(⟨1028,d⟩:Fd)]=P2 at *
  generalize hP1:cb u c w=P1 at *
  have pC:∀ i,ic (bS s K t) U W r (i+1)=ic (bS s K t) U W r i++[mE (bS s K t) 15 U W (bd (r+(i:Int)) 16)]:=am3 _ _ _ _
  have mk:=fun i:Nat=>(Jy (s:=s) (t:=t) (seed:=K) (algo:=15) (up:=U) (dn:=W) (n:=bd (r+(i:Int)) 16) h (by decide) (by decide) hU hW (jE _ _)).1
  have cM:=fun x=>W5 G (bS s K t) 15 U W x (by rw[rl]; omega)
  have sl:=fun m=>Hv (bS s K t) U W r m
  generalize bS s K t=ring at *
  unfold cJ gF at *
  unfold dK at c1 c5 cP;unfold fD at cR;generalize bM P1 772=P7 at *
  have g7:(P7.map zD).length=w:=by rw[aox]; exact f3
  have gw:((P2.length:Int)≤0)=False:=eq_false (by omega);have gw1:((1:Int)≥(P2.length:Int))=False:=eq_false (by omega);have gw0:((0:Int)≥(P2.length:Int))=False:=eq_false (by omega);simp only[aos,aoA,zD,bg] at c2 c3 cP;simp only[IR,ai,af,seval];refine sD (c1) ?_;refine sD (c2) ?_;refine sC (c3) ?_;simp only[gw1,gw0,ba,g1,bg,af,seval,iteOmega,toNatUp];refine sD (c4) ?_;refine sD (c5) ?_;refine bQ (wd r (ring.map bg) U W ⟨fp τ,P1,[],true⟩ (ic ring U W r)) (fun i=>w+1-i) (fun i=>i≤w+1) 0 (aoy _) ?_ ?_
  ·refine aV (fun i=>if i=1 then 104 else 128) ?_ ?_ rfl rfl <;> simp only[sw,sA,rQ,wx,aH,seval] <;> first | rfl | exact⟨rfl,rfl⟩ | skip
  ·intro i hi;clear c1 c2 c3 c4 c5;have ki:=sl i;have tl:=Hr (ic ring U W r i);have az:=mO (dt (ic ring U W r i));by_cases hlt:i<w+1
   ·have gi:((i:Int)≤(P7.length:Int))=True:=eq_true (by omega);have cB:=oJ G (r+(i:Int)) 16 (by decide);have cM:=cM (bd (r+(i:Int)) 16);have gr:r+(i:Int)≤2000000000000:=by omega
    have hn:=pC i;rw[mk i] at cM;generalize bd (r+(i:Int)) 16=b at *
    generalize mE ring 15 U W b=x at *
    clear cR cP cN;have hs:dt (ic ring U W r (i+1))=dt (ic ring U W r i)++[⟨516,x⟩]:=by
      unfold dt;rw[hn,aoH]; rfl
    rcases i with _ | i
    ·have e1:dt (ic ring U W r (0+1))=[⟨516,x⟩]:=hs;simp only[AO,wd,sw,sA,rQ,af,seval];refine sC (c6) ?_;simp only[af,seval,iteOmega];refine sD (cB) ?_;refine sC (cM) ?_;simp only[cG,af,seval];refine bA (0+1) (by omega) (by omega) (aV (fun i=>if i=3 then 1040 else i) ?_ ?_ rfl rfl) <;> simp only[sw,sA,rQ,e1,bg,wx,aH,seval] <;> first | rfl | exact⟨rfl,rfl⟩ | skip
    ·simp only[AO,wd,sw,sA,rQ,af,seval,tl];refine sC (c6) ?_;simp only[af,seval,iteOmega];refine sD (cB) ?_;refine sC (cM) ?_;simp only[cG,tl,af,seval,iteOmega];refine bA (i+1+1) (by omega) (by omega) (aV (fun i=>if i=3 then 1040 else i) ?_ ?_ rfl rfl) <;> simp only[sw,sA,rQ,hs,bg,aoH,tl,wx,aH,aY,seval] <;> first | rfl | exact⟨rfl,rfl⟩ | skip
   ·obtain rfl:i=w+1:=by omega
    have gi:(((w:Int)+1)≤(P7.length:Int))=False:=eq_false (by omega);simp only[AO,wd,sw,sA,rQ,af,seval];refine sC (c6) ?_;simp only[gi,af,seval];refine sC (cR) ?_;simp only[ba,g2,bg,af,aa,seval,iteOmega,toNatUp];refine sD (cN) ?_;refine bK cP (by simp only[af,seval,iteOmega] <;> rfl) (.inr fl) ?_;simp only[af,seval];exact bu
theorem alB (G:au) (l:List Fd) (U c u nq:List UInt8) (τ w:Nat) (r:Int) (hl:l.length≤1000) (hE:gA l c≠0) (hU:U.length=32) (hc:c.length=104) (hu:u.length=32) (hq:nq.length=16) (hτ:τ<18446744073709551616) (hw:w≤7) :
    aF Tryz.prog G 15 [cJ l,.sl ((ka U τ u c w nq).map bD),.int .i64 r] (.tup [.c (.d (.sl [])),.c (.d (.bool false))]):=by
  refine aT Tryz.func15 Xd rfl rfl ?_;have c4:=Xc G l c (by omega) (by omega);obtain⟨ql,q1,q2,q3,d,q4⟩:=Cv (U:=U) (u:=u) (c:=c) (n:=nq) (t:=τ) (w:=w) hτ hU hu hc hq (by omega);have c1:=Is G (ka U τ u c w nq) (by omega);rw[q3,q4] at c1;obtain⟨f1,f2,f3⟩:=Iw (u:=u) (c:=c) w;have L:=vf u c w;have c2:=rG G (cb u c w++[(⟨1028,d⟩:Fd)]) 516 (by rw[aoq,L,ao6]; omega);have c3:=rG G (cb u c w++[(⟨1028,d⟩:Fd)]) 260 (by rw[aoq,L,ao6]; omega);rw[pc (show (1028:Int)≠516 by decide),f1] at c2;rw[pc (show (1028:Int)≠260 by decide),f2] at c3;have g0:(cb u c w++[(⟨1028,d⟩:Fd)])[0]?=some (⟨260,u⟩:Fd):=rfl;have g1:(cb u c w++[(⟨1028,d⟩:Fd)])[1]?=some (⟨516,c⟩:Fd):=rfl;have gl:(cb u c w++[(⟨1028,d⟩:Fd)]).length=w+3:=by rw[aoq,L]; rfl
  generalize ka U τ u c w nq=Q at *
  have az1:=mO (cb u c w++[(⟨1028,d⟩:Fd)]);generalize hP2:cb u c w++[(⟨1028,d⟩:Fd)]=P2 at *
  have gE:(gA l c=0)=False:=eq_false hE;generalize gA l c=e at *
  generalize ny l c=R at *
  unfold cJ gF at *
  unfold dK at c1;have gw1:((1:Int)≥(P2.length:Int))=False:=eq_false (by omega);have gw0:((0:Int)≥(P2.length:Int))=False:=eq_false (by omega);simp only[aos,aoA,zD] at c2 c3;simp only[IR,ai,af,seval];refine sD (c1) ?_;refine sD (c2) ?_;refine sC (c3) ?_;simp only[gw1,gw0,ba,g1,bg,af,seval,iteOmega,toNatUp];refine sC (c4) ?_;simp only[gE,af,aa,seval];exact bu
def kM (s o:Nat):List UInt8:=bd ((s+o:Nat):Int) 16
theorem qe (s o:Nat):(kM s o).length=16:=jE _ _
def du (s:Nat) (l:List (Nat×Nat)):List (List UInt8):=l.map fun p=>ja s p.1 (kM s p.2)
theorem ta (s:Nat) (l:List (Nat×Nat)):(du s l).length=l.length:=aox _
theorem HE {s:Nat} {l:List (Nat×Nat)} (h:∀ p∈l,s+p.1≤4294967295):∀ c∈du s l,c.length=104:=fun c hc=>by
  obtain⟨p,hp,rfl⟩:=aoN.1 hc;exact xW (h p hp) (qe _ _)
theorem CJ {s:Nat} {l:List (Nat×Nat)} (h:((l.map (·.2)).map (kM s)).Nodup):(du s l).Nodup:=by
  rw[aqd,apO,List.pairwise_map] at h;unfold du;rw[aqd,List.pairwise_map];exact h.imp fun hab=>aks (qe _ _) (qe _ _) hab
theorem HF (s:Nat) (a b:List (Nat×Nat)):du s (a++b)=du s a++du s b:=aoH
def xi (s:Nat) (la:Option (Nat×Nat)):List UInt8:=match la with | none=>[] | some p=>ja s p.1 (kM s p.2)
def eQ (s:Nat) (l:List (Nat×Nat)) (la:Option (Nat×Nat)) (m sn:Int):Jr:=⟨j9 s,gm s,du s l,xi s la,m,sn⟩
def zH (la:Option (Nat×Nat)):List (Nat×Nat):=match la with | none=>[] | some p=>[p]
def oD (s:Nat) (l:List (Nat×Nat)):Prop:=(((l).map (·.2)).map (kM s)).Nodup∧∀ p∈l,s+p.1≤4294967295
theorem vi {s:Nat} {a b:List (Nat×Nat)} (h:oD s b) (hs:a.Sublist b):oD s a:=⟨h.1.sublist ((hs.map _).map _),fun p hp=>h.2 p (hs.subset hp)⟩
theorem IZ {s:Nat} {l:List (Nat×Nat)} {la:Option (Nat×Nat)} {m sn:Int} (h:oD s (zH la++l)) (h8:l.length≤8) (hm:0≤m) (h0:0≤sn) (h1:sn≤1099511627776):fF (eQ s l la m sn):=by
  have hl:=vi h (List.sublist_append_right _ _);have h104:=HE hl.2;have nd:=CJ h.1;refine xV.2 ⟨⟨qd s,s7 s,by show (du s l).length≤8; rw[ta]; exact h8,?_,vz.2 ?_,hm,h0,h1⟩,h104,CJ hl.1⟩
  ·cases la with
   | none=>exact .inl rfl
   | some p=>exact .inr (xW (h.2 p (by simp[zH])) (qe _ _))
  ·cases la with
   | none=>exact fun hm=>by cases h104 _ hm
   | some p =>
     have nd:(ja s p.1 (kM s p.2)::du s l).Nodup:=nd;exact (ap2.1 nd).1
theorem Xk {s:Nat} {l:List (Nat×Nat)} {la:Option (Nat×Nat)} {m sn:Int} {n:List (Nat×Nat)} (h:oD s (zH la++(l++n))) (h8:l.length≤8):xf (eQ s l la m sn) (du s n)=eQ s ((l++n).take 8) la m sn:=by
  have nd:=CJ h.1;have h2:=vi h (List.sublist_append_right _ _);have h104:=HE (vi h2 (List.sublist_append_right _ _)).2;have hl:xi s la∉du s n:=by
    cases la with
    | none=>exact fun hm=>by cases h104 _ hm
    | some p =>
      have nd:(ja s p.1 (kM s p.2)::du s (l++n)).Nodup:=nd;rw[HF] at nd;exact fun hm=>(ap2.1 nd).1 (aoM _ hm)
  have e:=Ht (la:=xi s la) (cs:=du s n) (l:=du s l) (by rw[← HF]; exact CJ h2.1) hl (by rw[ta]; exact h8)
  show (⟨j9 s,gm s,eK (xi s la) (du s l) (du s n),xi s la,m,sn⟩:Jr)=⟨j9 s,gm s,du s ((l++n).take 8),xi s la,m,sn⟩
  rw[e,← HF];unfold du;rw[List.map_take]
def mu (t n:Nat):List (Nat×Nat):=(List.range n).map fun i=>(t,2000000*(i+1))
theorem adT (t n:Nat):(mu t n).length=n:=by unfold mu; rw[aox,apG]
theorem ahm (s t n:Nat):(fN s n).map (ja s t)=du s (mu t n):=by
  unfold fN mu du;rw[apO,apO];rfl
theorem alQ {s t n:Nat} (h:s+t≤4294967295):gM (oB s t n).ck=true:=oE.2 fun c hc=>by
  obtain⟨x,hx,rfl⟩:=aoN.1 (show c∈(fN s n).map (ja s t) from hc);exact xW h (Hu x hx)
theorem ahn {s t n:Nat} {m:Int} (h:oD s (mu t n)) (h8:n≤8):(⟨(oB s t n).up,(oB s t n).dn,eK [] [] (oB s t n).ck,[],m,0⟩:Jr)=eQ s (mu t n) none m 0:=by
  have e:=Xk (s:=s) (l:=[]) (la:=none) (m:=m) (sn:=0) (n:=mu t n) h (aoy _);rw[apa,aot (by rw[adT]; exact h8)] at e;rw[← e]
  show (⟨j9 s,gm s,eK [] [] ((fN s n).map (ja s t)),[],m,0⟩:Jr)=_
  rw[ahm]; rfl
def dY (t o m:Nat):List (Nat×Nat):=(List.range m).map fun i=>(t,o+i)
theorem Qp (t o m:Nat):(dY t o m).length=m:=by unfold dY; rw[aox,apG]
theorem alR {s t o m:Nat} (h:s+t≤4294967295):ic (bS s (bd (s:Int) 32) t) (j9 s) (gm s) ((s:Int)+(o:Int)) m=du s (dY t o m):=by
  unfold ic du dY;rw[apO];refine ao1 fun i _=>?_
  have e:(s:Int)+(o:Int)+(i:Int)=((s+(o+i):Nat):Int):=by omega
  rw[(Jy h (by decide) (by decide) (qd s) (s7 s) (jE _ _)).2,e];rfl
theorem Xl {s:Nat} {p:Nat×Nat} {l:List (Nat×Nat)} {la:Option (Nat×Nat)} {m sn:Int} {t:Nat} {u n:List UInt8} (v:fF (eQ s (p::l) la m sn)) (hs:sn≠1099511627776) (hu:u.length=32) (hn:n.length=16) :
    lz (eQ s (p::l) la m sn) u n=0∧Er (eQ s (p::l) la m sn) u n=eQ s l (some p) m (sn+1)∧Es (eQ s (p::l) la m sn) t u n=ka (j9 s) t u (ja s p.1 (kM s p.2)) (7-l.length) n∧fF (eQ s l (some p) m (sn+1)):=by
  obtain⟨tE,tv⟩:=Yp v (by show (du s (p::l)).length≠0; rw[ta]; exact Nat.succ_ne_zero _) hs;have e:lz (eQ s (p::l) la m sn) u n=0:=by unfold lz; rw[if_neg (fun h=>h.elim (· v) (fun h=>h.elim (· hu) (· hn))),tE]
  refine⟨e,if_pos e,(if_pos e).trans ?_,tv⟩
  show d7 (j9 s) (mK (eQ s (p::l) la m sn) t u) n=_
  unfold mK ka;rw[show (eQ s (p::l) la m sn).ck.length=l.length+1 from ta s (p::l),show 8-(l.length+1)=7-l.length by omega];rfl
theorem Xm {s t o w:Nat} {l:List (Nat×Nat)} {la:Option (Nat×Nat)} {m sn:Int} {τ:Nat} {u n:List UInt8} (v:fF (eQ s l la m sn)) (h:s+t≤4294967295) (hw:w≤8) (hτ:τ<18446744073709551616) (hu:u.length=32) (hn:n.length=16) (ok:oD s (zH la++(l++dY t o w))) (h8:l.length≤8) :
    (ke (gm s) τ u (du s (dY t o w)) n).length=124+108*w ∧
    i9 (eQ s l la m sn) u (ke (gm s) τ u (du s (dY t o w)) n)=0∧ue (eQ s l la m sn) u (ke (gm s) τ u (du s (dY t o w)) n)=eQ s ((l++dY t o w).take 8) la m sn ∧
    ug (eQ s l la m sn) u (ke (gm s) τ u (du s (dY t o w)) n)=⟨lA τ,[⟨260,u⟩],dt (du s (dY t o w)),true⟩∧∀ j x,fF j→j.dn=gm s→x.length=32→x≠u→i9 j x (ke (gm s) τ u (du s (dY t o w)) n)=7:=by
  have h104:=HE (s:=s) (l:=dY t o w) fun p hp=>by
    obtain⟨i,_,rfl⟩:=aoN.1 hp;exact h
  obtain⟨_,pl,o1,o2⟩:=Yo (key:=gm s) (u:=u) (n:=n) (h:=lA τ) (cs:=du s (dY t o w)) (s7 s) hu hn (Yu τ) (JJ hτ) h104 (by rw[ta,Qp]; exact hw);rw[ta,Qp] at pl;obtain⟨aE,aJ,aP,_⟩:=S6 (j:=eQ s l la m sn) (h:=lA τ) (cs:=du s (dY t o w)) v hu rfl h104 o1 o2;refine⟨pl,aE,aJ.trans (Xk ok h8),aP,fun j x vj dj hx hne=>?_⟩;obtain⟨_,_,_,aN⟩:=S6 (j:=j) (h:=lA τ) (cs:=du s (dY t o w)) vj hu rfl h104 (by rw[dj]; exact o1) (by rw[dj]; exact o2);exact aN x hx hne
theorem Xn (G:au) (s t k o:Nat) (n u nq:List UInt8) (τ w:Nat) (h:s+t≤4294967295) (hk:k≤t) (h4:t-k<4) (hn:n.length=16) (hu:u.length=32) (hq:nq.length=16) (hτ:τ<18446744073709551616) (hw:w≤7) (ho:s+o≤1000000000000) :
    aF Tryz.prog G 15 [cJ (bS s (bd (s:Int) 32) t),.sl ((ka (j9 s) τ u (ja s k n) w nq).map bD),.int .i64 ((s:Int)+(o:Int))] (.tup [.c (.d (.sl ((ke (gm s) τ u (du s (dY t o (w+1))) (bd ((s:Int)+(o:Int)+100) 16)).map bD))),.c (.d (.bool true))]):=by
  have:=anB G s t k (bd (s:Int) 32) (j9 s) (gm s) n u nq τ w ((s:Int)+(o:Int)) h hk h4 (qd s) (s7 s) hn hu hq hτ hw (by omega) (by omega);rw[alR h] at this;exact this
theorem aho {s k s2 t2:Nat} {K K2 U W n:List UInt8} (h:s+k≤4294967295) (h2:s2+t2≤4294967295) (hlt:s+k<s2) (hU:U.length=32) (hW:W.length=32) (hn:n.length=16):gA (bS s2 K2 t2) (dB (fW s K k) 15 U W n)≠0:=by
  obtain⟨⟨_,q⟩,_⟩:=SN (s:=s) (t:=k) (k:=k) (seed:=K) (algo:=15) (up:=U) (dn:=W) (n:=n) h (aoz _) (by decide) (by decide) hU hW hn;have hc:=Co (s:=s) (k:=k) (seed:=K) (algo:=15) (up:=U) (dn:=W) (n:=n) h (by decide) (by decide) hU hW hn;have e:jY (bS s2 K2 t2) (jC (dB (fW s K k) 15 U W n))=none:=by
    unfold jY;rw[aqg];intro f hf;obtain⟨i,hi,rfl⟩:=aoN.1 (show f∈(List.range (min 4 (t2+1))).map _ from hf);have hi:=apI.1 hi;refine decide_eq_false fun e=>?_
    rw[q] at e;have e:((s2+(t2-i):Nat):Int)=((s+k:Nat):Int):=e;omega
  unfold gA;rw[if_pos (yg h2),if_neg (by omega),e]
  show (5:Int)≠0
  decide
theorem Xo {s:Nat} {l:List (Nat×Nat)} (hs:s<1000) (h:(l.map (·.2)).Sublist Dv) (ht:∀ p∈l,p.1≤1000):oD s l:=⟨(anY hs).sublist (h.map _),fun p hp=>by have:=ht p hp; omega⟩
theorem Xp (G:au) (s t n:Nat) (m:Int) (h:s+t≤4294967295) (ok:oD s (mu t n)) (h1:1≤n) (h8:n≤8) (hm:0≤m):aF Tryz.prog G 11 [nz (oB s t n),.int .i64 m] (.tup [.c (.d (eG (eQ s (mu t n) none m 0))),.c (.d (.int .i64 0))]):=by
  have hl:(oB s t n).ck.length=n:=by
    show ((fN s n).map _).length=n
    rw[aox,sW]
  have:=anA G (oB s t n) m (qd s) (s7 s) hm (alQ h) (by omega) (by omega);rw[ahn ok h8] at this;exact this
def Xq:aK:=⟨0,84,ae [bH 0 false] (ae [oO 15 (.call 9 [(kI 1),(kI 0)] none),oO 1 (.alloc [.nil]),aS 1 1 15] (ae [bn 17 1 1,oO 18 (.call 10 [(kI 1),(kI 1),(.t 17)] none),oM 16 18,aB 19 16 0,aB 20 16 1,oO 2 (.alloc [ah,ah,.nil,.nil,.nil,(.d (.str ⟨#[]⟩)),ah]),aS 7 2 19,oM 3 20] (ae [bn 22 7 2,oO 23 (.call 11 [(.t 22),(kI 1)] none),oM 21 23,aB 24 21 0,aB 25 21 1,oO 4 (.alloc [.nil,.nil,.nil,.nil,ah,ah]),aS 6 4 24,oM 5 25] (ae [oO 26 (.call 13 [(kI 5),(kI 32)] none),oM 6 26] (ae [bn 28 6 4,oM 29 6,oO 30 (.call 13 [(kI 6),(kI 16)] none),oO 31 (.call 14 [(.t 28),(.k (.c (.d (.int .u64 9)))),(.t 29),(.t 30)] none),oM 27 31,aB 32 27 0,aB 33 27 1,aB 34 27 2,oO 7 (.alloc [.nil,.nil,.nil,.nil,ah,ah]),aS 6 7 32,oM 8 33,oM 9 34] (ae [bn 36 1 1,oM 37 8,oO 38 (.call 15 [(.t 36),(.t 37),(kI 1000)] none),
 oM 35 38,aB 39 35 0,aB 40 35 1,oM 10 39,oM 11 40] (ae [bn 42 6 7,oM 43 6,oM 44 10,fZ 45 16 42 43 44,oM 41 45,aB 46 41 0,aB 47 41 1,aB 48 41 2,oO 12 (.alloc [.nil,.nil,.nil,.nil,ah,ah]),oO 13 (.alloc [ah,ah,ah,ah,ah,ah,be,be,be,aQ,aQ,aQ,aQ,.nil,.nil,cv]),aS 6 12 46,aS 16 13 47,oM 14 48] (ae [oM 49 3,oM 50 49,bE 51 5 50 true,cu .eql 52 51 0 50 true,dh 53 50 52,oM 54 53,bE 55 9 54 true,cu .eql 56 55 0 54 true,dh 57 54 56,oM 58 57,bE 59 11 58 true,dh 60 58 59,oM 61 60,bE 62 14 61 true,cu .eql 63 62 0 61 true,dh 64 61 63,oM 65 64,dN 66 2 12 65 true,dz 67 66 65 true,fB 68 67 65 true,cu .eql 69 68 8 65 true,dh 70 65 69,oM 71 70,dN 72 0 13 71 true,dN 73 10 72 71 true,dz 74 73 71 true,oG 75 (.bin .eql (.t 74) (.k (.c (.d (.int .u64 9))))) 71 true,dh 76 71 75,
 oM 77 76,bE 78 10 77 true,fB 79 78 77 true,bE 80 8 77 true,fB 81 80 77 true,sE .eql 82 79 81 77 true,dh 83 77 82,oM 0 83] .ret)))))))),[(0,none)]⟩
theorem alS:aI Tryz.prog {} Tryz.f7=some Xq:=by kernel_rfl
set_option maxHeartbeats 3200000 in
theorem anZ (G:au) (hF:G.at 0=some (.ra (dW.map wD))) (hG:G.at 1=some (.ra (cy.map wD))):aF Tryz.prog G 7 [] (.w (.c (.d (.bool true)))):=by
  refine aT Tryz.func7 alS rfl rfl ?_;have c1:=Jv G 1 0 (by decide);rw[show (lF 0 6).toNat=0 from by decide] at c1;have c2:=YN G hF hG 1 0 1 (by decide) (by decide) (by decide) (by decide);have ok:oD 1 (mu 0 1++dY 0 999 8):=Xo (by decide) (by decide) (by decide);have ok0:=vi ok (List.sublist_append_left _ _);have c3:=Xp G 1 0 1 1 (by decide) ok0 (by decide) (by decide) (by decide);have lu:(bd 5 32).length=32:=jE _ _;have ln:(bd 6 16).length=16:=jE _ _;have c4:=oJ G 5 32 (by decide);have c5:=oJ G 6 16 (by decide);have b1:mu 0 1=(0,2000000)::[]:=rfl;rw[b1] at c3 ok;have v0:=IZ (s:=1) (l:=[(0,2000000)]) (la:=none) (m:=1) (sn:=0) ok0 (by decide) (by decide) (by decide) (by decide);obtain⟨qE,qJ,qB,v1⟩:=Xl (t:=9) (u:=bd 5 32) (n:=bd 6 16) v0 (by decide) lu ln;have c6:=Yw G (eQ 1 ((0,2000000)::[]) none 1 0) 9 (bd 5 32) (bd 6 16) (by decide);rw[qE,qJ,qB] at c6;obtain⟨ql,_⟩:=Cv (U:=j9 1) (u:=bd 5 32) (c:=ja 1 0 (kM 1 2000000)) (n:=bd 6 16) (t:=9) (w:=7) (by decide) (qd 1) lu (xW (by decide) (qe _ _)) ln (by decide);have c7:=Xn G 1 0 0 999 (kM 1 2000000) (bd 5 32) (bd 6 16) 9 7 (by decide) (aoz _) (by decide) (qe _ _) lu ln (by decide) (by decide) (by decide);obtain⟨al,aE,aJ,aP,_⟩:=Xm (s:=1) (t:=0) (o:=999) (w:=8) (l:=[]) (la:=some (0,2000000)) (m:=1) (sn:=0+1) (τ:=9) (u:=bd 5 32) (n:=bd (((1:Nat):Int)+((999:Nat):Int)+100) 16) v1 (by decide) (by decide) (by decide) lu (jE _ _) ok (by decide);have c8:=JN G (eQ 1 [] (some (0,2000000)) 1 (0+1)) (bd 5 32) (ke (gm 1) 9 (bd 5 32) (du 1 (dY 0 999 8)) (bd (((1:Nat):Int)+((999:Nat):Int)+100) 16)) (by omega);rw[aE,aJ,aP] at c8;have l8:(eQ 1 (([]++dY 0 999 8).take 8) (some (0,2000000)) 1 (0+1)).ck.length=8:=ta _ _;have e7:7-([]:List (Nat×Nat)).length=7:=rfl;rw[e7] at c6;have e8:7+1=8:=rfl;rw[e8] at c7;clear qE qJ qB aE aJ aP v0 v1 ok ok0 b1 e7 e8;generalize ke (gm 1) 9 (bd 5 32) (du 1 (dY 0 999 8)) (bd (((1:Nat):Int)+((999:Nat):Int)+100) 16)=B at *
  generalize ka (j9 1) 9 (bd 5 32) (ja 1 0 (kM 1 2000000)) 7 (bd 6 16)=Q at *
  generalize eQ 1 (([]++dY 0 999 8).take 8) (some (0,2000000)) 1 (0+1)=J2 at *
  generalize eQ 1 [] (some (0,2000000)) 1 (0+1)=J1 at *
  generalize eQ 1 ((0,2000000)::[]) none 1 0=J0 at *
  generalize bd 5 32=u at *
  generalize bd 6 16=n at *
  generalize oB 1 0 1=T at *
  generalize dt (du 1 (dY 0 999 8))=X at *
  generalize bS 1 (bd ((1:Nat):Int) 32) 0=ring at *
  rw[show ((1:Nat):Int)=1 from rfl] at c1 c2 c7;rw[show ((1:Int)+((999:Nat):Int))=1000 from rfl] at c7;rw[show ((9:Nat):Int)=9 from rfl] at c6;have g8:((J2.ck.length:Int)=8)=True:=eq_true (by omega);have gl:((B.length:Int)=(Q.length:Int))=True:=eq_true (by omega);unfold cJ eG nz at *
  unfold dK lA at c8;simp only[Xq,ai,af,seval];refine sD (c1) ?_;refine sD (c2) ?_;refine sD (c3) ?_;refine sD (c4) ?_;refine sD (c5) ?_;refine sD (c6) ?_;refine sD (c7) ?_;refine sC (c8) ?_;simp only[g8,gl,af,aa,seval];exact aZ
def Xr:aK:=⟨3,138,ae [bH 6 false] (ae [oM 28 0,oO 29 (.call 8 [(.t 28),(kI 1000)] none),oM 0 29] (ae [oM 30 0,oO 31 (.call 9 [(.t 30),(kI 2)] none),oO 7 (.alloc [.nil]),aS 1 7 31] (ae [oM 33 0,bn 34 1 7,oO 35 (.call 10 [(.t 33),(kI 2),(.t 34)] none),oM 32 35,aB 36 32 0,aB 37 32 1,oO 8 (.alloc [ah,ah,.nil,.nil,.nil,(.d (.str ⟨#[]⟩)),ah]),aS 7 8 36,oM 9 37] (ae [bn 39 7 8,oO 40 (.call 11 [(.t 39),(kI 1)] none),oM 38 40,aB 41 38 0,aB 42 38 1,oO 10 (.alloc [.nil,.nil,.nil,.nil,ah,ah]),aS 6 10 41,oM 11 42] (ae [oM 43 0,oM 44 2,am .rem 45 44 1000,aU .add 46 43 45,oO 47 (.call 13 [(.t 46),(kI 32)] none),oM 12 47] (ae [bn 49 6 10,oM 50 12,oM 51 0,oO 52 (.call 13 [(.t 51),(kI 16)] none),oO 53 (.call 14 [(.t 49),(.k (.c (.d (.int .u64 4)))),(.t 50),(.t 52)] none),oM 48 53,
 aB 54 48 0,aB 55 48 1,aB 56 48 2,oO 13 (.alloc [.nil,.nil,.nil,.nil,ah,ah]),aS 6 13 54,oM 14 55,oM 15 56] (ae [bn 58 1 7,oM 59 14,oM 60 0,am .add 61 60 77,fZ 62 15 58 59 61,oM 57 62,aB 63 57 0,aB 64 57 1,oM 16 63,oM 17 64] (ae [oM 66 0,oO 67 (.call 9 [(.t 66),(kI 2)] none),oM 68 14,oM 69 0,am .add 70 69 77,fZ 71 15 67 68 70,oM 65 71,aB 72 65 0,aB 73 65 1,oM 18 72,oM 19 73] (ae [oM 75 0,am .add 76 75 2000,oM 77 1,oO 78 (.call 8 [(.t 77),(kI 1000)] none),aU .add 79 76 78,oO 80 (.call 9 [(.t 79),(kI 1)] none),oM 81 14,oO 82 (.call 15 [(.t 80),(.t 81),(kI 1)] none),oM 74 82,aB 83 74 0,aB 84 74 1,oM 20 83,oM 21 84] (ae [bn 86 6 13,oM 87 12,oM 88 16,fZ 89 16 86 87 88,oM 85 89,aB 90 85 0,aB 91 85 1,aB 92 85 2,oO 22 (.alloc [.nil,.nil,.nil,.nil,ah,ah]),oO 23 (.alloc [ah,ah,ah,ah,ah,ah,be,be,be,aQ,aQ,aQ,aQ,.nil,.nil,cv]),
 aS 6 22 90,aS 16 23 91,oM 24 92] (ae [bn 94 6 22,oM 95 0,am .add 96 95 5000,oO 97 (.call 13 [(.t 96),(kI 32)] none),oM 98 18,fZ 99 16 94 97 98,oM 93 99,aB 100 93 0,aB 101 93 1,aB 102 93 2,oO 25 (.alloc [.nil,.nil,.nil,.nil,ah,ah]),oO 26 (.alloc [ah,ah,ah,ah,ah,ah,be,be,be,aQ,aQ,aQ,aQ,.nil,.nil,cv]),aS 6 25 100,aS 16 26 101,oM 27 102] (ae [oO 103 (.call 7 [] none),oM 104 103,bE 105 9 104 true,dh 106 104 105,oM 107 106,bE 108 11 107 true,cu .eql 109 108 0 107 true,dh 110 107 109,oM 111 110,bE 112 15 111 true,cu .eql 113 112 0 111 true,dh 114 111 113,oM 115 114,bE 116 17 115 true,dh 117 115 116,oM 118 117,bE 119 19 118 true,dh 120 118 119,oM 121 120,bE 122 21 121 true,fY 123 122 121 true,dh 124 121 123,oM 125 124,bE 126 16 125 true,bE 127 18 125 true,
 oG 128 (.call 17 [(.t 126),(.t 127)] none) 125 true,dh 129 125 128,oM 130 129,bE 131 24 130 true,cu .eql 132 131 0 130 true,dh 133 130 132,oM 134 133,bE 135 27 134 true,cu .eql 136 135 7 134 true,dh 137 134 136,oM 6 137] .ret)))))))))))),[(6,none)]⟩
theorem alZ:aI Tryz.prog {} Tryz.f4=some Xr:=by kernel_rfl
set_option maxHeartbeats 1600000 in
theorem an3 (G:au) (seed:Int) (hseed1:-9223372036854775808≤seed) (hseed2:seed≤9223372036854775807) (other:Int) (hother1:-9223372036854775808≤other) (hother2:other≤9223372036854775807) (n:Int) (hn1:-9223372036854775808≤n) (hn2:n≤9223372036854775807) (hF:G.at 0=some (.ra (dW.map wD))) (hG:G.at 1=some (.ra (cy.map wD))):aF Tryz.prog G 4 [.int .i64 seed,.int .i64 other,.int .i64 n] (.w (.c (.d (.bool true)))):=by
  refine aT Tryz.func4 alZ rfl rfl ?_;have rk:=anZ G hF hG;have e0:=AB G seed 1000 (by decide);obtain⟨r0,r1⟩:=EB seed 1000 (by decide);obtain⟨s,hs⟩:=ao5 r0;have hs:lF seed 1000=(s:Int):=hs;rw[hs] at e0 r0 r1;have e1:=AB G other 1000 (by decide);obtain⟨p0,p1⟩:=EB other 1000 (by decide);obtain⟨o,ho⟩:=ao5 p0;have ho:lF other 1000=(o:Int):=ho;rw[ho] at e1 p0 p1;have m1:-1000<Int.tmod n 1000:=by have:=Int.lt_tmod_of_pos n (show (0:Int)<1000 by decide); omega
  have m2:Int.tmod n 1000<1000:=Int.tmod_lt_of_pos n (by decide);have hne:=an2 (s:=s) (by omega) m1 m2;generalize hm:Int.tmod n 1000=m at *
  have c1:=Jv G s 2 (by omega);rw[show (lF 2 6).toNat=2 from by decide] at c1;have c2:=YN G hF hG s 2 2 (by omega) (by decide) (by decide) (by decide);have ok:oD s (mu 2 2++dY 2 77 7):=Xo (by omega) (by decide) (by decide);have ok0:=vi ok (List.sublist_append_left _ _);have c3:=Xp G s 2 2 1 (by omega) ok0 (by decide) (by decide) (by decide);have lu:(bd ((s:Int)+m) 32).length=32:=jE _ _;have lx:(bd ((s:Int)+5000) 32).length=32:=jE _ _;have ln:(bd (s:Int) 16).length=16:=jE _ _;have c4:=oJ G ((s:Int)+m) 32 (by decide);have c5:=oJ G (s:Int) 16 (by decide);have c9:=oJ G ((s:Int)+5000) 32 (by decide);have b1:mu 2 2=(2,2000000)::[(2,4000000)]:=rfl;rw[b1] at c3 ok ok0;have v0:=IZ (s:=s) (l:=(2,2000000)::[(2,4000000)]) (la:=none) (m:=1) (sn:=0) ok0 (by decide) (by decide) (by decide) (by decide);obtain⟨qE,qJ,qB,v1⟩:=Xl (t:=4) (u:=bd ((s:Int)+m) 32) (n:=bd (s:Int) 16) v0 (by decide) lu ln;have c6:=Yw G (eQ s ((2,2000000)::[(2,4000000)]) none 1 0) 4 (bd ((s:Int)+m) 32) (bd (s:Int) 16) (by decide);rw[qE,qJ,qB] at c6;have lc:(ja s 2 (kM s 2000000)).length=104:=xW (by omega) (qe _ _);obtain⟨ql,_⟩:=Cv (U:=j9 s) (u:=bd ((s:Int)+m) 32) (c:=ja s 2 (kM s 2000000)) (n:=bd (s:Int) 16) (t:=4) (w:=6) (by decide) (qd s) lu lc ln (by decide);have c7:=Xn G s 2 2 77 (kM s 2000000) (bd ((s:Int)+m) 32) (bd (s:Int) 16) 4 6 (by omega) (aoz _) (by decide) (qe _ _) lu ln (by decide) (by decide) (by omega);have cX:=Jv G (s+2000+o) 1 (by omega);rw[show (lF 1 6).toNat=1 from by decide] at cX;have rl:=qb (s+2000+o) (bd ((s+2000+o:Nat):Int) 32) 1;have cY:=alB G (bS (s+2000+o) (bd ((s+2000+o:Nat):Int) 32) 1) (j9 s) (ja s 2 (kM s 2000000)) (bd ((s:Int)+m) 32) (bd (s:Int) 16) 4 6 1 (by omega) (aho (by omega) (by omega) (by omega) (qd s) (s7 s) (qe _ _)) (qd s) lc lu ln (by decide) (by decide);obtain⟨al,aE,aJ,aP,aN⟩:=Xm (s:=s) (t:=2) (o:=77) (w:=7) (l:=[(2,4000000)]) (la:=some (2,2000000)) (m:=1) (sn:=0+1) (τ:=4) (u:=bd ((s:Int)+m) 32) (n:=bd ((s:Int)+((77:Nat):Int)+100) 16) v1 (by omega) (by decide) (by decide) lu (jE _ _) ok (by decide);have ok2:oD s (zH (some (2,2000000))++([(2,4000000)]++dY 2 77 7).take 8):=vi ok (by decide);have v2:=IZ (s:=s) (l:=([(2,4000000)]++dY 2 77 7).take 8) (la:=some (2,2000000)) (m:=1) (sn:=0+1) ok2 (by decide) (by decide) (by decide) (by decide);have aN:=aN _ (bd ((s:Int)+5000) 32) v2 rfl lx (fun h=>hne h.symm);have c8:=JN G (eQ s [(2,4000000)] (some (2,2000000)) 1 (0+1)) (bd ((s:Int)+m) 32) (ke (gm s) 4 (bd ((s:Int)+m) 32) (du s (dY 2 77 7)) (bd ((s:Int)+((77:Nat):Int)+100) 16)) (by omega);rw[aE,aJ,aP] at c8;have cA:=JN G (eQ s (([(2,4000000)]++dY 2 77 7).take 8) (some (2,2000000)) 1 (0+1)) (bd ((s:Int)+5000) 32) (ke (gm s) 4 (bd ((s:Int)+m) 32) (du s (dY 2 77 7)) (bd ((s:Int)+((77:Nat):Int)+100) 16)) (by omega);rw[aN] at cA;have cS:=aeu G (ke (gm s) 4 (bd ((s:Int)+m) 32) (du s (dY 2 77 7)) (bd ((s:Int)+((77:Nat):Int)+100) 16)) (ke (gm s) 4 (bd ((s:Int)+m) 32) (du s (dY 2 77 7)) (bd ((s:Int)+((77:Nat):Int)+100) 16));rw[beq_self_eq_true] at cS;have e7:7-([(2,4000000)]:List (Nat×Nat)).length=6:=rfl;rw[e7] at c6;have e8:6+1=7:=rfl;rw[e8] at c7;clear qE qJ qB aE aJ aP aN v0 v1 v2 ok ok0 ok2 b1 e7 e8 hne;generalize ue (eQ s (([(2,4000000)]++dY 2 77 7).take 8) (some (2,2000000)) 1 (0+1)) (bd ((s:Int)+5000) 32) (ke (gm s) 4 (bd ((s:Int)+m) 32) (du s (dY 2 77 7)) (bd ((s:Int)+((77:Nat):Int)+100) 16))=J3 at *
  generalize ug (eQ s (([(2,4000000)]++dY 2 77 7).take 8) (some (2,2000000)) 1 (0+1)) (bd ((s:Int)+5000) 32) (ke (gm s) 4 (bd ((s:Int)+m) 32) (du s (dY 2 77 7)) (bd ((s:Int)+((77:Nat):Int)+100) 16))=P3 at *
  generalize ke (gm s) 4 (bd ((s:Int)+m) 32) (du s (dY 2 77 7)) (bd ((s:Int)+((77:Nat):Int)+100) 16)=B at *
  generalize ka (j9 s) 4 (bd ((s:Int)+m) 32) (ja s 2 (kM s 2000000)) 6 (bd (s:Int) 16)=Q at *
  generalize eQ s (([(2,4000000)]++dY 2 77 7).take 8) (some (2,2000000)) 1 (0+1)=J2 at *
  generalize eQ s [(2,4000000)] (some (2,2000000)) 1 (0+1)=J1 at *
  generalize eQ s ((2,2000000)::[(2,4000000)]) none 1 0=J0 at *
  generalize bd ((s:Int)+m) 32=u at *
  generalize bd ((s:Int)+5000) 32=x at *
  generalize bd (s:Int) 16=nn at *
  generalize oB s 2 2=T at *
  generalize dt (du s (dY 2 77 7))=X at *
  generalize bS s (bd (s:Int) 32) 2=ring at *
  generalize bS (s+2000+o) (bd ((s+2000+o:Nat):Int) 32) 1=ring2 at *
  rw[show ((s+2000+o:Nat):Int)=(s:Int)+2000+(o:Int) by omega] at cX;rw[show ((77:Nat):Int)=77 from rfl] at c7;rw[show ((4:Nat):Int)=4 from rfl] at c6;unfold cJ eG nz dK at *
  try unfold lA at c8
  simp only[Xr,ai,af,seval];refine sD (e0) ?_;refine sD (c1) ?_;refine sD (c2) ?_;refine sC (c3) ?_;simp only[hm,af,aa,seval,iteOmega];refine sD (c4) ?_;refine sD (c5) ?_;refine sD (c6) ?_;refine sD (c7) ?_;refine sD (c1) ?_;refine sD (c7) ?_;refine sD (e1) ?_;refine sD (cX) ?_;refine sD (cY) ?_;refine sD (c8) ?_;refine sD (c9) ?_;refine sD (cA) ?_;refine sD (rk) ?_;refine sD (cS) ?_;exact aZ
end Go.Proofs.YtofonnokanoflaaGreatDoor
