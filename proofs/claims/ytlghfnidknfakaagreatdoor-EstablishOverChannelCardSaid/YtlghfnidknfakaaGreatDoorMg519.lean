/- Texts of one's own, merged: from: Layer 21 on data: the reference: Encode,body,short,Numbers,all,Request,has,Choose,strange. Own work. -/
import Derived.Test.YtlghfnidknfakaaGreatDoorMg517
import Derived.Test.YtlghfnidknfakaaGreatDoorMg510
import Derived.Test.YtlghfnidknfakaaGreatDoorMg518
import Derived.Test.YtlghfnidknfakaaGreatDoorMg516
import Derived.Test.YtlghfnidknfakaaGreatDoorMg57
import Derived.Test.YtlghfnidknfakaaGreatDoorMg514
import Derived.Shelf.Abstract
import Derived.Test.YtlghfnidknfakaaGreatDoorMg59
import Derived.Test.YtlghfnidknfakaaGreatDoorMg515
set_option linter.unusedVariables false
set_option linter.unusedSimpArgs false
namespace Go.Proofs.YtlghfnidknfakaaGreatDoor
open Go.RowKit
open IntWalk
set_option maxHeartbeats 800000
theorem lV {l:List Int} {i:Nat} (h:i<l.length):l[i]?=some (l.getD i 0):=by
  rw[X6,X3 h]; rfl
theorem pT {l:List Int} {i:Nat} (h:i<l.length):l.getD i 0∈l:=by
  rw[X6,X3 h];exact Yz h
theorem l8 {l:List Int} {i:Nat} (h:i<l.length):l.take (i+1)=l.take i++[l.getD i 0]:=by
  rw[ZG,lV h]; rfl
def zN (l:List Int) (i:Nat):St:=⟨aY [(0,.w (.c (.d (.sl (l.map zD))))),(3,.w (.c (.own 1 1 0 (aM (l.take i)).length))),(4,.w (.c (.d (.int .i64 (i:Int)))))],hL [(1,.row 1 ((aM (l.take i)).map bD))],uL [1]⟩
def xg:aO := .seq (.seq (.reg [oM 6 4,oM 7 0,oO 8 (.len (.t 7)),oO 9 (.bin .lss (.t 6) (.t 8))]) (.cond (.t 9) (.skip) (.exit 0))) (.seq (.block 1 (.reg [oM 12 3,oM 13 0,oM 14 4,oO 15 (.idxSl 1 (.t 13) (.t 14)),oO 16 (.load .sc (.t 15)),oO 17 (.conv .u64 (.t 16)),oO 18 (.call 44 [(.t 17),(kI 2)] none),oO 19 (.app false 1 1 (.t 12) (.t 18)),oM 3 19])) (.reg [oM 10 4,oO 11 (.bin .add (.t 10) (kI 1)),oM 4 11]))
def Ke:aA:=⟨1,21,.seq (.reg [oO 2 (.mv (.k (.c .nil)))]) (.seq (.reg [oO 5 (.bldSl true 0 1 (.int .u8 0) []),oM 3 5]) (.seq (.seq (.reg [oO 4 (.mv (kI 0))]) (.block 0 (.loop xg))) (.seq (.reg [oM 20 3,oM 2 20]) (.ret)))),[(2,none)]⟩
theorem Vi:aw Tryz.prog { own:=[5],comp:=[],frz:=[],nils:=[] } Tryz.f55=some Ke:=by kernel_rfl
theorem Xj (G:ah) (l:List Int) (hl:l.length≤1000000000) (hs:bz l):aj Tryz.prog G 55 [.sl (l.map zD)] (.w (.c (.fr 1 ((aM l).map bD)))):=by
  refine aB Tryz.func55 Vi rfl rfl ?_;simp only[Ke,af,ae,aa,seval,iteOmega,toNatUp];refine bf (zN l) (fun i=>l.length-i) (fun i=>i≤l.length) 0 (Yd _) ?_ ?_
  ·refine aD (fun _=>40) ?_ ?_ rfl rfl <;> simp only[wx,aC,aK,aa,seval,iteOmega,toNatUp] <;> first | rfl | exact⟨rfl,rfl⟩ | skip
  ·intro i hi;by_cases hlt:i<l.length
   ·have g:=lV hlt;obtain⟨n1,n2⟩:=hs _ (pT hlt);have e:aM (l.take (i+1))=aM (l.take i)++aP (l.getD i 0).toNat 2:=by
      rw[l8 hlt,HO,sA]
      show _++(_++[])=_
      rw[Ym]
    have hb:(aM (l.take i)).length≤2000000000:=by rw[dZ,Yb]; omega
    generalize l.getD i 0=v at *
    obtain⟨a,rfl⟩:=YR n1;rw[show ((a:Nat):Int).toNat=a from rfl] at e;have c:=S9 G a 2 (by decide);rw[show (2:Int).toNat=2 from rfl] at c;have pl:=bN a 2;generalize aP a 2=P at *
    simp only[xg,zN,ae,aa,seval,iteOmega,toNatUp,aL,g,zD];refine sC (c) ?_;simp only[pl,bK,ae,aa,seval,iteOmega,toNatUp];refine a6 (i+1) (by omega) (by omega) (aD (fun _=>152) ?_ ?_ rfl rfl) <;> simp only[e,pl,wx,aC,aK,aa,seval,iteOmega,toNatUp] <;> first | rfl | exact⟨rfl,rfl⟩ | skip
   ·have:l.take i=l:=X7 (by omega);simp only[xg,zN,ae,aa,seval,iteOmega,toNatUp,this];exact ec
def qH (l:List Int) (i:Nat):St:=⟨aY [(0,.w (.c (.d (.sl (l.map zD))))),(3,.w (.c (.d (.int .i64 (i:Int)))))],hL [],uL []⟩
def pU:aO := .seq (.seq (.reg [oM 4 3,oM 5 0,oO 6 (.len (.t 5)),oO 7 (.bin .lss (.t 4) (.t 6))]) (.cond (.t 7) (.skip) (.exit 0))) (.seq (.block 1 (.seq (.reg [oM 10 0,oM 11 3,oO 12 (.idxSl 1 (.t 10) (.t 11)),oO 13 (.load .sc (.t 12)),oO 14 (.bin .lss (.t 13) (kI 0)),oM 15 14,oG 16 (.mv (.t 0)) 15 false,oG 17 (.mv (.t 3)) 15 false,oG 18 (.idxSl 1 (.t 16) (.t 17)) 15 false,oG 19 (.load .sc (.t 18)) 15 false,oG 20 (.bin .gtr (.t 19) (kI 65535)) 15 false,oO 21 (.pick (.t 15) (.k (.c (.d (.bool true)))) (.t 20))]) (.cond (.t 21) (.seq (.reg [oO 2 (.mv (.k (.c (.d (.bool false)))))]) (.ret)) (.skip)))) (.reg [oM 8 3,oO 9 (.bin .add (.t 8) (kI 1)),oM 3 9]))
def Kf:aA:=⟨1,22,.seq (.reg [oO 2 (.mv (.k (.c (.d (.bool false)))))]) (.seq (.seq (.reg [oO 3 (.mv (kI 0))]) (.block 0 (.loop pU))) (.seq (.reg [oO 2 (.mv (.k (.c (.d (.bool true)))))]) (.ret))),[(2,none)]⟩
theorem Vj:aw Tryz.prog { own:=[],comp:=[],frz:=[],nils:=[] } Tryz.f54=some Kf:=by kernel_rfl
theorem Xk (G:ah) (l:List Int) (hl:l.length≤9000000000000000000):aj Tryz.prog G 54 [.sl (l.map zD)] (.w (.c (.d (.bool (decide (bz l)))))):=by
  refine aB Tryz.func54 Vj rfl rfl ?_;simp only[Kf,af,ae,aa,seval,iteOmega,toNatUp];refine bf (qH l) (fun i=>l.length-i) (fun i=>i≤l.length∧bz (l.take i)) 0 ⟨Yd _,by rw[Zf]; exact fun n hn=>by cases hn⟩ ?_ ?_
  ·refine aD (fun _=>0) ?_ ?_ rfl rfl <;> simp only[wx,aC,aK,aa,seval,iteOmega,toNatUp] <;> first | rfl | exact⟨rfl,rfl⟩ | skip
  ·rintro i ⟨hi,hp⟩;by_cases hlt:i<l.length
   ·have g:=lV hlt;have hm:=pT hlt;have hs:=l8 hlt;generalize l.getD i 0=v at *
    by_cases h1:v<0
    ·rw[decide_eq_false (fun q:bz l=>by have:=q v hm; omega)];have g1:=eq_true h1;simp only[pU,qH,ae,aa,seval,iteOmega,toNatUp,aL,g,zD,g1];exact aF
    ·have g1:=eq_false h1;by_cases h2:v>65535
     ·rw[decide_eq_false (fun q:bz l=>by have:=q v hm; omega)];have g2:=eq_true h2;simp only[pU,qH,ae,aa,seval,iteOmega,toNatUp,aL,g,zD,g1,g2];exact aF
     ·have g2:=eq_false h2;have hn:bz (l.take (i+1)):=by
        rw[hs];intro n hn;rcases Yj.1 hn with hn | hn
        ·exact hp n hn
        ·rw[X9.1 hn]; omega
      simp only[pU,qH,ae,aa,seval,iteOmega,toNatUp,aL,g,zD,g1,g2];refine a6 (i+1) (by omega) ⟨by omega,hn⟩ (aD (fun i=>i) ?_ ?_ rfl rfl) <;> simp only[wx,aC,aK,aa,seval,iteOmega,toNatUp] <;> first | rfl | exact⟨rfl,rfl⟩ | skip
   ·rw[X7 (by omega)] at hp;rw[decide_eq_true hp];simp only[pU,qH,ae,aa,seval,iteOmega,toNatUp];exact aF
theorem Vk {x y:List Int} {i:Nat} (hi:i<x.length) (hn:∀ v∈x.take i,v∉y) (h:x.getD i 0∈y):dS x y=some (x.getD i 0):=by
  have e:x=x.take i++x.getD i 0::x.drop (i+1):=by
    have:=(YI (i+1) x).symm;rw[l8 hi,Yy] at this;exact this
  have:dS (x.take i++x.getD i 0::x.drop (i+1)) y=some (x.getD i 0):=by
    unfold dS;rw[List.find?_append,List.find?_eq_none.2 (fun v hv q=>hn v hv (of_decide_eq_true q)),List.find?_cons_of_pos (p:=fun v=>decide (v∈y)) (decide_eq_true h)];rfl
  rw[← e] at this;exact this
theorem Xl (n:Nat):Int.tmod (n:Int) 2=((n%2:Nat):Int):=rfl
structure Fw where
  p:Nat
  o:List Fd
set_option maxHeartbeats 3200000
theorem sY (key info:List UInt8):ik key info 32=fp key info 32∧kL 32=0:=⟨j8 key info (by decide),lh (by decide)⟩
def p9:aA:=⟨2,31,.seq (.reg [oO 4 (.alloc [.nil]),oO 5 (.mv (kI 0))]) (.seq (.seq (.reg [oM 8 0,oO 9 (.bin .lss (.t 8) (kI 0)),oM 10 9,oG 11 (.mv (.t 0)) 10 false,oG 12 (.bin .gtr (.t 11) (kI 4294967295)) 10 false,oO 13 (.pick (.t 10) (.k (.c (.d (.bool true)))) (.t 12))]) (.cond (.t 13) (.seq (.reg [oO 14 (.build [.nil] []),oN (.store (.ag 1) (.t 4) (.t 14)),oO 5 (.mv (kI 4))]) (.ret)) (.skip))) (.seq (.seq (.reg [oM 15 1,oO 16 (.len (.t 15)),oO 17 (.bin .neq (.t 16) (kI 32))]) (.cond (.t 17) (.seq (.reg [oO 18 (.build [.nil] []),oN (.store (.ag 1) (.t 4) (.t 18)),oO 5 (.mv (kI 5))]) (.ret)) (.skip))) (.seq (.reg [oM 20 1,oO 21 (.bldSl true 13 1 (.int .u8 0) [(0,(.k (.c (.d (.int .u8 115))))),(1,(.k (.c (.d (.int .u8 101))))),(2,(.k (.c (.d (.int .u8 99))))),(3,(.k (.c (.d (.int .u8 116))))),(4,(.k (.c (.d (.int .u8 105))))),(5,(.k (.c (.d (.int .u8 109))))),(6,(.k (.c (.d (.int .u8 101))))),(7,(.k (.c (.d (.int .u8 32))))),(8,(.k (.c (.d (.int .u8 115))))),(9,(.k (.c (.d (.int .u8 116))))),(10,(.k (.c (.d (.int .u8 97))))),(11,(.k (.c (.d (.int .u8 114))))),(12,(.k (.c (.d (.int .u8 116)))))]),
 oO 22 (.markF (.t 21)),oO 23 (.call 101 [(.t 20),(.t 22),(kI 32)] none),oM 19 23,oO 24 (.extract (.t 19) 0),oO 25 (.extract (.t 19) 1),oM 6 24,oM 7 25]) (.seq (.reg [oM 26 0,oM 27 6,oO 28 (.build [(.d (.int .i64 0)),.nil] [(0,1,(.t 26)),(1,1,(.t 27))]),oO 29 (.bldSl false 1 2 (.agg [(.int .i64 0),(.sl [])]) [(0,(.t 28))]),oO 30 (.build [.nil] [(0,1,(.t 29))]),oN (.store (.ag 1) (.t 4) (.t 30)),oO 5 (.mv (kI 0))]) (.ret))))),[(4,(some (.ag 1))),(5,none)]⟩
theorem Tj:aw Tryz.prog { own:=[21],comp:=[],frz:=[22],nils:=[] } Tryz.f60=some p9:=by kernel_rfl
theorem VH (G:ah) (id:Int) (seed:List UInt8) (hs:seed.length≤9223372036854775807):aj Tryz.prog G 60 [.int .i64 id,.sl (seed.map bD)] (.tup [.c (.d (bG (mV id seed))),.c (.d (.int .i64 (jg id seed)))]):=by
  refine aB Tryz.func60 Tj rfl rfl ?_;rcases Int.lt_or_le id 0 with h1 | h1
  ·have e:jg id seed=4:=if_pos (.inl h1);have e2:mV id seed=[]:=if_neg (by rw[e]; decide);rw[e,e2];unfold bG;simp only[p9,af,ae,aa,seval,iteOmega,toNatUp];exact ja (by simp only[ae,aa,seval,iteOmega,toNatUp] <;> rfl) (by simp only[ae,aa,seval,iteOmega,toNatUp])
  ·rcases Int.lt_or_le 4294967295 id with h2 | h2
   ·have e:jg id seed=4:=if_pos (.inr h2);have e2:mV id seed=[]:=if_neg (by rw[e]; decide);have g:(id>4294967295)=True:=eq_true h2;rw[e,e2];unfold bG;simp only[p9,af,ae,aa,seval,iteOmega,toNatUp,g];exact ja (by simp only[ae,aa,seval,iteOmega,toNatUp] <;> rfl) (by simp only[ae,aa,seval,iteOmega,toNatUp])
   ·have g:(id>4294967295)=False:=eq_false (by omega);by_cases h3:seed.length=32
    ·have e:jg id seed=0:=by unfold jg; rw[if_neg (by omega),if_neg (by omega)]
     have e2:mV id seed=[⟨id,oZ seed⟩]:=if_pos e;rw[e,e2];have c:=tw G seed pS (by omega) (by decide) 32 (by decide) (by decide);rw[(sY seed pS).1,(sY seed pS).2,show fp seed pS 32=oZ seed from rfl] at c;generalize oZ seed=K at *
     unfold bG;simp only[p9,af,ae,aa,seval,iteOmega,toNatUp,g,h3];refine a8 c (by simp only[ae,aa,seval,iteOmega,toNatUp] <;> rfl) (.inl rfl) ?_;simp only[ae,aa,seval,iteOmega,toNatUp];exact ja (by simp only[ae,aa,seval,iteOmega,toNatUp] <;> rfl) (by simp only[ae,aa,seval,iteOmega,toNatUp])
    ·have e:jg id seed=5:=by unfold jg; rw[if_neg (by omega),if_pos h3]
     have e2:mV id seed=[]:=if_neg (by rw[e]; decide);rw[e,e2];unfold bG;simp only[p9,af,ae,aa,seval,iteOmega,toNatUp,g];exact ja (by simp only[ae,aa,seval,iteOmega,toNatUp] <;> rfl) (by simp only[ae,aa,seval,iteOmega,toNatUp])
theorem VI {l:List Fd} (h:¬ cT l):iq l=3∧kS l=[]:=by
  have e:iq l=3:=if_neg h;exact⟨e,if_neg (by rw[e]; decide)⟩
theorem VJ {l:List Fd} (h:cT l) {i:Nat} (hi:i<l.length) (h3:i<3) (e:(l.getD i default).ty=fV l):iq l=7∧kS l=[]:=by
  have hc:clash l=true:=by
    unfold clash;rw[Zc];refine⟨l.getD i default,?_,decide_eq_true e⟩;rw[X6,X3 hi];exact List.mem_take_iff_getElem.2 ⟨i,by omega,rfl⟩
  have e7:iq l=7:=by unfold iq; rw[if_pos h,if_pos hc]
  exact⟨e7,if_neg (by rw[e7]; decide)⟩
theorem Kr {l:List Fd} (h:cT l) {i:Nat} (hi:i≤l.length) (hend:l.length≤i∨3≤i) (hd:∀ j,j<i→(l.getD j default).ty≠fV l) (h3:i≤3):iq l=0∧kS l=kR l::l.take i:=by
  have ht:l.take 3=l.take i:=by
    rcases hend with h | h
    ·rw[X7 h,X7 (by omega)]
    ·rw[show i=3 by omega]
  have hc:clash l=false:=by
    unfold clash;rw[ht,Y1];intro f hf;obtain⟨j,hj,rfl⟩:=List.mem_take_iff_getElem.1 hf;have:=hd j (by omega);rw[X6,X3 (by omega)] at this
    simpa using this
  have e:iq l=0:=by unfold iq; rw[if_pos h,if_neg (by rw[hc]; decide)]
  refine⟨e,?_⟩;unfold kS;rw[if_pos e,ht]
def ft (l:List Fd) (i:Nat):List Fd:=kR l::l.take i
theorem VK {l:List Fd} {i:Nat} (h:i<l.length):ft l (i+1)=ft l i++[l.getD i default]:=by
  unfold ft;rw[OE h]; rfl
def LK (l:List Fd) (i:Nat):St:=⟨aY [(1,.w (.c (.rp [.sl (l.map bM)]))),(2,.w (.c (.ptr 3 1 0 0))),(6,.w (.c (.ptr 1 1 0 0))),(7,.w (.c (.d (.int .i64 (i:Int)))))],hL [(1,.box [.own 2 2 0 (ft l i).length]),(2,.row 2 ((ft l i).map bM)),(3,.box [.nil])],uL [1,2,3]⟩
def pH:aO := .seq (.seq (.reg [oM 34 7,oO 35 (.fieldAddr 0 (.t 1)),oO 36 (.load .sc (.t 35)),oO 37 (.len (.t 36)),oO 38 (.bin .lss (.t 34) (.t 37)),oM 39 38,oG 40 (.mv (.t 7)) 39 true,oG 41 (.bin .lss (.t 40) (kI 3)) 39 true,oO 42 (.pick (.t 39) (.t 41) (.k (.c (.d (.bool false)))))]) (.cond (.t 42) (.skip) (.exit 0))) (.seq (.block 1 (.seq (.seq (.reg [oO 45 (.fieldAddr 0 (.t 1)),oO 46 (.load .sc (.t 45)),oM 47 7,oO 48 (.idxSl 2 (.t 46) (.t 47)),oO 49 (.fieldAddr 0 (.t 48)),oO 50 (.load .sc (.t 49)),oO 51 (.fieldAddr 0 (.t 6)),oO 52 (.load .sc (.t 51)),oO 53 (.idxSl 2 (.t 52) (kI 0)),oO 54 (.fieldAddr 0 (.t 53)),oO 55 (.load .sc (.t 54)),oO 56 (.bin .eql (.t 50) (.t 55))]) (.cond (.t 56) (.seq (.reg [oO 57 (.build [.nil] []),oN (.store (.ag 1) (.t 2) (.t 57)),oO 3 (.mv (kI 7))])
 (.ret)) (.skip))) (.reg [oO 58 (.fieldAddr 0 (.t 6)),oO 59 (.load .sc (.t 58)),oO 60 (.fieldAddr 0 (.t 1)),oO 61 (.load .sc (.t 60)),oM 62 7,oO 63 (.idxSl 2 (.t 61) (.t 62)),oO 64 (.fieldAddr 0 (.t 63)),oO 65 (.load .sc (.t 64)),oO 66 (.fieldAddr 0 (.t 1)),oO 67 (.load .sc (.t 66)),oM 68 7,oO 69 (.idxSl 2 (.t 67) (.t 68)),oO 70 (.fieldAddr 1 (.t 69)),oO 71 (.load .sc (.t 70)),oO 72 (.bldSl false 1 1 (.sl []) [(0,(.t 71))]),oO 73 (.call 43 [(.t 72)] none),oO 74 (.build [(.d (.int .i64 0)),.nil] [(0,1,(.t 65)),(1,1,(.t 73))]),oO 75 (.bldSl false 1 2 (.agg [(.int .i64 0),(.sl [])]) [(0,(.t 74))]),oO 76 (.app false 2 32 (.t 59) (.t 75)),oO 77 (.fieldAddr 0 (.t 6)),oN (.store .sc (.t 77) (.t 76))]))) (.reg [oM 43 7,oO 44 (.bin .add (.t 43) (kI 1)),oM 7 44]))
def xX:aA:=⟨1,79,.seq (.reg [oO 1 (.box .roBox (.t 0)),oO 2 (.alloc [.nil]),oO 3 (.mv (kI 0))]) (.seq (.seq (.reg [oO 8 (.load (.ag 1) (.t 1)),oO 9 (.call 73 [(.t 8)] none),oO 10 (.un .not (.t 9))]) (.cond (.t 10) (.seq (.reg [oO 11 (.build [.nil] []),oN (.store (.ag 1) (.t 2) (.t 11)),oO 3 (.mv (kI 3))]) (.ret)) (.skip))) (.seq (.reg [oO 13 (.fieldAddr 0 (.t 1)),oO 14 (.load .sc (.t 13)),oO 15 (.idxSl 2 (.t 14) (kI 0)),oO 16 (.fieldAddr 1 (.t 15)),oO 17 (.load .sc (.t 16)),oO 18 (.bldSl true 12 1 (.int .u8 0) [(0,(.k (.c (.d (.int .u8 115))))),(1,(.k (.c (.d (.int .u8 101))))),(2,(.k (.c (.d (.int .u8 99))))),(3,(.k (.c (.d (.int .u8 116))))),(4,(.k (.c (.d (.int .u8 105))))),(5,(.k (.c (.d (.int .u8 109))))),(6,(.k (.c (.d (.int .u8 101))))),(7,(.k (.c (.d (.int .u8 32))))),(8,(.k (.c (.d (.int .u8 110))))),(9,(.k (.c (.d (.int .u8 101))))),(10,(.k (.c (.d (.int .u8 120))))),(11,(.k (.c (.d (.int .u8 116)))))]),
 oO 19 (.markF (.t 18)),oO 20 (.call 101 [(.t 17),(.t 19),(kI 32)] none),oM 12 20,oO 21 (.extract (.t 12) 0),oO 22 (.extract (.t 12) 1),oM 4 21,oM 5 22]) (.seq (.reg [oO 23 (.fieldAddr 0 (.t 1)),oO 24 (.load .sc (.t 23)),oO 25 (.idxSl 2 (.t 24) (kI 0)),oO 26 (.fieldAddr 0 (.t 25)),oO 27 (.load .sc (.t 26)),oO 28 (.bin .add (.t 27) (kI 1)),oO 29 (.bin .and (.t 28) (kI 4294967295)),oM 30 4,oO 31 (.build [(.d (.int .i64 0)),.nil] [(0,1,(.t 29)),(1,1,(.t 30))]),oO 32 (.bldSl true 1 2 (.agg [(.int .i64 0),(.sl [])]) [(0,(.t 31))]),oO 33 (.build [.nil] [(0,1,(.t 32))]),oO 6 (.alloc [.nil]),oN (.store (.ag 1) (.t 6) (.t 33))]) (.seq (.seq (.reg [oO 7 (.mv (kI 0))]) (.block 0 (.loop pH))) (.seq (.reg [oO 78 (.load (.ag 1) (.t 6)),oN (.store (.ag 1) (.t 2) (.t 78)),oO 3 (.mv (kI 0))]) (.ret)))))),
 [(2,(some (.ag 1))),(3,none)]⟩
theorem Tk:aw Tryz.prog { own:=[18,32],comp:=[],frz:=[19],nils:=[] } Tryz.f61=some xX:=by kernel_rfl
theorem VL (G:ah) (l:List Fd) (hl:l.length≤9223372036854775807):aj Tryz.prog G 61 [bG l] (.tup [.c (.d (bG (kS l))),.c (.d (.int .i64 (iq l)))]):=by
  refine aB Tryz.func61 Tk rfl rfl ?_;have c1:=VF G l hl;by_cases hr:cT l
  ·rw[decide_eq_true hr] at c1;have r1:=hr.1;have r2:=hr.2.1;have g0:=lU (l:=l) (i:=0) (by omega);obtain⟨⟨m1,m2,m3⟩,_⟩:=ly hr (i:=0) (by omega);have c2:=tw G (l.getD 0 default).da sW (by omega) (by decide) 32 (by decide) (by decide);rw[(sY _ sW).1,(sY [] []).2,show fp (l.getD 0 default).da sW 32=o0 (l.getD 0 default).da from rfl] at c2;have ha:=Ph ((l.getD 0 default).ty+1);rw[show ((l.getD 0 default).ty+1)%4294967296=fV l from rfl] at ha;have hO0:ft l 0=[⟨fV l,o0 (l.getD 0 default).da⟩]:=rfl;have hOh:∀ i,(ft l i).map bM=.agg [.int .i64 (fV l),.sl ((o0 (l.getD 0 default).da).map bD)]::(l.take i).map bM:=fun i=>rfl
   unfold bG at *
   generalize hk0:l.getD 0 default=k0 at *
   simp only[xX,af,ae,aa,seval,iteOmega,toNatUp];refine sC (c1) ?_;simp only[aL,g0,bM,ha,ae,aa,seval,iteOmega,toNatUp];refine sC c2 ?_;simp only[aL,g0,bM,ha,ae,aa,seval,iteOmega,toNatUp];refine bf (LK l) (fun i=>4-i) (fun i=>i≤l.length∧i≤3∧∀ j,j<i→(l.getD j default).ty≠fV l) 0 ⟨Yd _,Yd _,fun j hj=>by omega⟩ ?_ ?_
   ·refine aD (fun i=>if i=1 then 48 else if i=2 then 256 else 16) ?_ ?_ rfl rfl <;> simp only[wx,aC,aK,aa,seval,iteOmega,toNatUp,hO0] <;> first | exact⟨rfl,rfl⟩ | rfl | skip
   ·rintro i ⟨hi,hi3,hd⟩;clear c1 c2;have hOl:(ft l i).length=i+1:=by simp[ft]; omega
    have az:=r7 (ft l i);have hhd:(ft l i)[0]?=some (kR l):=rfl;have hty:(kR l).ty=fV l:=rfl;have est:LK l i=⟨aY [(1,.w (.c (.rp [.sl (l.map bM)]))),(2,.w (.c (.ptr 3 1 0 0))),(6,.w (.c (.ptr 1 1 0 0))),(7,.w (.c (.d (.int .i64 (i:Int)))))],hL [(1,.box [.own 2 2 0 (ft l i).length]),(2,.row 2 ((ft l i).map bM)),(3,.box [.nil])],uL [1,2,3]⟩:=rfl;by_cases hlt:i<l.length
    ·by_cases h3:i<3
     ·have g:=lU hlt;have hs:=VK hlt;obtain⟨⟨_,_,x3⟩,_⟩:=ly hr hlt;have cj:=mg G [(l.getD i default).da] (by simp) (by rw[ZH,Zt,Ym,x3]; decide);simp only[Ya,Yo,ZH,Zt,Ym] at cj;by_cases he:(l.getD i default).ty=fV l
      ·obtain⟨e1,e2⟩:=VJ hr hlt h3 he;have ge:((l.getD i default).ty=fV l)=True:=eq_true he;rw[e1,e2,est];clear hd hs hOh hO0 est;generalize ft l i=O at *
       generalize l.getD i default=x at *
       generalize kR l=nf at *
       generalize fV l=ni at *
       simp only[pH,ae,aa,seval,iteOmega,toNatUp,aL,g,hhd,bM,hty,ge];exact ja (by simp only[ae,aa,seval,iteOmega,toNatUp] <;> rfl) (by simp only[ae,aa,seval,iteOmega,toNatUp])
      ·have ge:((l.getD i default).ty=fV l)=False:=eq_false he;have hd':∀ j,j<i+1→(l.getD j default).ty≠fV l:=fun j hj=>by
         rcases YG j i with h | h
         ·exact hd j h
         ·obtain rfl:j=i:=by omega
          exact he
       rw[est];clear hd hOh hO0 est;generalize hO:ft l i=O at *
       generalize l.getD i default=x at *
       generalize hnf:kR l=nf at *
       generalize hni:fV l=ni at *
       simp only[pH,ae,aa,seval,iteOmega,toNatUp,aL,g,hhd,bM,hty,ge];refine sC (cj) ?_;simp only[bK,OD,bM,ae,aa,seval,iteOmega,toNatUp];refine a6 (i+1) (by omega) ⟨by omega,by omega,hd'⟩ (aD (fun i=>if i=1 then 1 else if i=2 then 608 else 3) ?_ ?_ rfl rfl) <;> simp only[hs,YD,bM,wx,aC,aK,aa,seval,iteOmega,toNatUp]
     ·obtain⟨e1,e2⟩:=Kr hr hi (.inr (by omega)) hd hi3;have e2:kS l=ft l i:=e2;have g3:((i:Int)<3)=False:=eq_false (by omega);rw[e1,e2,est];clear hd hOh hO0 est;generalize ft l i=O at *
      simp only[pH,ae,aa,seval,iteOmega,toNatUp,g3];exact ja (by simp only[ae,aa,seval,iteOmega,toNatUp] <;> rfl) (by simp only[ae,aa,seval,iteOmega,toNatUp])
    ·obtain⟨e1,e2⟩:=Kr hr hi (.inl (by omega)) hd hi3;have e2:kS l=ft l i:=e2;rw[e1,e2,est];clear hd hOh hO0 est;generalize ft l i=O at *
     simp only[pH,ae,aa,seval,iteOmega,toNatUp];exact ja (by simp only[ae,aa,seval,iteOmega,toNatUp] <;> rfl) (by simp only[ae,aa,seval,iteOmega,toNatUp])
  ·rw[decide_eq_false hr] at c1;obtain⟨e1,e2⟩:=VI hr;rw[e1,e2];unfold bG at *
   simp only[xX,af,ae,aa,seval,iteOmega,toNatUp];refine sD (c1) ?_;exact ja (by simp only[ae,aa,seval,iteOmega,toNatUp] <;> rfl) (by simp only[ae,aa,seval,iteOmega,toNatUp])
def di (a b:List UInt8):D:=.agg [.sl (a.map bD),.sl (b.map bD)]
theorem Tl (m:Fd) (algo:Int) (up dn nonce:List UInt8):[eN m,nonce,dr m.da [eN m,nonce] (fH algo up dn)].flatten=cG m algo up dn nonce:=by
  unfold cG;simp only[ZH,Zt,Ym]
theorem FH (algo:Int) (up dn:List UInt8):[aP algo.toNat 2,[0,0],up,dn].flatten=fH algo up dn:=by
  unfold fH;simp only[ZH,Zt,Ym]
theorem od {l:List Fd} {algo:Int} {up dn nonce:List UInt8} {e:Int} (h:iQ l algo up dn nonce=e) (he:e≠0):mZ l algo up dn nonce=[]:=if_neg (by rw[h]; exact he)
theorem Tm {l:List Fd} {id:Int} {i:Nat} (h:i<l.length) (e:(l.getD i default).ty=id) (hn:∀ j,j<i→(l.getD j default).ty≠id):gI l id=some i:=by
  unfold gI;rw[Zh];have eg:∀ k (hk:k<l.length),l[k]=l.getD k default:=fun k hk=>by rw[X6,X3 hk]; rfl
  refine⟨h,by rw[eg i h]; exact decide_eq_true e,fun j hj=>?_⟩;rw[eg j (by omega),decide_eq_false (hn j hj)];decide
theorem Q7 {l:List Fd} {id:Int} (hn:∀ j,j<l.length→(l.getD j default).ty≠id):gI l id=none:=by
  unfold gI;rw[List.findIdx?_eq_none_iff];intro x hx;obtain⟨j,hj,rfl⟩:=YE hx;have:=hn j hj;rw[X6,X3 hj] at this;exact decide_eq_false this
theorem qo {l:List Fd} {c:List UInt8} {e:Int} (h:fe l c=e) (he:e≠0):jl l c=⟨0,[],[],0⟩:=if_neg (by rw[h]; exact he)
theorem Tn {l:List Fd} {c:List UInt8} {i:Nat} (h:cT l) (hc:c.length=104) (w:gI l (fW c)=some i):fe l c=if mW (l.getD i default) c then 0 else 6:=by
  unfold fe;rw[if_pos h,if_neg (by omega),w]
def zP (t:Int) (s:Nat) (K:List UInt8) (i:Nat):St:=⟨aY [(1,.w (.c (.d (.int .i64 t)))),(4,.w (.c (.ptr 2 1 0 0))),(5,.w (.c (.ptr 1 1 0 0))),(7,.w (.c (.d (.int .i64 (i:Int)))))],hL [(1,.box [.d (.sl ((bw s K i).map bM))]),(2,.box [.nil])],uL [1,2]⟩
def xh:aO := .seq (.seq (.reg [oM 16 7,oM 17 1,oO 18 (.call 24 [(.t 17),(kI 6)] none),oO 19 (.bin .lss (.t 16) (.t 18))]) (.cond (.t 19) (.skip) (.exit 0))) (.seq (.block 1 (.reg [oO 23 (.load (.ag 1) (.t 5)),oO 24 (.call 61 [(.t 23)] none),oM 22 24,oO 25 (.extract (.t 22) 0),oO 26 (.extract (.t 22) 1),oN (.store (.ag 1) (.t 5) (.t 25))])) (.reg [oM 20 7,oO 21 (.bin .add (.t 20) (kI 1)),oM 7 21]))
def Ks:aA:=⟨2,28,.seq (.reg [oO 4 (.alloc [.nil])]) (.seq (.reg [oM 9 0,oO 10 (.call 24 [(.t 9),(kI 4294967296)] none),oM 11 0,oO 12 (.call 59 [(.t 11)] none),oO 13 (.call 60 [(.t 10),(.t 12)] none),oM 8 13,oO 14 (.extract (.t 8) 0),oO 15 (.extract (.t 8) 1),oO 5 (.alloc [.nil]),oN (.store (.ag 1) (.t 5) (.t 14)),oM 6 15]) (.seq (.seq (.reg [oO 7 (.mv (kI 0))]) (.block 0 (.loop xh))) (.seq (.reg [oO 27 (.load (.ag 1) (.t 5)),oN (.store (.ag 1) (.t 4) (.t 27))]) (.ret)))),[(4,(some (.ag 1)))]⟩
theorem VM:aw Tryz.prog { own:=[],comp:=[],frz:=[],nils:=[] } Tryz.f25=some Ks:=by kernel_rfl
set_option maxHeartbeats 1600000 in
theorem zQ (G:ah) (s:Nat) (t:Int) (hs:s≤1000000):aj Tryz.prog G 25 [.int .i64 (s:Int),.int .i64 t] (.w (.c (.d (bG (bw s (aS s 32) (gZ t 6).toNat))))):=by
  refine aB Tryz.func25 VM rfl rfl ?_;have c1:=w8 G (s:Int) 4294967296 (by decide);have e1:gZ (s:Int) 4294967296=(s:Int):=by unfold gZ; rw[if_neg (by decide)]; omega
  rw[e1] at c1;have c2:=Kn G (s:Int);have kl:(aS s 32).length=32:=k8 _ _;have c3:=VH G (s:Int) (aS s 32) (by omega);obtain⟨q1,q2⟩:=Pg s (aS s 32) (by omega) kl;rw[q1,q2] at c3;have c4:=w8 G t 6 (by decide);obtain⟨r1,r2⟩:=AG t 6 (by decide);have hstep:∀ i,i<6→aj Tryz.prog G _ [bG (bw s (aS s 32) i)] (.tup [.c (.d (bG (bw s (aS s 32) (i+1)))),.c (.d (.int .i64 0))]):=fun i hi=>by
    have c:=VL G (bw s (aS s 32) i) (by rw[j9]; omega);obtain⟨a,b⟩:=Q1 (s:=s) (seed:=aS s 32) (t:=i) (by omega);rw[a,b] at c;exact c
  generalize aS s 32=K at *
  generalize gZ t 6=n at *
  unfold bG at *
  simp only[Ks,af,ae,aa,seval,iteOmega,toNatUp];refine sD (c1) ?_;refine sD (c2) ?_;refine sD (c3) ?_;refine bf (zP t s K) (fun i=>n.toNat-i) (fun i=>i≤n.toNat) 0 (Yd _) ?_ ?_
  ·refine aD (fun i=>if i=1 then 40 else 32) ?_ ?_ rfl rfl <;> simp only[wx,aC,aK,aa,seval,iteOmega,toNatUp]
  ·intro i hi;by_cases hlt:i<n.toNat
   ·have c:=hstep i (by omega);have g:(i:Int)<n:=by omega
    simp only[xh,zP,ae,aa,seval,iteOmega,toNatUp];refine sC (c4) ?_;simp only[g,ae,aa,seval,iteOmega,toNatUp];refine sD (c) ?_;refine a6 (i+1) (by omega) (by omega) (aD (fun i=>i) ?_ ?_ rfl rfl) <;> simp only[wx,aC,aK,aa,seval,iteOmega,toNatUp] <;> try rfl
   ·have g:((i:Int)<n)=False:=eq_false (by omega);have e:n.toNat=i:=by omega
    rw[e];simp only[xh,zP,ae,aa,seval,iteOmega,toNatUp];refine sC (c4) ?_;simp only[g,ae,aa,seval,iteOmega,toNatUp];exact aF
def pn:ByteArray:=⟨#[115,101,99,116,105,109,101,32,107,101,121,115]⟩
def tB:aA:=⟨3,47,.seq (.reg [oO 3 (.box .roBox (.t 0)),oO 6 (.alloc [.nil,.nil]),oO 7 (.mv (kI 0))]) (.seq (.seq (.reg [oO 12 (.loadB (.ag 6) (.t 3)),oO 13 (.call 41 [(.t 12)] none),oO 14 (.un .not (.t 13))]) (.cond (.t 14) (.seq (.reg [oO 15 (.build [.nil,.nil] []),oN (.store (.ag 2) (.t 6) (.t 15)),oO 7 (.mv (kI 3))]) (.ret)) (.skip))) (.seq (.seq (.reg [oM 16 1,oM 17 2,oO 18 (.bldSl false 2 1 (.int .i64 0) [(0,(.t 16)),(1,(.t 17))]),oO 19 (.call 54 [(.t 18)] none),oO 20 (.un .not (.t 19))]) (.cond (.t 20) (.seq (.reg [oO 21 (.build [.nil,.nil] []),oN (.store (.ag 2) (.t 6) (.t 21)),oO 7 (.mv (kI 4))]) (.ret)) (.skip))) (.seq (.reg [oO 23 (.loadB (.ag 6) (.t 3)),oM 24 1,oM 25 2,oO 26 (.bldSl false 2 1 (.int .i64 0) [(0,(.t 24)),(1,(.t 25))]),oO 27 (.call 55 [(.t 26)] (some (0,1))),oO 28 (.bldSl false 1 1 (.int .u8 0) [(0,(.k (.c (.d (.int .u8 0)))))]),
 oO 29 (.app false 1 1 (.t 27) (.t 28)),oO 30 (.call 64 [(.t 23),(.k (.c (.d (.str ⟨#[115,101,99,116,105,109,101,32,107,101,121,115]⟩)))),(.t 29),(kI 32)] none),oM 22 30,oO 31 (.extract (.t 22) 0),oO 32 (.extract (.t 22) 1),oM 8 31,oM 9 32]) (.seq (.reg [oO 34 (.loadB (.ag 6) (.t 3)),oM 35 1,oM 36 2,oO 37 (.bldSl false 2 1 (.int .i64 0) [(0,(.t 35)),(1,(.t 36))]),oO 38 (.call 55 [(.t 37)] (some (0,1))),oO 39 (.bldSl false 1 1 (.int .u8 0) [(0,(.k (.c (.d (.int .u8 1)))))]),oO 40 (.app false 1 1 (.t 38) (.t 39)),oO 41 (.call 64 [(.t 34),(.k (.c (.d (.str ⟨#[115,101,99,116,105,109,101,32,107,101,121,115]⟩)))),(.t 40),(kI 32)] none),oM 33 41,oO 42 (.extract (.t 33) 0),oO 43 (.extract (.t 33) 1),oM 10 42,oM 11 43]) (.seq (.reg [oM 44 8,oM 45 10,oO 46 (.build [.nil,.nil] [(0,1,(.t 44)),(1,1,(.t 45))]),
 oN (.store (.ag 2) (.t 6) (.t 46)),oO 7 (.mv (kI 0))]) (.ret)))))),[(6,(some (.ag 2))),(7,none)]⟩
theorem VN:aw Tryz.prog { own:=[27,38],comp:=[],frz:=[],nils:=[],bx:=[12,23,34] } Tryz.f27=some tB:=by kernel_rfl
set_option maxHeartbeats 1600000 in
theorem Xq (G:ah) (c:Ch) (p a:Int):aj Tryz.prog G 27 [aT c,.int .i64 p,.int .i64 a] (.tup [.c (.d (di (a7 c p a 0) (a7 c p a 1))),.c (.d (.int .i64 (eP c p a)))]):=by
  refine aB Tryz.func27 VN rfl rfl ?_;have c1:=zO G c;have c2:=Xk G [p,a] (by simp);by_cases h:cy c
  ·rw[decide_eq_true h] at c1;by_cases hs:bz [p,a]
   ·rw[decide_eq_true hs] at c2;have e:eP c p a=0:=by unfold eP; rw[if_neg (not_not_intro h),if_neg (not_not_intro hs)]
    have c3:=Xj G [p,a] (by simp) hs;have hl:(eH p a 0).length=5:=by unfold eH; rw[X5,dZ]; rfl
    have hl1:(eH p a 1).length=5:=by unfold eH; rw[X5,dZ]; rfl
    have c4:=LI G c pn (eH p a 0) 32 (by decide) (by omega) (by decide) (by decide);have c5:=LI G c pn (eH p a 1) 32 (by decide) (by omega) (by decide) (by decide);have hX:∀ z,lS c pn.data.toList (eH p a z) 32=a7 c p a z:=fun z=>by
      unfold lS a7;rw[if_pos h,if_pos e,j8 _ _ (by decide)];rfl
    have hE:pd c 32=0:=by unfold pd; rw[if_pos h]; exact lh (by decide)
    rw[hX,hE] at c4 c5;rw[e];have k0:eH p a 0=aM [p,a]++[0]:=rfl;have k1:eH p a 1=aM [p,a]++[1]:=rfl;rw[k0,YD] at c4;rw[k1,YD] at c5;have bl:(aM [p,a]).length=4:=dZ _;unfold aT di at *
    simp only[Ya,Yo,zD] at c2 c3 c4 c5;generalize aM [p,a]=B at *
    generalize a7 c p a 0=U at *
    generalize a7 c p a 1=W at *
    clear hX k0 k1;have t0:(B.map bD++[D.int .u8 0]).take 5=B.map bD++[bD 0]:=X7 (by simp[bl]);have t1:(B.map bD++[D.int .u8 1]).take 5=B.map bD++[bD 1]:=X7 (by simp[bl]);simp only[tB,af,ae,aa,seval,iteOmega,toNatUp];refine sD (c1) ?_;refine sD (c2) ?_;refine sC (c3) ?_;simp only[bl,ae,aa,seval,iteOmega,toNatUp];refine a8 c4 (by simp only[ae,aa,seval,iteOmega,toNatUp,t0] <;> rfl) (.inr (qC _ _ _ _)) ?_;simp only[ae,aa,seval,iteOmega,toNatUp];refine sC (c3) ?_;simp only[bl,ae,aa,seval,iteOmega,toNatUp];refine a8 c5 (by simp only[ae,aa,seval,iteOmega,toNatUp,t1] <;> rfl) (.inr (qC _ _ _ _)) ?_;simp only[ae,aa,seval,iteOmega,toNatUp];exact aW
   ·rw[decide_eq_false hs] at c2;have e:eP c p a=4:=by unfold eP; rw[if_neg (not_not_intro h),if_pos hs]
    rw[show a7 c p a 0=[] from if_neg (by rw[e]; decide),show a7 c p a 1=[] from if_neg (by rw[e]; decide),e];unfold aT di at *
    simp only[Ya,Yo,zD] at c2;simp only[tB,af,ae,aa,seval,iteOmega,toNatUp];refine sD (c1) ?_;refine sD (c2) ?_;exact aW
  ·rw[decide_eq_false h] at c1;have e:eP c p a=3:=if_pos h;rw[show a7 c p a 0=[] from if_neg (by rw[e]; decide),show a7 c p a 1=[] from if_neg (by rw[e]; decide),e];unfold aT di at *
   simp only[tB,af,ae,aa,seval,iteOmega,toNatUp];refine sD (c1) ?_;exact aW
def zR (l:List Int) (i:Nat):St:=⟨aY [(3,.w (.c (.own 1 1 0 (aM (l.take i)).length))),(6,.w (.c (.d (.sl (l.map zD))))),(7,.w (.c (.d (.int .i64 (l.length:Int))))),(8,.w (.c (.d (.int .i64 (i:Int)))))],hL [(1,.row 1 ((aM (l.take i)).map bD))],uL [1]⟩
def xi:aO := .seq (.reg [oO 9 (.bin .lss (.t 8) (.t 7))]) (.seq (.cond (.t 9) (.skip) (.exit 0)) (.seq (.block 1 (.seq (.reg [oO 10 (.idxSl 1 (.t 6) (.t 8)),oO 11 (.load .sc (.t 10)),oM 5 11]) (.reg [oM 12 3,oM 13 5,oO 14 (.conv .u64 (.t 13)),oO 15 (.call 91 [(.t 14),(kI 2)] none),oO 16 (.app false 1 1 (.t 12) (.t 15)),oM 3 16]))) (.reg [oO 17 (.bin .add (.t 8) (kI 1)),oM 8 17])))
def Kt:aA:=⟨1,19,.seq (.reg [oO 2 (.mv (.k (.c .nil)))]) (.seq (.reg [oO 3 (.nilOwn 1)]) (.seq (.seq (.reg [oM 6 0,oO 7 (.len (.t 6)),oO 8 (.mv (kI 0))]) (.block 0 (.loop xi))) (.seq (.reg [oM 18 3,oM 2 18]) (.ret)))),[(2,none)]⟩
theorem VO:aw Tryz.prog { own:=[3],comp:=[],frz:=[],nils:=[] } Tryz.f53=some Kt:=by kernel_rfl
theorem Xr (G:ah) (l:List Int) (hl:l.length≤1000000000) (hs:bz l):aj Tryz.prog G 53 [.sl (l.map zD)] (.w (.c (.fr 1 ((aM l).map bD)))):=by
  refine aB Tryz.func53 VO rfl rfl ?_;simp only[Kt,af,ae,aa,seval,iteOmega,toNatUp];refine bf (zR l) (fun i=>l.length-i) (fun i=>i≤l.length) 0 (Yd _) ?_ ?_
  ·refine aD (fun _=>24) ?_ ?_ rfl rfl <;> simp only[wx,aC,aK,aa,seval,iteOmega,toNatUp] <;> first | rfl | exact⟨rfl,rfl⟩ | skip
  ·intro i hi;by_cases hlt:i<l.length
   ·have g:=lV hlt;obtain⟨n1,n2⟩:=hs _ (pT hlt);have e:aM (l.take (i+1))=aM (l.take i)++aP (l.getD i 0).toNat 2:=by
      rw[l8 hlt,HO,sA]
      show _++(_++[])=_
      rw[Ym]
    have hb:(aM (l.take i)).length≤2000000000:=by rw[dZ,Yb]; omega
    generalize l.getD i 0=v at *
    obtain⟨a,rfl⟩:=YR n1;rw[show ((a:Nat):Int).toNat=a from rfl] at e;have c:=kf G a 2 (by decide);rw[show (2:Int).toNat=2 from rfl] at c;have pl:=bN a 2;generalize aP a 2=P at *
    simp only[xi,zR,ae,aa,seval,iteOmega,toNatUp,aL,g,zD];refine sC (c) ?_;simp only[pl,bK,ae,aa,seval,iteOmega,toNatUp];refine a6 (i+1) (by omega) (by omega) (aD (fun _=>128) ?_ ?_ rfl rfl) <;> simp only[e,pl,wx,aC,aK,aa,seval,iteOmega,toNatUp] <;> first | rfl | exact⟨rfl,rfl⟩ | skip
   ·have:l.take i=l:=X7 (by omega);simp only[xi,zR,ae,aa,seval,iteOmega,toNatUp,this];exact ec
theorem mN (G:ah) (l:List Int) (hl:l.length≤1000000000) (hs:bz l):aj Tryz.prog G 53 [.sl (l.map zD)] (.w (.c (.d (.sl ((aM l).map bD))))):=mn (Xr G l hl hs)
def qJ (l:List Int) (i:Nat):St:=⟨aY [(5,.w (.c (.d (.sl (l.map zD))))),(6,.w (.c (.d (.int .i64 (l.length:Int))))),(7,.w (.c (.d (.int .i64 (i:Int)))))],hL [],uL []⟩
def pW:aO := .seq (.reg [oO 8 (.bin .lss (.t 7) (.t 6))]) (.seq (.cond (.t 8) (.skip) (.exit 0)) (.seq (.block 1 (.seq (.reg [oO 9 (.idxSl 1 (.t 5) (.t 7)),oO 10 (.load .sc (.t 9)),oM 4 10]) (.seq (.reg [oM 11 4,oO 12 (.bin .lss (.t 11) (kI 0)),oM 13 12,oG 14 (.mv (.t 4)) 13 false,oG 15 (.bin .geq (.t 14) (kI 65536)) 13 false,oO 16 (.pick (.t 13) (.k (.c (.d (.bool true)))) (.t 15))]) (.cond (.t 16) (.seq (.reg [oO 2 (.mv (.k (.c (.d (.bool false)))))]) (.ret)) (.skip))))) (.reg [oO 17 (.bin .add (.t 7) (kI 1)),oM 7 17])))
def Ku:aA:=⟨1,18,.seq (.reg [oO 2 (.mv (.k (.c (.d (.bool false)))))]) (.seq (.seq (.reg [oM 5 0,oO 6 (.len (.t 5)),oO 7 (.mv (kI 0))]) (.block 0 (.loop pW))) (.seq (.reg [oO 2 (.mv (.k (.c (.d (.bool true)))))]) (.ret))),[(2,none)]⟩
theorem VP:aw Tryz.prog { own:=[],comp:=[],frz:=[],nils:=[] } Tryz.f50=some Ku:=by kernel_rfl
theorem oD (G:ah) (l:List Int) (hl:l.length≤9000000000000000000):aj Tryz.prog G 50 [.sl (l.map zD)] (.w (.c (.d (.bool (decide (bz l)))))):=by
  refine aB Tryz.func50 VP rfl rfl ?_;simp only[Ku,af,ae,aa,seval,iteOmega,toNatUp];refine bf (qJ l) (fun i=>l.length-i) (fun i=>i≤l.length∧bz (l.take i)) 0 ⟨Yd _,by rw[Zf]; exact fun n hn=>by cases hn⟩ ?_ ?_
  ·refine aD (fun _=>0) ?_ ?_ rfl rfl <;> simp only[wx,aC,aK,aa,seval,iteOmega,toNatUp] <;> first | rfl | exact⟨rfl,rfl⟩ | skip
  ·rintro i ⟨hi,hp⟩;by_cases hlt:i<l.length
   ·have g:=lV hlt;have hm:=pT hlt;have hs:=l8 hlt;generalize l.getD i 0=v at *
    by_cases h1:v<0
    ·rw[decide_eq_false (fun q:bz l=>by have:=q v hm; omega)];have g1:=eq_true h1;simp only[pW,qJ,ae,aa,seval,iteOmega,toNatUp,aL,g,zD,g1];exact aF
    ·have g1:=eq_false h1;by_cases h2:v≥65536
     ·rw[decide_eq_false (fun q:bz l=>by have:=q v hm; omega)];have g2:=eq_true h2;simp only[pW,qJ,ae,aa,seval,iteOmega,toNatUp,aL,g,zD,g1,g2];exact aF
     ·have g2:=eq_false h2;have hn:bz (l.take (i+1)):=by
        rw[hs];intro n hn;rcases Yj.1 hn with hn | hn
        ·exact hp n hn
        ·rw[X9.1 hn]; omega
      simp only[pW,qJ,ae,aa,seval,iteOmega,toNatUp,aL,g,zD,g1,g2];refine a6 (i+1) (by omega) ⟨by omega,hn⟩ (aD (fun i=>i) ?_ ?_ rfl rfl) <;> simp only[wx,aC,aK,aa,seval,iteOmega,toNatUp] <;> first | rfl | exact⟨rfl,rfl⟩ | skip
   ·rw[X7 (by omega)] at hp;rw[decide_eq_true hp];simp only[pW,qJ,ae,aa,seval,iteOmega,toNatUp];exact aF
def zS (b:List UInt8) (k:Nat):St:=⟨aY [(0,.w (.c (.d (.sl (b.map bD))))),(4,.w (.c (.own 1 1 0 (jm b k).length))),(5,.w (.c (.d (.int .i64 ((2*k:Nat):Int)))))],hL [(1,.row 1 ((jm b k).map zD))],uL [1]⟩
theorem Xs (n:Nat):Int.tdiv (n:Int) 2=((n / 2:Nat):Int):=rfl
def xj:aO := .seq (.seq (.reg [oM 14 5,oM 15 0,oO 16 (.len (.t 15)),oO 17 (.bin .lss (.t 14) (.t 16))]) (.cond (.t 17) (.skip) (.exit 0))) (.seq (.block 1 (.reg [oM 20 4,oM 21 0,oM 22 5,oM 23 5,oO 24 (.bin .add (.t 23) (kI 2)),oO 25 (.slice 1 (.t 21) (some (.t 22)) (some (.t 24)) none),oO 26 (.call 48 [(.t 25)] none),oO 27 (.conv .i64 (.t 26)),oO 28 (.bldSl false 1 1 (.int .i64 0) [(0,(.t 27))]),oO 29 (.app false 1 8 (.t 20) (.t 28)),oM 4 29])) (.reg [oM 18 5,oO 19 (.bin .add (.t 18) (kI 2)),oM 5 19]))
def yX:aA:=⟨1,31,.seq (.reg [oO 2 (.mv (.k (.c .nil))),oO 3 (.mv (.k (.c (.d (.bool false)))))]) (.seq (.seq (.reg [oM 6 0,oO 7 (.len (.t 6)),oO 8 (.bin .rem (.t 7) (kI 2)),oO 9 (.bin .neq (.t 8) (kI 0))]) (.cond (.t 9) (.seq (.reg [oO 2 (.mv (.k (.c .nil))),oO 3 (.mv (.k (.c (.d (.bool false)))))]) (.ret)) (.skip))) (.seq (.reg [oM 10 0,oO 11 (.len (.t 10)),oO 12 (.bin .quo (.t 11) (kI 2)),oO 13 (.make true 1 8 (.int .i64 0) (kI 0) (.t 12)),oM 4 13]) (.seq (.seq (.reg [oO 5 (.mv (kI 0))]) (.block 0 (.loop xj))) (.seq (.reg [oM 30 4,oM 2 30,oO 3 (.mv (.k (.c (.d (.bool true)))))]) (.ret))))),[(2,none),(3,none)]⟩
theorem VQ:aw Tryz.prog { own:=[],comp:=[],frz:=[],nils:=[] } Tryz.f14=some yX:=by kernel_rfl
theorem LL (G:ah) (b:List UInt8) (hb:b.length≤1000000000):aj Tryz.prog G 14 [.sl (b.map bD)] (.tup [.c (.d (.sl ((eO b).map zD))),.c (.d (.bool (decide (b.length%2=0))))]):=by
  refine aB Tryz.func14 VQ rfl rfl ?_;have t2:=Xl b.length;have t5:=Xs b.length;have t6:b.length / 2≤500000000:=by omega
  by_cases he:b.length%2=0
  ·have g0:(((b.length%2:Nat):Int)=0)=True:=eq_true (by omega);rw[decide_eq_true he,show eO b=kT b from if_pos he];have r0:List.replicate (Int.toNat 0) (D.int .i64 0)=([]:List D):=rfl;simp only[yX,af,ae,aa,seval,iteOmega,toNatUp,t2,g0,t5];refine bf (zS b) (fun k=>b.length / 2-k) (fun k=>2*k≤b.length) 0 (Yd _) ?_ ?_
   ·refine aD (fun _=>104) ?_ ?_ rfl rfl <;> simp only[wx,aC,aK,aa,seval,iteOmega,toNatUp] <;> first | rfl | exact⟨rfl,rfl⟩ | skip
   ·intro k hk;have az:=P0 (jm b k);have nl:=HN b k;by_cases hlt:2*k<b.length
    ·have l1:(aI b (2*k) 2).length=2:=jr (by omega);have c:=jx G (aI b (2*k) 2) (by omega);have b2:=(iV 2 (aI b (2*k) 2) l1 (by decide)).1;have hs:=Q3 b k;have hA:na b k=(aR (aI b (2*k) 2):Int):=rfl;have t1:(b.drop (2*k)).take 2=aI b (2*k) 2:=rfl;have t3:(b.drop (2*k)).take (2*k+2-2*k)=aI b (2*k) 2:=by rw[ZJ]; rfl
     have e5:2*((k:Int)+1)=2*(k:Int)+2:=by omega
     have g1:(((2*k:Nat):Int)<(b.length:Int))=True:=eq_true (by omega);generalize aR (aI b (2*k) 2)=N at *
     rw[hA] at hs;simp only[xj,zS,ae,aa,seval,iteOmega,toNatUp,g1,t1,t3];refine sC (c) ?_;simp only[bK,ae,aa,seval,iteOmega,toNatUp];refine a6 (k+1) (by omega) (by omega) (aD (fun _=>232) ?_ ?_ rfl rfl) <;> simp only[hs,YD,zD,e5,wx,aC,aK,aa,seval,iteOmega,toNatUp] <;> first | rfl | exact⟨rfl,rfl⟩ | skip
    ·have hk2:k=b.length / 2:=by omega
     have g1:(((2*k:Nat):Int)<(b.length:Int))=False:=eq_false (by omega);subst hk2;unfold kT;simp only[xj,zS,ae,aa,seval,iteOmega,toNatUp,g1];exact aW
  ·have g0:(((b.length%2:Nat):Int)=0)=False:=eq_false (by omega);rw[decide_eq_false he,show eO b=[] from if_neg he];simp only[yX,af,ae,aa,seval,iteOmega,toNatUp,t2,g0];exact aW
def Kv:aA:=⟨2,8,.seq (.reg [oO 4 (.alloc [(.d (.bool false)),(.d (.int .i64 0)),.nil])]) (.seq (.reg [oM 5 0,oM 6 1,oO 7 (.build [(.d (.bool false)),(.d (.int .i64 0)),.nil] [(0,1,(.k (.c (.d (.bool true))))),(1,1,(.t 5)),(2,1,(.t 6))]),oN (.store (.ag 3) (.t 4) (.t 7))]) (.ret)),[(4,(some (.ag 3)))]⟩
theorem VR:aw Tryz.prog { own:=[],comp:=[],frz:=[],nils:=[] } Tryz.f52=some Kv:=by kernel_rfl
theorem iG (G:ah) (k:Int) (b:List UInt8):aj Tryz.prog G 52 [.int .i64 k,.sl (b.map bD)] (.w (.c (.d (.agg [.bool true,.int .i64 k,.sl (b.map bD)])))):=by
  refine aB Tryz.func52 VR rfl rfl ?_;simp only[Kv,af,ae,aa,seval,iteOmega,toNatUp];exact aF
def yY:aA:=⟨1,22,.seq (.reg [oO 1 (.box .roBox (.t 0)),oO 2 (.mv (.k (.c .nil)))]) (.seq (.reg [oO 4 (.fieldAddr 1 (.t 1)),oO 5 (.load .sc (.t 4)),oM 3 5]) (.seq (.seq (.reg [oO 6 (.fieldAddr 0 (.t 1)),oO 7 (.load .sc (.t 6))]) (.cond (.t 7) (.reg [oM 8 3,oO 9 (.bin .add (.t 8) (kI 32768)),oM 3 9]) (.skip))) (.seq (.reg [oM 10 3,oO 11 (.conv .u64 (.t 10)),oO 12 (.call 91 [(.t 11),(kI 2)] none),oO 13 (.fieldAddr 2 (.t 1)),oO 14 (.load .sc (.t 13)),oO 15 (.len (.t 14)),oO 16 (.conv .u64 (.t 15)),oO 17 (.call 91 [(.t 16),(kI 2)] none),oO 18 (.fieldAddr 2 (.t 1)),oO 19 (.load .sc (.t 18)),oO 20 (.bldSl false 3 1 (.sl []) [(0,(.t 12)),(1,(.t 17)),(2,(.t 19))]),oO 21 (.call 90 [(.t 20)] none),oM 2 21]) (.ret)))),[(2,none)]⟩
theorem VS:aw Tryz.prog { own:=[],comp:=[],frz:=[],nils:=[] } Tryz.f42=some yY:=by kernel_rfl
theorem Xt (G:ah) (r:Ek) (h:cM r=0):aj Tryz.prog G 42 [aN r] (.w (.c (.d (.sl ((eD r).map bD))))):=by
  refine aB Tryz.func42 VS rfl rfl ?_;obtain⟨h1,h2,h3⟩:=lB h;have hT:il r=r.ty.toNat+if r.cr=true then 32768 else 0:=rfl
  have hB:eD r=aP (il r) 2++(aP r.bo.length 2++r.bo):=rfl;generalize eD r=B at *
  generalize il r=T at *
  obtain⟨cr,ty,bo⟩:=r;dsimp only at *
  obtain⟨a,rfl⟩:=YR h1;rw[show ((a:Nat):Int).toNat=a from rfl] at hT;have c2:=kf G bo.length 2 (by decide);have c1:=kf G T 2 (by decide);rw[show (2:Int).toNat=2 from rfl] at c1 c2;have c3:=dU G [aP T 2,aP bo.length 2,bo] (by simp) (by simp[bN]; omega);rw[show [aP T 2,aP bo.length 2,bo].flatten=B from by rw[hB]; simp] at c3;simp only[Ya,Yo] at c3;have hBl:B.length≤70000:=by rw[hB]; simp[bN]; omega
  clear hB;generalize aP T 2=P1 at *
  generalize aP bo.length 2=P2 at *
  unfold aN;cases cr
  ·rw[if_neg Bool.false_ne_true,Ze] at hT;subst hT;simp only[yY,af,ae,aa,seval,iteOmega,toNatUp];refine sD (c1) ?_;refine sD (c2) ?_;refine sD (c3) ?_;exact aF
  ·rw[if_pos rfl] at hT;subst hT;simp only[ZD,Zs] at c1;simp only[yY,af,ae,aa,seval,iteOmega,toNatUp];refine sD (c1) ?_;refine sD (c2) ?_;refine sD (c3) ?_;exact aF
def lW (l:List Ek) (i:Nat):St:=⟨aY [(0,.w (.c (.d (.sl (l.map aN))))),(4,.w (.c (.d (.int .i64 ((be (l.take i)).length:Int))))),(10,.w (.c (.d (.sl (l.map aN))))),(11,.w (.c (.d (.int .i64 (l.length:Int))))),(12,.w (.c (.d (.int .i64 (i:Int)))))],hL [],uL []⟩
def An (l:List Ek) (i:Nat):St:=⟨aY [(7,.w (.c (.own 1 1 0 (be (l.take i)).length))),(42,.w (.c (.d (.sl (l.map aN))))),(43,.w (.c (.d (.int .i64 (l.length:Int))))),(44,.w (.c (.d (.int .i64 (i:Int)))))],hL [(1,.row 1 ((be (l.take i)).map bD))],uL [1]⟩
theorem FI {l:List Ek} {i:Nat} (h:i<l.length):be (l.take (i+1))=be (l.take i)++eD (l.getD i default):=by
  rw[rx h,Hg,nD,Hf,Ym]
theorem VT (l:List Ek) (h:∀ r∈l,r.bo.length≤65535):(be l).length≤65539*l.length:=by
  induction l with
  | nil=>exact Ye _
  | cons r l ih =>
    have:=ih fun x hx=>h x (Yr _ hx)
    have:=h r YF;rw[nD,X5,nN,YZ];omega
theorem To (l:List Ek) (i:Nat):(be (l.take i)).length≤(be l).length:=by
  have:=congrArg List.length (show be (l.take i++l.drop i)=_ from Hg _ _);rw[YI,X5] at this;omega
def lf:aO := .seq (.reg [oO 13 (.bin .lss (.t 12) (.t 11))]) (.seq (.cond (.t 13) (.skip) (.exit 0)) (.seq (.block 1 (.seq (.reg [oO 14 (.idxSl 3 (.t 10) (.t 12)),oO 15 (.load (.ag 3) (.t 14)),oO 6 (.alloc [(.d (.bool false)),(.d (.int .i64 0)),.nil]),oN (.store (.ag 3) (.t 6) (.t 15))]) (.seq (.seq (.reg [oO 16 (.fieldAddr 1 (.t 6)),oO 17 (.load .sc (.t 16)),oO 18 (.bin .lss (.t 17) (kI 0)),oM 19 18,oG 20 (.fieldAddr 1 (.t 6)) 19 false,oG 21 (.load .sc (.t 20)) 19 false,oG 22 (.bin .geq (.t 21) (kI 32768)) 19 false,oO 23 (.pick (.t 19) (.k (.c (.d (.bool true)))) (.t 22))]) (.cond (.t 23) (.seq (.reg [oO 2 (.mv (.k (.c .nil))),oO 3 (.mv (kI 4))]) (.ret)) (.skip))) (.seq (.seq (.reg [oO 24 (.fieldAddr 2 (.t 6)),oO 25 (.load .sc (.t 24)),oO 26 (.len (.t 25)),oO 27 (.bin .gtr (.t 26) (kI 65535))])
 (.cond (.t 27) (.seq (.reg [oO 2 (.mv (.k (.c .nil))),oO 3 (.mv (kI 2))]) (.ret)) (.skip))) (.reg [oM 28 4,oO 29 (.fieldAddr 2 (.t 6)),oO 30 (.load .sc (.t 29)),oO 31 (.len (.t 30)),oO 32 (.bin .add (kI 4) (.t 31)),oO 33 (.bin .add (.t 28) (.t 32)),oM 4 33]))))) (.reg [oO 34 (.bin .add (.t 12) (kI 1)),oM 12 34])))
def xk:aO := .seq (.reg [oO 45 (.bin .lss (.t 44) (.t 43))]) (.seq (.cond (.t 45) (.skip) (.exit 2)) (.seq (.block 3 (.seq (.reg [oO 46 (.idxSl 3 (.t 42) (.t 44)),oO 47 (.load (.ag 3) (.t 46)),oO 9 (.alloc [(.d (.bool false)),(.d (.int .i64 0)),.nil]),oN (.store (.ag 3) (.t 9) (.t 47))]) (.reg [oM 48 7,oO 49 (.load (.ag 3) (.t 9)),oO 50 (.call 42 [(.t 49)] none),oO 51 (.app false 1 1 (.t 48) (.t 50)),oM 7 51]))) (.reg [oO 52 (.bin .add (.t 44) (kI 1)),oM 44 52])))
def Kw:aA:=⟨1,54,.seq (.reg [oO 2 (.mv (.k (.c .nil))),oO 3 (.mv (kI 0))]) (.seq (.reg [oO 4 (.mv (kI 0))]) (.seq (.seq (.reg [oM 10 0,oO 11 (.len (.t 10)),oO 12 (.mv (kI 0))]) (.block 0 (.loop lf))) (.seq (.seq (.reg [oM 35 0,oO 36 (.len (.t 35)),oO 37 (.bin .gtr (.t 36) (kI 64))]) (.cond (.t 37) (.seq (.reg [oO 2 (.mv (.k (.c .nil))),oO 3 (.mv (kI 8))]) (.ret)) (.skip))) (.seq (.seq (.reg [oM 38 4,oO 39 (.bin .gtr (.t 38) (kI 65535))]) (.cond (.t 39) (.seq (.reg [oO 2 (.mv (.k (.c .nil))),oO 3 (.mv (kI 2))]) (.ret)) (.skip))) (.seq (.reg [oM 40 4,oO 41 (.make true 1 1 (.int .u8 0) (kI 0) (.t 40)),oM 7 41]) (.seq (.seq (.reg [oM 42 0,oO 43 (.len (.t 42)),oO 44 (.mv (kI 0))]) (.block 2 (.loop xk))) (.seq (.reg [oM 53 7,oM 2 53,oO 3 (.mv (kI 0))]) (.ret)))))))),[(2,none),(3,none)]⟩
theorem VU:aw Tryz.prog { own:=[],comp:=[],frz:=[],nils:=[] } Tryz.f10=some Kw:=by kernel_rfl
theorem LM (G:ah) (l:List Ek) (hl:l.length≤1000000) (hb:∀ r∈l,r.bo.length≤1000000000000):aj Tryz.prog G 10 [.sl (l.map aN)] (.tup [.c (.fr 1 ((jO l).map bD)),.c (.d (.int .i64 (dX l)))]):=by
  refine aB Tryz.func10 VU rfl rfl ?_;simp only[Kw,af,ae,aa,seval,iteOmega,toNatUp];refine bf (lW l) (fun i=>l.length-i) (fun i=>i≤l.length∧eE (l.take i)=0) 0 ⟨Yd _,by rw[Zf]; rfl⟩ ?_ ?_
  ·refine aD (fun _=>0) ?_ ?_ rfl rfl <;> simp only[wx,aC,aK,aa,seval,iteOmega,toNatUp] <;> first | rfl | exact⟨rfl,rfl⟩ | skip
  ·rintro i ⟨hi,hW⟩;have hA:=VT (l.take i) fun r hr=>(lB (tV.1 hW r hr)).2.2
   rw[Yb,Nat.min_eq_left hi] at hA;by_cases hlt:i<l.length
   ·have g:=kF hlt;have hm:=hb _ (js hlt);have hst:=P5 hlt hW;have hnx:=E0 hlt hW;have hno:∀ e,cM (l.getD i default)=e→e≠0→dX l=e∧jO l=[]:=fun e h1 h2=>by
      have h3:=hst (by rw[h1]; exact h2);have h4:dX l=e:=by unfold dX; rw[if_neg (by rw[h3,h1]; exact h2),h3,h1]
      exact⟨h4,if_neg (by rw[h4]; exact h2)⟩
    have hF:cM (l.getD i default)=if (l.getD i default).ty<0∨32767<(l.getD i default).ty then 4 else if 65535<(l.getD i default).bo.length then 2 else 0:=rfl
    have eA:((be (l.take (i+1))).length:Int)=((be (l.take i)).length:Int)+(4+((l.getD i default).bo.length:Int)):=by
      rw[FI hlt,X5,nN]; omega
    generalize hx:l.getD i default=x at *
    generalize cM x=f at *
    generalize hAq:(be (l.take i)).length=A at *
    obtain⟨cr,ty,bo⟩:=x;dsimp only at *
    by_cases h1:ty<0
    ·have g1:=eq_true h1;obtain⟨q1,q2⟩:=hno 4 (by rw[hF,if_pos (.inl h1)]) (by decide);rw[q1,q2];clear hst hnx hno eA;simp only[lf,lW,hAq,ae,aa,seval,iteOmega,toNatUp,aL,g,aN,g1];exact dw
    ·have g1:=eq_false h1;by_cases h2:ty≥32768
     ·have g2:=eq_true h2;obtain⟨q1,q2⟩:=hno 4 (by rw[hF,if_pos (.inr (by omega))]) (by decide);rw[q1,q2];clear hst hnx hno eA;simp only[lf,lW,hAq,ae,aa,seval,iteOmega,toNatUp,aL,g,aN,g1,g2];exact dw
     ·have g2:=eq_false h2;rw[if_neg (by omega)] at hF;by_cases h3:65535<bo.length
      ·have g3:((bo.length:Int)>65535)=True:=eq_true (by omega);obtain⟨q1,q2⟩:=hno 2 (by rw[hF,if_pos h3]) (by decide);rw[q1,q2];clear hst hnx hno eA;simp only[lf,lW,hAq,ae,aa,seval,iteOmega,toNatUp,aL,g,aN,g1,g2,g3];exact dw
      ·have g3:((bo.length:Int)>65535)=False:=eq_false (by omega);rw[if_neg h3] at hF;subst hF;clear hst hno;simp only[lf,lW,hAq,ae,aa,seval,iteOmega,toNatUp,aL,g,aN,g1,g2,g3];refine a6 (i+1) (by omega) ⟨by omega,by rw[hnx]⟩ (aD (fun i=>i) ?_ ?_ rfl rfl) <;> simp only[eA,wx,aC,aK,aa,seval,iteOmega,toNatUp] <;> first | rfl | exact⟨rfl,rfl⟩ | skip
   ·obtain rfl:i=l.length:=by omega
    rw[Zb] at hW hA;by_cases h4:64<l.length
    ·have e:dX l=8:=by unfold dX; rw[if_pos hW,if_pos h4]
     rw[show jO l=[] from if_neg (by rw[e]; decide),e];have g4:((l.length:Int)>64)=True:=eq_true (by omega);simp only[lf,lW,ae,aa,seval,iteOmega,toNatUp,g4];exact dw
    ·have g4:((l.length:Int)>64)=False:=eq_false (by omega);by_cases h5:(be l).length≤65535
     ·have e:dX l=0:=by unfold dX; rw[if_pos hW,if_neg h4,if_neg (by omega)]
      rw[show jO l=be l from if_pos e,e];have g5:(((be l).length:Int)>65535)=False:=eq_false (by omega);have r0:List.replicate (Int.toNat 0) (D.int .u8 0)=([]:List D):=rfl;simp only[lf,lW,ae,aa,seval,iteOmega,toNatUp,g4,g5,r0];refine bf (An l) (fun i=>l.length-i) (fun i=>i≤l.length) 0 (Yd _) ?_ ?_
      ·refine aD (fun _=>328) ?_ ?_ rfl rfl <;> simp only[wx,aC,aK,aa,seval,iteOmega,toNatUp] <;> first | rfl | exact⟨rfl,rfl⟩ | skip
      ·intro i hi;by_cases hlt:i<l.length
       ·have g:=kF hlt;have c:=Xt G (l.getD i default) (tV.1 hW _ (js hlt));have ha:=FI hlt;have h1:=To l (i+1);rw[ha,X5] at h1;unfold aN at c;generalize l.getD i default=x at *
        generalize eD x=B at *
        generalize hAq:be (l.take i)=A at *
        simp only[xk,An,hAq,ae,aa,seval,iteOmega,toNatUp,aL,g,aN];refine sC (c) ?_;simp only[bK,ae,aa,seval,iteOmega,toNatUp];refine a6 (i+1) (by omega) (by omega) (aD (fun _=>408) ?_ ?_ rfl rfl) <;> simp only[ha,wx,aC,aK,aa,seval,iteOmega,toNatUp] <;> first | rfl | exact⟨rfl,rfl⟩ | skip
       ·have hil:l.take i=l:=X7 (by omega);simp only[xk,An,ae,aa,seval,iteOmega,toNatUp,hil];exact dw
     ·have e:dX l=2:=by unfold dX; rw[if_pos hW,if_neg h4,if_pos (by omega)]
      rw[show jO l=[] from if_neg (by rw[e]; decide),e];have g5:(((be l).length:Int)>65535)=True:=eq_true (by omega);simp only[lf,lW,ae,aa,seval,iteOmega,toNatUp,g4,g5];exact dw
theorem LN (G:ah) (l:List Ek) (hl:l.length≤1000000) (hb:∀ r∈l,r.bo.length≤1000000000000):aj Tryz.prog G 10 [.sl (l.map aN)] (.tup [.c (.d (.sl ((jO l).map bD))),.c (.d (.int .i64 (dX l)))]):=pZ (LM G l hl hb)
def tC:aA:=⟨1,18,.seq (.reg [oO 2 (.mv (kI 0)),oO 3 (.mv (.k (.c (.d (.bool false)))))]) (.seq (.seq (.reg [oM 5 0,oO 6 (.len (.t 5)),oO 7 (.bin .lss (.t 6) (kI 4))]) (.cond (.t 7) (.seq (.reg [oO 2 (.mv (kI 0)),oO 3 (.mv (.k (.c (.d (.bool false)))))]) (.ret)) (.skip))) (.seq (.reg [oM 8 0,oO 9 (.slice 1 (.t 8) (some (kI 2)) (some (kI 4)) none),oO 10 (.call 48 [(.t 9)] none),oO 11 (.conv .i64 (.t 10)),oO 12 (.bin .add (kI 4) (.t 11)),oM 4 12]) (.seq (.reg [oM 13 4,oM 14 4,oM 15 0,oO 16 (.len (.t 15)),oO 17 (.bin .leq (.t 14) (.t 16)),oM 2 13,oM 3 17]) (.ret)))),[(2,none),(3,none)]⟩
theorem VV:aw Tryz.prog { own:=[],comp:=[],frz:=[],nils:=[] } Tryz.f45=some tC:=by kernel_rfl
theorem Xu (G:ah) (b:List UInt8) (hb:b.length≤1000000000000):aj Tryz.prog G 45 [.sl (b.map bD)] (.tup [.c (.d (.int .i64 (if b.length<4 then 0 else ((4+cI b:Nat):Int)))),.c (.d (.bool (decide (4≤b.length∧4+cI b≤b.length))))]):=by
  refine aB Tryz.func45 VV rfl rfl ?_;by_cases h:b.length<4
  ·rw[if_pos h,decide_eq_false (by omega)];have g:((b.length:Int)<4)=True:=eq_true (by omega);simp only[tC,af,ae,aa,seval,iteOmega,toNatUp,g];exact aW
  ·rw[if_neg h];have g:((b.length:Int)<4)=False:=eq_false (by omega);have l3:(aI b 2 2).length=2:=jr (by omega);have b3:=(iV 2 (aI b 2 2) l3 (by decide)).1;have c:=jx G (aI b 2 2) (by omega);have hN:cI b=aR (aI b 2 2):=rfl;have t1:(b.drop 2).take 2=aI b 2 2:=rfl;have t2:(b.drop 2).take (4-2)=aI b 2 2:=rfl;generalize aR (aI b 2 2)=N at *
   rw[hN];by_cases h2:4+N≤b.length
   ·rw[decide_eq_true (by omega)];have g2:((4:Int)+(N:Int)≤(b.length:Int))=True:=eq_true (by omega);simp only[tC,af,ae,aa,seval,iteOmega,toNatUp,g,t1,t2];refine sC (c) ?_;simp only[g2,ae,aa,seval,iteOmega,toNatUp];exact aW
   ·rw[decide_eq_false (by omega)];have g2:((4:Int)+(N:Int)≤(b.length:Int))=False:=eq_false (by omega);simp only[tC,af,ae,aa,seval,iteOmega,toNatUp,g,t1,t2];refine sC (c) ?_;simp only[g2,ae,aa,seval,iteOmega,toNatUp];exact aW
def ve (b:List UInt8):Ek:=⟨decide (32768≤(aR (b.take 2):Int)),(aR (b.take 2):Int)%32768,b.drop 4⟩
theorem Xv (n:Nat):Int.tmod (n:Int) 32768=(n:Int)%32768:=rfl
def yZ:aA:=⟨1,17,.seq (.reg [oO 2 (.alloc [(.d (.bool false)),(.d (.int .i64 0)),.nil])]) (.seq (.reg [oM 4 0,oO 5 (.slice 1 (.t 4) none (some (kI 2)) none),oO 6 (.call 48 [(.t 5)] none),oO 7 (.conv .i64 (.t 6)),oM 3 7]) (.seq (.reg [oM 8 3,oO 9 (.bin .geq (.t 8) (kI 32768)),oM 10 3,oO 11 (.bin .rem (.t 10) (kI 32768)),oM 12 0,oO 13 (.slice 1 (.t 12) (some (kI 4)) none none),oO 14 (.bldSl false 1 1 (.sl []) [(0,(.t 13))]),oO 15 (.call 90 [(.t 14)] none),oO 16 (.build [(.d (.bool false)),(.d (.int .i64 0)),.nil] [(0,1,(.t 9)),(1,1,(.t 11)),(2,1,(.t 15))]),oN (.store (.ag 3) (.t 2) (.t 16))]) (.ret))),[(2,(some (.ag 3)))]⟩
theorem VW:aw Tryz.prog { own:=[],comp:=[],frz:=[],nils:=[] } Tryz.f46=some yZ:=by kernel_rfl
theorem Xw (G:ah) (b:List UInt8) (hb:b.length≤1000000000000) (h4:4≤b.length):aj Tryz.prog G 46 [.sl (b.map bD)] (.w (.c (.d (aN (ve b))))):=by
  refine aB Tryz.func46 VW rfl rfl ?_;have l3:(b.take 2).length=2:=by rw[Yb]; omega
  have b3:=(iV 2 (b.take 2) l3 (by decide)).1;have c:=jx G (b.take 2) (by omega);have cj:=dU G [b.drop 4] (by simp) (by simp; omega);rw[show [b.drop 4].flatten=b.drop 4 from by simp] at cj;simp only[Ya,Yo] at cj;have dl:(b.drop 4).length=b.length-4:=Yg;have t1:(b.drop 4).take (b.length-4)=b.drop 4:=X7 (by omega);unfold ve aN;generalize aR (b.take 2)=K at *
  have hm:=Xv K;generalize hB:b.drop 4=B at *
  generalize hA:b.take 2=A at *
  by_cases hk:(K:Int)≥32768
  ·have gk:=eq_true hk;rw[decide_eq_true (show (32768:Int)≤K from hk)];simp only[yZ,af,ae,aa,seval,iteOmega,toNatUp,hA];refine sC (c) ?_;simp only[hm,hB,t1,gk,ae,aa,seval,iteOmega,toNatUp];refine sC (cj) ?_;simp only[hm,hB,t1,gk,ae,aa,seval,iteOmega,toNatUp];exact aF
  ·have gk:=eq_false hk;rw[decide_eq_false (show ¬ (32768:Int)≤K from hk)];simp only[yZ,af,ae,aa,seval,iteOmega,toNatUp,hA];refine sC (c) ?_;simp only[hm,hB,t1,gk,ae,aa,seval,iteOmega,toNatUp];refine sC (cj) ?_;simp only[hm,hB,t1,gk,ae,aa,seval,iteOmega,toNatUp];exact aF
structure Dw where
  r:List UInt8
  o:List Fd
def oE (t:Dw):St:=⟨aY [(0,.w (.c (.d (.sl (t.r.map bD))))),(4,.w (.c (.own 1 3 0 t.o.length)))],hL [(1,.row 3 ((t.o.map ew).map aN))],uL [1]⟩
theorem VX {r:List UInt8} (h1:¬ r.length<4) (h2:¬ r.length-4<cI r):ve (r.take (4+cI r))=ew (fT r):=by
  have e1:(r.take (4+cI r)).take 2=r.take 2:=by rw[List.take_take,Nat.min_eq_left (by omega)]
  have e2:(r.take (4+cI r)).drop 4=aI r 4 (cI r):=by rw[List.drop_take,ZJ]; rfl
  unfold ve ew fT;rw[e1,e2]
theorem Tp {b r:List UInt8} {o:List Fd} (hd:dO b=(dO r).map (o++·)) (h1:¬ r.length<4) (h2:¬ r.length-4<cI r):dO b=(dO (r.drop (4+cI r))).map ((o++[fT r])++·):=by
  rw[hd,yu h1 h2,Option.map_map]
  congr 1
  funext x
  simp
def nI:aO := .seq (.seq (.reg [oM 10 0,oO 11 (.len (.t 10)),oO 12 (.bin .gtr (.t 11) (kI 0))]) (.cond (.t 12) (.skip) (.exit 0))) (.block 1 (.seq (.reg [oM 14 0,oO 15 (.call 45 [(.t 14)] none),oM 13 15,oO 16 (.extract (.t 13) 0),oO 17 (.extract (.t 13) 1),oM 5 16,oM 6 17]) (.seq (.seq (.reg [oM 18 6,oO 19 (.un .not (.t 18))]) (.cond (.t 19) (.seq (.reg [oO 2 (.mv (.k (.c .nil))),oO 3 (.mv (kI 1))]) (.ret)) (.skip))) (.seq (.reg [oM 20 4,oM 21 0,oM 22 5,oO 23 (.slice 1 (.t 21) none (some (.t 22)) none),oO 24 (.call 46 [(.t 23)] none),oO 25 (.bldSl false 1 3 (.agg [(.bool false),(.int .i64 0),(.sl [])]) [(0,(.t 24))]),oO 26 (.app false 3 40 (.t 20) (.t 25)),oM 4 26]) (.reg [oM 27 0,oM 28 5,oO 29 (.slice 1 (.t 27) (some (.t 28)) none none),oM 0 29])))))
def y5:aA:=⟨1,34,.seq (.reg [oO 2 (.mv (.k (.c .nil))),oO 3 (.mv (kI 0))]) (.seq (.seq (.reg [oM 7 0,oO 8 (.len (.t 7)),oO 9 (.bin .gtr (.t 8) (kI 65535))]) (.cond (.t 9) (.seq (.reg [oO 2 (.mv (.k (.c .nil))),oO 3 (.mv (kI 2))]) (.ret)) (.skip))) (.seq (.reg [oO 4 (.nilOwn 3)]) (.seq (.block 0 (.loop nI)) (.seq (.seq (.reg [oM 30 4,oO 31 (.len (.t 30)),oO 32 (.bin .gtr (.t 31) (kI 64))]) (.cond (.t 32) (.seq (.reg [oO 2 (.mv (.k (.c .nil))),oO 3 (.mv (kI 8))]) (.ret)) (.skip))) (.seq (.reg [oM 33 4,oM 2 33,oO 3 (.mv (kI 0))]) (.ret)))))),[(2,none),(3,none)]⟩
theorem VY:aw Tryz.prog { own:=[4],comp:=[],frz:=[],nils:=[] } Tryz.f12=some y5:=by kernel_rfl
theorem Xx (G:ah) (b:List UInt8) (hb:b.length≤1000000000):aj Tryz.prog G 12 [.sl (b.map bD)] (.tup [.c (.d (.sl ((aG b).map aN))),.c (.d (.int .i64 (dP b)))]):=by
  refine aB Tryz.func12 VY rfl rfl ?_;by_cases h0:65535<b.length
  ·have g0:((b.length:Int)>65535)=True:=eq_true (by omega);have e1:im b=2:=if_pos h0;have e2:dP b=2:=by unfold dP; rw[e1]; rfl
   rw[e2,show aG b=[] from if_neg (by rw[e2]; decide)];simp only[y5,af,ae,aa,seval,iteOmega,toNatUp,g0];exact aW
  ·have g0:((b.length:Int)>65535)=False:=eq_false (by omega);simp only[y5,af,ae,aa,seval,iteOmega,toNatUp,g0];refine bf oE (fun t=>t.r.length) (fun t=>t.r.length+t.o.length≤b.length∧dO b=(dO t.r).map (t.o++·)) ⟨b,[]⟩ ⟨Ye _,by cases dO b <;> rfl⟩ ?_ ?_
   ·refine aD (fun _=>32) ?_ ?_ rfl rfl <;> simp only[wx,aC,aK,aa,seval,iteOmega,toNatUp] <;> first | rfl | exact⟨rfl,rfl⟩ | skip
   ·rintro⟨r,o⟩ ⟨hol,hd⟩;dsimp only at hol hd;have az:=nC (o.map ew);have ol:(o.map ew).length=o.length:=Yc ..;by_cases hlt:0<r.length
    ·have g1:((r.length:Int)>0)=True:=eq_true (by omega);have c:=Xu G r (by omega);by_cases h1:r.length<4
     ·rw[if_pos h1,decide_eq_false (by omega)] at c;rw[Hi (by omega) h1] at hd;have e1:im b=1:=by unfold im; rw[if_neg h0,hd]; rfl
      have e2:dP b=1:=by unfold dP; rw[e1]; rfl
      rw[e2,show aG b=[] from if_neg (by rw[e2]; decide)];simp only[nI,oE,ae,aa,seval,iteOmega,toNatUp,g1];refine sD (c) ?_;exact aW
     ·rw[if_neg h1] at c;by_cases h2:r.length-4<cI r
      ·rw[decide_eq_false (by omega)] at c;rw[CI h1 h2] at hd;have e1:im b=1:=by unfold im; rw[if_neg h0,hd]; rfl
       have e2:dP b=1:=by unfold dP; rw[e1]; rfl
       rw[e2,show aG b=[] from if_neg (by rw[e2]; decide)];simp only[nI,oE,ae,aa,seval,iteOmega,toNatUp,g1];refine sD (c) ?_;exact aW
      ·rw[decide_eq_true (by omega)] at c;have hd2:=Tp hd h1 h2;have hr:=VX h1 h2;have tl:(r.take (4+cI r)).length=4+cI r:=by rw[Yb]; omega
       have dl:(r.drop (4+cI r)).length=r.length-(4+cI r):=Yg;have c2:=Xw G (r.take (4+cI r)) (by omega) (by omega);rw[hr] at c2;have eo:((o++[fT r]).map ew).map aN=(o.map ew).map aN++[aN (ew (fT r))]:=by simp
       have lo:(o++[fT r]).length=o.length+1:=by simp
       have cz:(aN (ew (fT r))).cells.length=3:=rfl;have t3:(r.drop (4+cI r)).take (r.length-(4+cI r))=r.drop (4+cI r):=X7 (by omega);generalize hR:o++[fT r]=O at *
       generalize aN (ew (fT r))=E at *
       generalize hK:4+cI r=K at *
       simp only[nI,oE,ae,aa,seval,iteOmega,toNatUp,g1];refine sC (c) ?_;simp only[bK,ae,aa,seval,iteOmega,toNatUp];refine sC (c2) ?_;simp only[bK,cz,t3,ae,aa,seval,iteOmega,toNatUp];refine a6 (⟨r.drop K,O⟩:Dw) (by dsimp only; omega) ⟨by dsimp only; omega,by dsimp only; exact hd2⟩ (aD (fun _=>208) ?_ ?_ rfl rfl) <;> simp only[eo,lo,wx,aC,aK,aa,seval,iteOmega,toNatUp] <;> first | rfl | exact⟨rfl,rfl⟩ | skip
    ·have g1:((r.length:Int)>0)=False:=eq_false (by omega);obtain rfl:r=[]:=YA.1 (by omega);rw[sQ] at hd;have hd:dO b=some o:=by rw[hd]; simp
     have e1:im b=0:=by unfold im; rw[if_neg h0,hd]; rfl
     have e2:kP b=o:=by unfold kP; rw[if_neg h0,hd]; rfl
     by_cases h64:64<o.length
     ·have e3:dP b=8:=by unfold dP; rw[if_pos e1,e2,if_pos h64]
      rw[e3,show aG b=[] from if_neg (by rw[e3]; decide)];have g2:((o.length:Int)>64)=True:=eq_true (by omega);simp only[nI,oE,ae,aa,seval,iteOmega,toNatUp,g1,g2,ol];exact aW
     ·have e3:dP b=0:=by unfold dP; rw[if_pos e1,e2,if_neg h64]
      rw[e3,show aG b=o.map ew from by unfold aG; rw[if_pos e3,e2]];have g2:((o.length:Int)>64)=False:=eq_false (by omega);simp only[nI,oE,ae,aa,seval,iteOmega,toNatUp,g1,g2,ol];exact aW
def tD:aA:=⟨1,11,.seq (.reg [oO 2 (.mv (.k (.c (.d (.bool false)))))]) (.seq (.reg [oM 3 0,oO 4 (.len (.t 3)),oO 5 (.bin .geq (.t 4) (kI 1)),oM 6 5,oG 7 (.mv (.t 0)) 6 true,oG 8 (.len (.t 7)) 6 true,oG 9 (.bin .leq (.t 8) (kI 16)) 6 true,oO 10 (.pick (.t 6) (.t 9) (.k (.c (.d (.bool false))))),oM 2 10]) (.ret)),[(2,none)]⟩
theorem VZ:aw Tryz.prog { own:=[],comp:=[],frz:=[],nils:=[] } Tryz.f51=some tD:=by kernel_rfl
theorem LO (G:ah) (l:List Int) (hl:l.length≤9000000000000000000):aj Tryz.prog G 51 [.sl (l.map zD)] (.w (.c (.d (.bool (decide (1≤l.length∧l.length≤16)))))):=by
  refine aB Tryz.func51 VZ rfl rfl ?_;by_cases h1:1≤l.length
  ·have g1:((l.length:Int)≥1)=True:=eq_true (by omega);by_cases h2:l.length≤16
   ·have g2:((l.length:Int)≤16)=True:=eq_true (by omega);rw[decide_eq_true ⟨h1,h2⟩];simp only[tD,af,ae,aa,seval,iteOmega,toNatUp,g1,g2];exact aF
   ·have g2:((l.length:Int)≤16)=False:=eq_false (by omega);rw[decide_eq_false (by omega)];simp only[tD,af,ae,aa,seval,iteOmega,toNatUp,g1,g2];exact aF
  ·have g1:((l.length:Int)≥1)=False:=eq_false (by omega);rw[decide_eq_false (by omega)];simp only[tD,af,ae,aa,seval,iteOmega,toNatUp,g1];exact aF
def oe:aA:=⟨2,33,.seq (.reg [oO 4 (.mv (.k (.c .nil))),oO 5 (.mv (kI 0))]) (.seq (.seq (.reg [oM 6 0,oO 7 (.call 50 [(.t 6)] none),oO 8 (.un .not (.t 7)),oM 9 8,oG 10 (.mv (.t 1)) 9 false,oG 11 (.call 50 [(.t 10)] none) 9 false,oG 12 (.un .not (.t 11)) 9 false,oO 13 (.pick (.t 9) (.k (.c (.d (.bool true)))) (.t 12))]) (.cond (.t 13) (.seq (.reg [oO 4 (.mv (.k (.c .nil))),oO 5 (.mv (kI 4))]) (.ret)) (.skip))) (.seq (.seq (.reg [oM 14 0,oO 15 (.call 51 [(.t 14)] none),oO 16 (.un .not (.t 15)),oM 17 16,oG 18 (.mv (.t 1)) 17 false,oG 19 (.call 51 [(.t 18)] none) 17 false,oG 20 (.un .not (.t 19)) 17 false,oO 21 (.pick (.t 17) (.k (.c (.d (.bool true)))) (.t 20))]) (.cond (.t 21) (.seq (.reg [oO 4 (.mv (.k (.c .nil))),oO 5 (.mv (kI 8))]) (.ret)) (.skip))) (.seq (.reg [oM 22 0,oO 23 (.call 53 [(.t 22)] none),
 oO 24 (.call 52 [(kI 1),(.t 23)] none),oM 25 1,oO 26 (.call 53 [(.t 25)] none),oO 27 (.call 52 [(kI 4),(.t 26)] none),oO 28 (.call 52 [(kI 0),(.k (.c .nil))] none),oO 29 (.bldSl false 3 3 (.agg [(.bool false),(.int .i64 0),(.sl [])]) [(0,(.t 24)),(1,(.t 27)),(2,(.t 28))]),oO 30 (.call 10 [(.t 29)] none),oO 31 (.extract (.t 30) 0),oO 32 (.extract (.t 30) 1),oM 4 31,oM 5 32]) (.ret)))),[(4,none),(5,none)]⟩
theorem V0:aw Tryz.prog { own:=[],comp:=[],frz:=[],nils:=[] } Tryz.f16=some oe:=by kernel_rfl
theorem zT (G:ah) (x y:List Int) (hx:x.length≤1000000) (hy:y.length≤1000000):aj Tryz.prog G 16 [.sl (x.map zD),.sl (y.map zD)] (.tup [.c (.d (.sl ((bi x y).map bD))),.c (.d (.int .i64 (dA x y)))]):=by
  refine aB Tryz.func16 V0 rfl rfl ?_;have c1:=oD G x (by omega);have c2:=oD G y (by omega);have c3:=LO G x (by omega);have c4:=LO G y (by omega);by_cases h1:bz x
  ·rw[decide_eq_true h1] at c1;by_cases h2:bz y
   ·rw[decide_eq_true h2] at c2;by_cases h3:1≤x.length∧x.length≤16
    ·rw[decide_eq_true h3] at c3;by_cases h4:1≤y.length∧y.length≤16
     ·rw[decide_eq_true h4] at c4;have e:dA x y=0:=by unfold dA; rw[if_neg (not_not_intro ⟨h1,h2⟩),if_neg (by omega)]
      have c5:=mN G x (by omega) h1;have c6:=mN G y (by omega) h2;have c7:=iG G 1 (aM x);have c8:=iG G 4 (aM y);have c9:=iG G 0 [];have l1:=dZ x;have l2:=dZ y;have hf:∀ r∈dB x y,cM r=0:=by
        intro r hr;simp only[dB,Yi,ZY,or_false] at hr;rcases hr with rfl | rfl | rfl <;> exact yr (by dsimp only; omega) (by dsimp only; omega) (by first | (dsimp only; omega) | simp)
      have ht:(be (dB x y)).length≤65535:=by
        simp only[dB,nD,Hf,X5,nN,Zo]; omega
      obtain⟨q1,q2⟩:=yt hf (by simp[dB]) ht;have c10:=LN G (dB x y) (by simp[dB]) (fun r hr=>by have:=(lB (hf r hr)).2.2; omega);rw[q1,q2] at c10;rw[e,show bi x y=be (dB x y) from if_pos e];have hL:(dB x y).map aN=[D.agg [.bool true,.int .i64 1,.sl ((aM x).map bD)],D.agg [.bool true,.int .i64 4,.sl ((aM y).map bD)],D.agg [.bool true,.int .i64 0,.sl []]]:=rfl;rw[hL] at c10;generalize be (dB x y)=R at *
      clear hf ht q1 q2 hL;simp only[Yo] at c9;generalize aM x=X at *
      generalize aM y=Y at *
      simp only[oe,af,ae,aa,seval,iteOmega,toNatUp];refine sD (c1) ?_;refine sD (c2) ?_;refine sD (c3) ?_;refine sD (c4) ?_;refine sD (c5) ?_;refine sD (c7) ?_;refine sD (c6) ?_;refine sD (c8) ?_;refine sD (c9) ?_;refine sD (c10) ?_;exact aW
     ·rw[decide_eq_false h4] at c4;have e:dA x y=8:=by unfold dA; rw[if_neg (not_not_intro ⟨h1,h2⟩),if_pos (by omega)]
      rw[e,show bi x y=[] from if_neg (by rw[e]; decide)];simp only[oe,af,ae,aa,seval,iteOmega,toNatUp];refine sD (c1) ?_;refine sD (c2) ?_;refine sD (c3) ?_;refine sD (c4) ?_;exact aW
    ·rw[decide_eq_false h3] at c3;have e:dA x y=8:=by unfold dA; rw[if_neg (not_not_intro ⟨h1,h2⟩),if_pos (by omega)]
     rw[e,show bi x y=[] from if_neg (by rw[e]; decide)];simp only[oe,af,ae,aa,seval,iteOmega,toNatUp];refine sD (c1) ?_;refine sD (c2) ?_;refine sD (c3) ?_;exact aW
   ·rw[decide_eq_false h2] at c2;have e:dA x y=4:=by unfold dA; rw[if_pos (fun h=>h2 h.2)]
    rw[e,show bi x y=[] from if_neg (by rw[e]; decide)];simp only[oe,af,ae,aa,seval,iteOmega,toNatUp];refine sD (c1) ?_;refine sD (c2) ?_;exact aW
  ·rw[decide_eq_false h1] at c1;have e:dA x y=4:=by unfold dA; rw[if_pos (fun h=>h1 h.1)]
   rw[e,show bi x y=[] from if_neg (by rw[e]; decide)];simp only[oe,af,ae,aa,seval,iteOmega,toNatUp];refine sD (c1) ?_;exact aW
def um (l:List Int) (v:Int) (i:Nat):St:=⟨aY [(0,.w (.c (.d (.sl (l.map zD))))),(1,.w (.c (.d (.int .i64 v)))),(7,.w (.c (.d (.int .i64 (l.length:Int))))),(8,.w (.c (.d (.int .i64 (i:Int)))))],hL [],uL []⟩
def X0 (l:List Int) (v n:Int):Prop:=(v∈l∧0≤n)∨(v∉l∧n=-1)
def sB:aO := .seq (.reg [oO 9 (.bin .lss (.t 8) (.t 7))]) (.seq (.cond (.t 9) (.skip) (.exit 0)) (.seq (.block 1 (.seq (.reg [oM 10 8,oM 5 10]) (.seq (.reg [oM 11 1,oM 12 0,oM 13 5,oO 14 (.idxSl 1 (.t 12) (.t 13)),oO 15 (.load .sc (.t 14)),oO 16 (.bin .eql (.t 11) (.t 15))]) (.cond (.t 16) (.seq (.reg [oM 17 5,oM 4 17]) (.ret)) (.skip))))) (.reg [oO 18 (.bin .add (.t 8) (kI 1)),oM 8 18])))
def Kx:aA:=⟨2,19,.seq (.reg [oO 4 (.mv (kI 0))]) (.seq (.seq (.reg [oM 6 0,oO 7 (.len (.t 6)),oO 8 (.mv (kI 0))]) (.block 0 (.loop sB))) (.seq (.reg [oO 4 (.mv (.k (.c (.d (.int .i64 (-1))))))]) (.ret))),[(4,none)]⟩
theorem V4:aw Tryz.prog { own:=[],comp:=[],frz:=[],nils:=[] } Tryz.f99=some Kx:=by kernel_rfl
theorem Xy (G:ah) (l:List Int) (v:Int) (hl:l.length≤9000000000000000000):∃ n,X0 l v n∧aj Tryz.prog G 99 [.sl (l.map zD),.int .i64 v] (.w (.c (.d (.int .i64 n)))):=by
  have key:∀ n,(∀ k,n=((l.idxOf v:Nat):Int)∧v∈l∨n=-1∧v∉l→k=n→k=n)→(n=((l.idxOf v:Nat):Int)∧v∈l∨n=-1∧v∉l)→aj Tryz.prog G 99 [.sl (l.map zD),.int .i64 v] (.w (.c (.d (.int .i64 n)))):=by
    intro n _ hn;refine aB Tryz.func99 V4 rfl rfl ?_;simp only[Kx,af,ae,aa,seval,iteOmega,toNatUp];refine bf (um l v) (fun i=>l.length-i) (fun i=>i≤l.length∧v∉l.take i) 0 ⟨Yd _,by rw[Zf]; exact ZY⟩ ?_ ?_
    ·refine aD (fun _=>0) ?_ ?_ rfl rfl <;> simp only[wx,aC,aK,aa,seval,iteOmega,toNatUp] <;> first | rfl | exact⟨rfl,rfl⟩ | skip
    ·rintro i ⟨hi,hp⟩;by_cases hlt:i<l.length
     ·have g:=lV hlt;have hm:=pT hlt;have hs:=l8 hlt;by_cases h1:v=l.getD i 0
      ·have hv:v∈l:=h1 ▸ hm;have hi2:l.idxOf v=i:=by
         have e:l=l.take i++l.getD i 0::l.drop (i+1):=by
           have:=(YI (i+1) l).symm;rw[hs,Yy] at this;exact this
         have:(l.take i++l.getD i 0::l.drop (i+1)).idxOf v=i:=by
           rw[List.idxOf_append,if_neg hp,← h1,List.idxOf_cons_self,Yb]; omega
         rw[← e] at this;exact this
       obtain⟨rfl,_⟩:=hn.resolve_right fun h=>h.2 hv
       rw[hi2];have g1:(v=l.getD i 0)=True:=eq_true h1;generalize l.getD i 0=w at *
       simp only[sB,um,ae,aa,seval,iteOmega,toNatUp,aL,g,zD,g1];exact aF
      ·have g1:(v=l.getD i 0)=False:=eq_false h1;have hn:v∉l.take (i+1):=by
         rw[hs];intro q;rcases Yj.1 q with q | q
         ·exact hp q
         ·exact h1 (X9.1 q)
       generalize l.getD i 0=w at *
       simp only[sB,um,ae,aa,seval,iteOmega,toNatUp,aL,g,zD,g1];refine a6 (i+1) (by omega) ⟨by omega,hn⟩ (aD (fun i=>i) ?_ ?_ rfl rfl) <;> simp only[wx,aC,aK,aa,seval,iteOmega,toNatUp] <;> first | rfl | exact⟨rfl,rfl⟩ | skip
     ·rw[X7 (by omega)] at hp;obtain⟨rfl,_⟩:=hn.resolve_left fun h=>hp h.2
      simp only[sB,um,ae,aa,seval,iteOmega,toNatUp];exact aF
  by_cases hv:v∈l
  ·exact⟨_,.inl ⟨hv,ZN _⟩,key _ (fun _ _ h=>h) (.inl ⟨rfl,hv⟩)⟩
  ·exact⟨_,.inr ⟨hv,rfl⟩,key _ (fun _ _ h=>h) (.inr ⟨rfl,hv⟩)⟩
def y6:aA:=⟨2,9,.seq (.reg [oO 4 (.mv (.k (.c (.d (.bool false)))))]) (.seq (.reg [oM 5 0,oM 6 1,oO 7 (.call 99 [(.t 5),(.t 6)] none),oO 8 (.bin .geq (.t 7) (kI 0)),oM 4 8]) (.ret)),[(4,none)]⟩
theorem V5:aw Tryz.prog { own:=[],comp:=[],frz:=[],nils:=[] } Tryz.f56=some y6:=by kernel_rfl
theorem LP (G:ah) (l:List Int) (v:Int) (hl:l.length≤9000000000000000000):aj Tryz.prog G 56 [.sl (l.map zD),.int .i64 v] (.w (.c (.d (.bool (decide (v∈l)))))):=by
  refine aB Tryz.func56 V5 rfl rfl ?_;obtain⟨n,hn,c⟩:=Xy G l v hl;rcases hn with ⟨h1,h2⟩ | ⟨h1,rfl⟩
  ·rw[decide_eq_true h1];have g:(n≥0)=True:=eq_true h2;simp only[y6,af,ae,aa,seval,iteOmega,toNatUp];refine sC (c) ?_;simp only[g,ae,aa,seval,iteOmega,toNatUp];exact aF
  ·rw[decide_eq_false h1];simp only[y6,af,ae,aa,seval,iteOmega,toNatUp];refine sD (c) ?_;exact aF
def uo (x y:List Int) (i:Nat):St:=⟨aY [(1,.w (.c (.d (.sl (y.map zD))))),(8,.w (.c (.d (.sl (x.map zD))))),(9,.w (.c (.d (.int .i64 (x.length:Int))))),(10,.w (.c (.d (.int .i64 (i:Int)))))],hL [],uL []⟩
def sE:aO := .seq (.reg [oO 11 (.bin .lss (.t 10) (.t 9))]) (.seq (.cond (.t 11) (.skip) (.exit 0)) (.seq (.block 1 (.seq (.reg [oO 12 (.idxSl 1 (.t 8) (.t 10)),oO 13 (.load .sc (.t 12)),oM 7 13]) (.seq (.reg [oM 14 1,oM 15 7,oO 16 (.call 56 [(.t 14),(.t 15)] none)]) (.cond (.t 16) (.seq (.reg [oM 17 7,oM 4 17,oO 5 (.mv (.k (.c (.d (.bool true)))))]) (.ret)) (.skip))))) (.reg [oO 18 (.bin .add (.t 10) (kI 1)),oM 10 18])))
def Ky:aA:=⟨2,19,.seq (.reg [oO 4 (.mv (kI 0)),oO 5 (.mv (.k (.c (.d (.bool false)))))]) (.seq (.seq (.reg [oM 8 0,oO 9 (.len (.t 8)),oO 10 (.mv (kI 0))]) (.block 0 (.loop sE))) (.seq (.reg [oO 4 (.mv (kI 0)),oO 5 (.mv (.k (.c (.d (.bool false)))))]) (.ret))),[(4,none),(5,none)]⟩
theorem V6:aw Tryz.prog { own:=[],comp:=[],frz:=[],nils:=[] } Tryz.f18=some Ky:=by kernel_rfl
theorem LQ (G:ah) (x y:List Int) (hx:x.length≤1000000) (hy:y.length≤1000000):aj Tryz.prog G 18 [.sl (x.map zD),.sl (y.map zD)] (.tup [.c (.d (.int .i64 ((dS x y).getD 0))),.c (.d (.bool (dS x y).isSome))]):=by
  refine aB Tryz.func18 V6 rfl rfl ?_;simp only[Ky,af,ae,aa,seval,iteOmega,toNatUp];refine bf (uo x y) (fun i=>x.length-i) (fun i=>i≤x.length∧∀ v∈x.take i,v∉y) 0 ⟨Yd _,by rw[Zf]; exact fun v hv=>by cases hv⟩ ?_ ?_
  ·refine aD (fun _=>0) ?_ ?_ rfl rfl <;> simp only[wx,aC,aK,aa,seval,iteOmega,toNatUp] <;> first | rfl | exact⟨rfl,rfl⟩ | skip
  ·rintro i ⟨hi,hp⟩;by_cases hlt:i<x.length
   ·have g:=lV hlt;have hs:=l8 hlt;have hat:=Vk hlt hp;have c:=LP G y (x.getD i 0) (by omega);generalize x.getD i 0=w at *
    by_cases h1:w∈y
    ·rw[hat h1,Y0,Zq];rw[decide_eq_true h1] at c;simp only[sE,uo,ae,aa,seval,iteOmega,toNatUp,aL,g,zD];refine sD (c) ?_;exact aW
    ·rw[decide_eq_false h1] at c;have hn:∀ v∈x.take (i+1),v∉y:=by
       rw[hs];intro v q;rcases Yj.1 q with q | q
       ·exact hp v q
       ·rw[X9.1 q]; exact h1
     clear hat;simp only[sE,uo,ae,aa,seval,iteOmega,toNatUp,aL,g,zD];refine sD (c) ?_;refine a6 (i+1) (by omega) ⟨by omega,hn⟩ (aD (fun i=>i) ?_ ?_ rfl rfl) <;> simp only[wx,aC,aK,aa,seval,iteOmega,toNatUp] <;> first | rfl | exact⟨rfl,rfl⟩ | skip
   ·rw[X7 (by omega)] at hp;have:dS x y=none:=List.find?_eq_none.2 fun v hv q=>hp v hv (of_decide_eq_true q)
    rw[this,Zd,Zz];simp only[sE,uo,ae,aa,seval,iteOmega,toNatUp];exact aW
def Kz:aA:=⟨3,20,.seq (.reg [oO 3 (.box .roBox (.t 0)),oO 6 (.mv (.k (.c .nil)))]) (.seq (.reg [oO 10 (.load (.ag 6) (.t 3)),oM 11 1,oM 12 2,oO 13 (.bldSl false 1 1 (.int .u8 0) [(0,(.t 12))]),oO 14 (.bldSl false 2 1 (.sl []) [(0,(.t 11)),(1,(.t 13))]),oO 15 (.call 90 [(.t 14)] none),oO 16 (.call 105 [(.t 10),(.k (.c (.d (.str ⟨#[115,101,99,116,105,109,101,32,107,101,121,115]⟩)))),(.t 15),(kI 32)] none),oM 9 16,oO 17 (.extract (.t 9) 0),oO 18 (.extract (.t 9) 1),oM 7 17,oM 8 18]) (.seq (.reg [oM 19 7,oM 6 19]) (.ret))),[(6,none)]⟩
theorem V7:aw Tryz.prog { own:=[],comp:=[],frz:=[],nils:=[] } Tryz.f63=some Kz:=by kernel_rfl
theorem LR (G:ah) (hF:G.at 0=some (.ra (cQ.map wD))) (hG:G.at 1=some (.ra (bp.map wD))) (c:Ch) (p a:Int) (z:UInt8) (h:eP c p a=0):aj Tryz.prog G 63 [aT c,.sl ((aM [p,a]).map bD),bD z] (.w (.c (.d (.sl ((a7 c p a z).map bD))))):=by
  refine aB Tryz.func63 V7 rfl rfl ?_;have hv:cy c:=by
    unfold eP at h;by_cases g:cy c
    ·exact g
    ·rw[if_pos g] at h; exact absurd h (by decide)
  have bl:(aM [p,a]).length=4:=dZ _;have cj:=dU G [aM [p,a],[z]] (by simp) (by simp[bl]);rw[show [aM [p,a],[z]].flatten=eH p a z from by unfold eH; simp] at cj;simp only[Ya,Yo] at cj;have hl:(eH p a z).length=5:=by unfold eH; rw[X5,bl]; rfl
  have c4:=Xn G hF hG c pn (eH p a z) 32 (by decide) (by omega) (by decide) (by decide);have hX:lS c pn.data.toList (eH p a z) 32=a7 c p a z:=by
    unfold lS a7;rw[if_pos hv,if_pos h,j8 _ _ (by decide)];rfl
  rw[hX] at c4;unfold pn at c4;unfold aT at *
  generalize eH p a z=X at *
  generalize a7 c p a z=K at *
  generalize aM [p,a]=B at *
  simp only[Kz,af,ae,aa,seval,iteOmega,toNatUp];refine sD (cj) ?_;refine sD (c4) ?_;exact aF
def tE:aA:=⟨3,30,.seq (.reg [oO 3 (.box .roBox (.t 0)),oO 6 (.alloc [.nil,.nil]),oO 7 (.mv (kI 0))]) (.seq (.seq (.reg [oO 9 (.load (.ag 6) (.t 3)),oO 10 (.call 62 [(.t 9)] none),oO 11 (.un .not (.t 10))]) (.cond (.t 11) (.seq (.reg [oO 12 (.build [.nil,.nil] []),oN (.store (.ag 2) (.t 6) (.t 12)),oO 7 (.mv (kI 3))]) (.ret)) (.skip))) (.seq (.seq (.reg [oM 13 1,oM 14 2,oO 15 (.bldSl false 2 1 (.int .i64 0) [(0,(.t 13)),(1,(.t 14))]),oO 16 (.call 50 [(.t 15)] none),oO 17 (.un .not (.t 16))]) (.cond (.t 17) (.seq (.reg [oO 18 (.build [.nil,.nil] []),oN (.store (.ag 2) (.t 6) (.t 18)),oO 7 (.mv (kI 4))]) (.ret)) (.skip))) (.seq (.reg [oM 19 1,oM 20 2,oO 21 (.bldSl false 2 1 (.int .i64 0) [(0,(.t 19)),(1,(.t 20))]),oO 22 (.call 53 [(.t 21)] none),oM 8 22]) (.seq (.reg [oO 23 (.load (.ag 6) (.t 3)),
 oM 24 8,oO 25 (.call 63 [(.t 23),(.t 24),(.k (.c (.d (.int .u8 0))))] none),oO 26 (.load (.ag 6) (.t 3)),oM 27 8,oO 28 (.call 63 [(.t 26),(.t 27),(.k (.c (.d (.int .u8 1))))] none),oO 29 (.build [.nil,.nil] [(0,1,(.t 25)),(1,1,(.t 28))]),oN (.store (.ag 2) (.t 6) (.t 29)),oO 7 (.mv (kI 0))]) (.ret))))),[(6,(some (.ag 2))),(7,none)]⟩
theorem V8:aw Tryz.prog { own:=[],comp:=[],frz:=[],nils:=[] } Tryz.f26=some tE:=by kernel_rfl
theorem uq (G:ah) (hF:G.at 0=some (.ra (cQ.map wD))) (hG:G.at 1=some (.ra (bp.map wD))) (c:Ch) (p a:Int):aj Tryz.prog G 26 [aT c,.int .i64 p,.int .i64 a] (.tup [.c (.d (di (a7 c p a 0) (a7 c p a 1))),.c (.d (.int .i64 (eP c p a)))]):=by
  refine aB Tryz.func26 V8 rfl rfl ?_;have c1:=mM G hF hG c;have c2:=oD G [p,a] (by simp);by_cases h:cy c
  ·rw[decide_eq_true h] at c1;by_cases hs:bz [p,a]
   ·rw[decide_eq_true hs] at c2;have e:eP c p a=0:=by unfold eP; rw[if_neg (not_not_intro h),if_neg (not_not_intro hs)]
    have c3:=mN G [p,a] (by simp) hs;have c4:=LR G hF hG c p a 0 e;have c5:=LR G hF hG c p a 1 e;rw[e];unfold aT di at *
    simp only[Ya,Yo,zD] at c2 c3 c4 c5;generalize aM [p,a]=B at *
    generalize a7 c p a 0=U at *
    generalize a7 c p a 1=W at *
    simp only[tE,af,ae,aa,seval,iteOmega,toNatUp];refine sD (c1) ?_;refine sD (c2) ?_;refine sD (c3) ?_;refine sD (c4) ?_;refine sD (c5) ?_;exact aW
   ·rw[decide_eq_false hs] at c2;have e:eP c p a=4:=by unfold eP; rw[if_neg (not_not_intro h),if_pos hs]
    rw[e,show a7 c p a 0=[] from if_neg (by rw[e]; decide),show a7 c p a 1=[] from if_neg (by rw[e]; decide)];unfold aT di at *
    simp only[Ya,Yo,zD] at c2;simp only[tE,af,ae,aa,seval,iteOmega,toNatUp];refine sD (c1) ?_;refine sD (c2) ?_;exact aW
  ·rw[decide_eq_false h] at c1;have e:eP c p a=3:=by unfold eP; rw[if_pos h]
   rw[e,show a7 c p a 0=[] from if_neg (by rw[e]; decide),show a7 c p a 1=[] from if_neg (by rw[e]; decide)];unfold aT di at *
   simp only[tE,af,ae,aa,seval,iteOmega,toNatUp];refine sD (c1) ?_;exact aW
def uv (l:List Ek) (g:Nat) (caps:List D) (i:Nat):St:=⟨aY [(0,.w (.c (.d (.sl (l.map aN))))),(1,.w (.c (.d (.fn g caps)))),(7,.w (.c (.d (.int .i64 (l.length:Int))))),(8,.w (.c (.d (.int .i64 (i:Int)))))],hL [],uL []⟩
def X1 (p:Ek→Bool) (l:List Ek) (n:Int):Prop:=(l.any p=true∧0≤n)∨(l.any p=false∧n=-1)
def sF:aO := .seq (.reg [oO 9 (.bin .lss (.t 8) (.t 7))]) (.seq (.cond (.t 9) (.skip) (.exit 0)) (.seq (.block 1 (.seq (.reg [oM 10 8,oM 5 10]) (.seq (.reg [oM 11 1,oM 12 0,oM 13 5,oO 14 (.idxSl 3 (.t 12) (.t 13)),oO 15 (.load (.ag 3) (.t 14)),oO 16 (.call 1000000007 [(.t 11),(.t 15)] none)]) (.cond (.t 16) (.seq (.reg [oM 17 5,oM 4 17]) (.ret)) (.skip))))) (.reg [oO 18 (.bin .add (.t 8) (kI 1)),oM 8 18])))
def KO:aA:=⟨2,19,.seq (.reg [oO 4 (.mv (kI 0))]) (.seq (.seq (.reg [oM 6 0,oO 7 (.len (.t 6)),oO 8 (.mv (kI 0))]) (.block 0 (.loop sF))) (.seq (.reg [oO 4 (.mv (.k (.c (.d (.int .i64 (-1))))))]) (.ret))),[(4,none)]⟩
theorem Wb:aw Tryz.prog { own:=[],comp:=[],frz:=[],nils:=[] } Tryz.f131=some KO:=by kernel_rfl
theorem Xz (G:ah) (l:List Ek) (g:Nat) (caps:List D) (p:Ek→Bool) (hl:l.length≤9223372036854775807) (hp:∀ x∈l,jD Tryz.prog G g caps [aN x] (.w (.c (.d (.bool (p x)))))):∃ n,X1 p l n∧aj Tryz.prog G 131 [.sl (l.map aN),.fn g caps] (.w (.c (.d (.int .i64 n)))):=by
  have key:∀ n:Int,(l.any p=true∧(∃ i:Nat,n=(i:Int)∧i<l.length∧p (l.getD i default)=true∧∀ j,j<i→p (l.getD j default)=false))∨(l.any p=false∧n=-1)→aj Tryz.prog G 131 [.sl (l.map aN),.fn g caps] (.w (.c (.d (.int .i64 n)))):=by
    intro n hn;refine aB Tryz.func131 Wb rfl rfl ?_;simp only[KO,af,ae,aa,seval,iteOmega,toNatUp];refine bf (uv l g caps) (fun i=>l.length-i) (fun i=>i≤l.length∧∀ j,j<i→p (l.getD j default)=false) 0 ⟨Yd _,fun j hj=>by omega⟩ ?_ ?_
    ·refine aD (fun i=>0) ?_ ?_ rfl rfl <;> simp only[wx,aC,aK,aa,seval,iteOmega,toNatUp] <;> rfl
    ·rintro i ⟨hi,hno⟩;by_cases hlt:i<l.length
     ·have g1:=kF hlt;have hd:=hp _ (js hlt);unfold aN at hd;cases hpi:p (l.getD i default)
      ·rw[hpi] at hd;simp only[sF,uv,ae,aa,seval,iteOmega,toNatUp,aL,g1,aN];refine nB hd rfl (.inl rfl) ?_;simp only[ae,aa,seval,iteOmega,toNatUp];refine a6 (i+1) (by omega) ⟨by omega,fun j hj=>?_⟩ (aD (fun i=>0) ?_ ?_ rfl rfl)
       ·rcases YG j i with h | h
        ·exact hno j h
        ·obtain rfl:j=i:=by omega
         exact hpi
       all_goals simp only[wx,aC,aK,aa,seval,iteOmega,toNatUp]
      ·rw[hpi] at hd;have hni:n=(i:Int):=by
         rcases hn with ⟨_,k,rfl,hk,h1,h2⟩ | ⟨h1,_⟩
         ·rcases Nat.lt_trichotomy k i with h | h | h
          ·rw[hno k h] at h1; cases h1
          ·rw[h]
          ·rw[h2 i h] at hpi; cases hpi
         ·have:=Zc.2 ⟨_,js hlt,hpi⟩;rw[h1] at this; cases this
       subst hni;simp only[sF,uv,ae,aa,seval,iteOmega,toNatUp,aL,g1,aN];refine nB hd rfl (.inl rfl) ?_;simp only[ae,aa,seval,iteOmega,toNatUp];exact aF
     ·have hni:n=-1:=by
        rcases hn with ⟨_,k,rfl,hk,h1,h2⟩ | ⟨_,h⟩
        ·rw[hno k (by omega)] at h1; cases h1
        ·exact h
      subst hni;simp only[sF,uv,ae,aa,seval,iteOmega,toNatUp];exact aF
  cases ha:l.any p
  ·exact⟨_,.inr ⟨ha,rfl⟩,key _ (.inr ⟨ha,rfl⟩)⟩
  ·have:∃ i,i<l.length∧p (l.getD i default)=true:=by
     obtain⟨x,hx,h1⟩:=Zc.1 ha;obtain⟨i,hi,rfl⟩:=YE hx;exact⟨i,hi,by rw[X6,X3 hi]; exact h1⟩
   obtain⟨i,⟨h1,h2⟩,h3⟩:=Dy this;exact⟨_,.inl ⟨ha,ZN _⟩,key (i:Int) (.inl ⟨ha,i,rfl,h1,h2,fun j hj=>by
     cases hq:p (l.getD j default)
     ·rfl
     ·have:=h3 j ⟨by omega,hq⟩; omega⟩)⟩
def zb:aA:=⟨2,9,.seq (.reg [oO 4 (.mv (.k (.c (.d (.bool false)))))]) (.seq (.reg [oM 5 0,oM 6 1,oO 7 (.call 131 [(.t 5),(.t 6)] none),oO 8 (.bin .geq (.t 7) (kI 0)),oM 4 8]) (.ret)),[(4,none)]⟩
theorem Wc:aw Tryz.prog { own:=[],comp:=[],frz:=[],nils:=[] } Tryz.f109=some zb:=by kernel_rfl
theorem XA (G:ah) (l:List Ek) (g:Nat) (caps:List D) (p:Ek→Bool) (hl:l.length≤9223372036854775807) (hp:∀ x∈l,jD Tryz.prog G g caps [aN x] (.w (.c (.d (.bool (p x)))))):aj Tryz.prog G 109 [.sl (l.map aN),.fn g caps] (.w (.c (.d (.bool (l.any p))))):=by
  refine aB Tryz.func109 Wc rfl rfl ?_;obtain⟨n,hn,c⟩:=Xz G l g caps p hl hp;rcases hn with ⟨h1,h2⟩ | ⟨h1,rfl⟩
  ·rw[h1];have g1:(n≥0)=True:=eq_true h2;simp only[zb,af,ae,aa,seval,iteOmega,toNatUp];refine sC (c) ?_;simp only[g1,ae,aa,seval,iteOmega,toNatUp];exact aF
  ·rw[h1];simp only[zb,af,ae,aa,seval,iteOmega,toNatUp];refine sD (c) ?_;exact aF
def KP:aA:=⟨1,5,.seq (.reg [oO 1 (.box .roBox (.t 0)),oO 2 (.mv (.k (.c (.d (.bool false)))))]) (.seq (.reg [oO 3 (.fieldAddr 0 (.t 1)),oO 4 (.load .sc (.t 3)),oM 2 4]) (.ret)),[(2,none)]⟩
theorem Wd:aw Tryz.prog { own:=[],comp:=[],frz:=[],nils:=[] } Tryz.f110=some KP:=by kernel_rfl
theorem XB (G:ah) (r:Ek):jD Tryz.prog G 110 [] [aN r] (.w (.c (.d (.bool r.cr)))):=by
  refine⟨enters_of Tryz.func110 (by kernel_rfl) rfl,?_⟩;refine aB Tryz.func110 Wd rfl rfl ?_;obtain⟨cr,ty,bo⟩:=r;unfold aN;simp only[KP,af,ae,aa,seval,iteOmega,toNatUp];exact aF
def zd:aA:=⟨2,10,.seq (.reg [oO 4 (.mv (.k (.c (.d (.bool false)))))]) (.seq (.reg [oM 5 0,oM 6 1,oO 7 (.mpGet .i64 (.sl []) false (.t 5) (.t 6)),oO 8 (.len (.t 7)),oO 9 (.bin .gtr (.t 8) (kI 0)),oM 4 9]) (.ret)),[(4,none)]⟩
theorem We:aw Tryz.prog { own:=[],comp:=[],frz:=[],nils:=[] } Tryz.f80=some zd:=by kernel_rfl
theorem lE (G:ah) (l:List Ek) (k:Int):aj Tryz.prog G 80 [cd l,.int .i64 k] (.w (.c (.d (.bool (decide (0<(ar l k).length)))))):=by
  refine aB Tryz.func80 We rfl rfl ?_;have hk:=y9 l k;unfold cd;generalize cO l=E at *
  generalize ar l k=x at *
  by_cases h:0<x.length
  ·rw[decide_eq_true h];have g1:((x.length:Int)>0)=True:=eq_true (by omega);simp only[zd,af,ae,aa,seval,iteOmega,toNatUp,cZ,hk,g1];exact aF
  ·rw[decide_eq_false h];have g1:((x.length:Int)>0)=False:=eq_false (by omega);simp only[zd,af,ae,aa,seval,iteOmega,toNatUp,cZ,hk,g1];exact aF
def dj (l:List Ek) (k:Int):List UInt8:=((ar l k).getD 0 default).bo
def bh (l:List Ek) (k:Int):List Int:=eO (dj l k)
def ze:aA:=⟨2,15,.seq (.reg [oO 4 (.mv (.k (.c .nil)))]) (.seq (.seq (.reg [oM 5 0,oM 6 1,oO 7 (.call 80 [(.t 5),(.t 6)] none),oO 8 (.un .not (.t 7))]) (.cond (.t 8) (.seq (.reg [oO 4 (.mv (.k (.c .nil)))]) (.ret)) (.skip))) (.seq (.reg [oM 9 0,oM 10 1,oO 11 (.mpGet .i64 (.sl []) false (.t 9) (.t 10)),oO 12 (.idxSl 3 (.t 11) (kI 0)),oO 13 (.fieldAddr 2 (.t 12)),oO 14 (.load .sc (.t 13)),oM 4 14]) (.ret))),[(4,none)]⟩
theorem Wg:aw Tryz.prog { own:=[],comp:=[],frz:=[],nils:=[] } Tryz.f116=some ze:=by kernel_rfl
theorem zU (G:ah) (l:List Ek) (k:Int):aj Tryz.prog G 116 [cd l,.int .i64 k] (.w (.c (.d (.sl ((dj l k).map bD))))):=by
  refine aB Tryz.func116 Wg rfl rfl ?_;have c:=lE G l k;have hk:=y9 l k;unfold cd dj at *
  generalize cO l=E at *
  generalize ar l k=x at *
  by_cases h:0<x.length
  ·rw[decide_eq_true h] at c;have g:=kF h;generalize x.getD 0 default=r at *
   simp only[ze,af,ae,aa,seval,iteOmega,toNatUp,cZ,hk,aL];refine sC (c) ?_;simp only[cZ,hk,aL,g,aN,ae,aa,seval,iteOmega,toNatUp];exact aF
  ·rw[decide_eq_false h] at c;obtain rfl:x=[]:=YA.1 (by omega);rw[show (([]:List Ek).getD 0 default).bo=[] from rfl];simp only[ze,af,ae,aa,seval,iteOmega,toNatUp];refine sD (c) ?_;exact aF
theorem nQ {l:List Ek} {n:Nat} (h:∀ r∈l,r.bo.length≤n) (k:Int):(dj l k).length≤n:=by
  unfold dj;rcases YG 0 (ar l k).length with h1 | h1
  ·exact h _ (Zp.1 (js h1)).1
  ·obtain h2:ar l k=[]:=YA.1 (by omega);rw[h2]; exact Yd _
def KQ:aA:=⟨2,15,.seq (.reg [oO 4 (.mv (.k (.c .nil)))]) (.seq (.reg [oM 8 0,oM 9 1,oO 10 (.call 116 [(.t 8),(.t 9)] none),oO 11 (.call 14 [(.t 10)] none),oM 7 11,oO 12 (.extract (.t 7) 0),oO 13 (.extract (.t 7) 1),oM 5 12,oM 6 13]) (.seq (.reg [oM 14 5,oM 4 14]) (.ret))),[(4,none)]⟩
theorem Wh:aw Tryz.prog { own:=[],comp:=[],frz:=[],nils:=[] } Tryz.f111=some KQ:=by kernel_rfl
theorem oF (G:ah) (l:List Ek) (k:Int) (h:∀ r∈l,r.bo.length≤1000000000):aj Tryz.prog G 111 [cd l,.int .i64 k] (.w (.c (.d (.sl ((bh l k).map zD))))):=by
  refine aB Tryz.func111 Wh rfl rfl ?_;have c1:=zU G l k;have c2:=LL G (dj l k) (nQ h k);unfold bh cd at *
  generalize cO l=E at *
  generalize dj l k=B at *
  generalize eO B=N at *
  simp only[KQ,af,ae,aa,seval,iteOmega,toNatUp];refine sD (c1) ?_;refine sD (c2) ?_;exact aF
def nh (l:List Ek):Bool:=decide (0<(ar l 1).length)&&(decide (0<(ar l 4).length)&&(!decide (0<(ar l 2).length)&&(!decide (0<(ar l 3).length)&&!decide (0<(ar l 5).length))))
def oh:aA:=⟨1,24,.seq (.reg [oO 2 (.mv (.k (.c (.d (.bool false)))))]) (.seq (.reg [oM 3 0,oO 4 (.call 80 [(.t 3),(kI 1)] none),oM 5 4,oG 6 (.mv (.t 0)) 5 true,oG 7 (.call 80 [(.t 6),(kI 4)] none) 5 true,oO 8 (.pick (.t 5) (.t 7) (.k (.c (.d (.bool false))))),oM 9 8,oG 10 (.mv (.t 0)) 9 true,oG 11 (.call 80 [(.t 10),(kI 2)] none) 9 true,oG 12 (.un .not (.t 11)) 9 true,oO 13 (.pick (.t 9) (.t 12) (.k (.c (.d (.bool false))))),oM 14 13,oG 15 (.mv (.t 0)) 14 true,oG 16 (.call 80 [(.t 15),(kI 3)] none) 14 true,oG 17 (.un .not (.t 16)) 14 true,oO 18 (.pick (.t 14) (.t 17) (.k (.c (.d (.bool false))))),oM 19 18,oG 20 (.mv (.t 0)) 19 true,oG 21 (.call 80 [(.t 20),(kI 5)] none) 19 true,oG 22 (.un .not (.t 21)) 19 true,oO 23 (.pick (.t 19) (.t 22) (.k (.c (.d (.bool false))))),oM 2 23]) (.ret)),
 [(2,none)]⟩
theorem Wi:aw Tryz.prog { own:=[],comp:=[],frz:=[],nils:=[] } Tryz.f67=some oh:=by kernel_rfl
theorem XC (G:ah) (l:List Ek):aj Tryz.prog G 67 [cd l] (.w (.c (.d (.bool (nh l))))):=by
  refine aB Tryz.func67 Wi rfl rfl ?_;have c1:=lE G l 1;have c4:=lE G l 4;have c2:=lE G l 2;have c3:=lE G l 3;have c5:=lE G l 5;unfold nh;unfold cd at *
  generalize cO l=E at *
  generalize decide (0<(ar l 1).length)=b1 at *
  generalize decide (0<(ar l 4).length)=b4 at *
  generalize decide (0<(ar l 2).length)=b2 at *
  generalize decide (0<(ar l 3).length)=b3 at *
  generalize decide (0<(ar l 5).length)=b5 at *
  cases b1
  ·simp only[oh,af,ae,aa,seval,iteOmega,toNatUp];refine sD (c1) ?_;exact aF
  cases b4
  ·simp only[oh,af,ae,aa,seval,iteOmega,toNatUp];refine sD (c1) ?_;refine sD (c4) ?_;exact aF
  cases b2
  case true =>
    simp only[oh,af,ae,aa,seval,iteOmega,toNatUp];refine sD (c1) ?_;refine sD (c4) ?_;refine sD (c2) ?_;exact aF
  cases b3
  case true =>
    simp only[oh,af,ae,aa,seval,iteOmega,toNatUp];refine sD (c1) ?_;refine sD (c4) ?_;refine sD (c2) ?_;refine sD (c3) ?_;exact aF
  cases b5 <;> (
    simp only[oh,af,ae,aa,seval,iteOmega,toNatUp];refine sD (c1) ?_;refine sD (c4) ?_;refine sD (c2) ?_;refine sD (c3) ?_;refine sD (c5) ?_;exact aF
    skip)
def nj (k:Int) (x:List Ek):Bool :=
  if k=0 then decide (x.length=1∧(x.getD 0 default).bo.length=0)
  else if k=1∨k=4 then decide (x.length=1∧(x.getD 0 default).bo.length%2=0)
  else if k=6 then decide (x.length=1)
  else if k=7 then decide (x.length=1∧(x.getD 0 default).bo.length=2)
  else true
def ga:aA:=⟨2,52,.seq (.reg [oO 4 (.mv (.k (.c (.d (.bool false)))))]) (.seq (.reg [oM 8 1,oO 9 (.idxSl 3 (.t 8) (kI 0)),oO 10 (.fieldAddr 2 (.t 9)),oO 11 (.load .sc (.t 10)),oM 5 11]) (.seq (.seq (.reg [oM 12 0]) (.block 0 (.seq (.reg [oO 14 (.bin .eql (.t 12) (kI 0)),oM 13 14]) (.cond (.t 13) (.seq (.reg [oM 15 1,oO 16 (.len (.t 15)),oO 17 (.bin .eql (.t 16) (kI 1)),oM 18 17,oG 19 (.mv (.t 5)) 18 true,oG 20 (.len (.t 19)) 18 true,oG 21 (.bin .eql (.t 20) (kI 0)) 18 true,oO 22 (.pick (.t 18) (.t 21) (.k (.c (.d (.bool false))))),oM 4 22]) (.ret)) (.seq (.seq (.reg [oO 24 (.bin .eql (.t 12) (kI 1)),oM 23 24]) (.cond (.t 23) (.skip) (.reg [oO 25 (.bin .eql (.t 12) (kI 4)),oM 23 25]))) (.cond (.t 23) (.seq (.reg [oM 27 5,oO 28 (.call 14 [(.t 27)] none),oM 26 28,oO 29 (.extract (.t 26) 0),
 oO 30 (.extract (.t 26) 1),oM 6 29,oM 7 30]) (.seq (.reg [oM 31 1,oO 32 (.len (.t 31)),oO 33 (.bin .eql (.t 32) (kI 1)),oM 34 33,oG 35 (.mv (.t 7)) 34 true,oO 36 (.pick (.t 34) (.t 35) (.k (.c (.d (.bool false))))),oM 4 36]) (.ret))) (.seq (.reg [oO 38 (.bin .eql (.t 12) (kI 6)),oM 37 38]) (.cond (.t 37) (.seq (.reg [oM 39 1,oO 40 (.len (.t 39)),oO 41 (.bin .eql (.t 40) (kI 1)),oM 4 41]) (.ret)) (.seq (.reg [oO 43 (.bin .eql (.t 12) (kI 7)),oM 42 43]) (.cond (.t 42) (.seq (.reg [oM 44 1,oO 45 (.len (.t 44)),oO 46 (.bin .eql (.t 45) (kI 1)),oM 47 46,oG 48 (.mv (.t 5)) 47 true,oG 49 (.len (.t 48)) 47 true,oG 50 (.bin .eql (.t 49) (kI 2)) 47 true,oO 51 (.pick (.t 47) (.t 50) (.k (.c (.d (.bool false))))),oM 4 51]) (.ret)) (.skip))))))))))) (.seq (.reg [oO 4 (.mv (.k (.c (.d (.bool true)))))])
 (.ret)))),[(4,none)]⟩
theorem Wj:aw Tryz.prog { own:=[],comp:=[],frz:=[],nils:=[] } Tryz.f108=some ga:=by kernel_rfl
theorem XD (G:ah) (k:Int) (x:List Ek) (hx:0<x.length) (hl:x.length≤1000000) (hb:(x.getD 0 default).bo.length≤1000000000):aj Tryz.prog G 108 [.int .i64 k,.sl (x.map aN)] (.w (.c (.d (.bool (nj k x))))):=by
  refine aB Tryz.func108 Wj rfl rfl ?_;have g:=kF hx;have c:=LL G (x.getD 0 default).bo hb;unfold nj;generalize x.getD 0 default=r at *
  obtain⟨cr,ty,bo⟩:=r;dsimp only at *
  generalize eO bo=nn at *
  by_cases k0:k=0
  ·rw[if_pos k0];subst k0;by_cases h1:x.length=1
   ·have g1:((x.length:Int)=1)=True:=eq_true (by omega);by_cases h2:bo.length=0
    ·rw[decide_eq_true ⟨h1,h2⟩];have g2:((bo.length:Int)=0)=True:=eq_true (by omega);simp only[ga,af,ae,aa,seval,iteOmega,toNatUp,aL,g,aN,g1,g2];exact aF
    ·rw[decide_eq_false (fun h=>h2 h.2)];have g2:((bo.length:Int)=0)=False:=eq_false (by omega);simp only[ga,af,ae,aa,seval,iteOmega,toNatUp,aL,g,aN,g1,g2];exact aF
   ·have g1:((x.length:Int)=1)=False:=eq_false (by omega);rw[decide_eq_false (fun h=>h1 h.1)];simp only[ga,af,ae,aa,seval,iteOmega,toNatUp,aL,g,aN,g1];exact aF
  ·rw[if_neg k0];have g0:=eq_false k0;by_cases k1:k=1
   ·rw[if_pos (.inl k1)];subst k1;by_cases h1:x.length=1
    ·have g1:((x.length:Int)=1)=True:=eq_true (by omega);by_cases h2:bo.length%2=0
     ·rw[decide_eq_true ⟨h1,h2⟩];rw[decide_eq_true h2] at c;simp only[ga,af,ae,aa,seval,iteOmega,toNatUp,aL,g,aN];refine sC (c) ?_;simp only[g1,ae,aa,seval,iteOmega,toNatUp];exact aF
     ·rw[decide_eq_false (fun h=>h2 h.2)];rw[decide_eq_false h2] at c;simp only[ga,af,ae,aa,seval,iteOmega,toNatUp,aL,g,aN];refine sC (c) ?_;simp only[g1,ae,aa,seval,iteOmega,toNatUp];exact aF
    ·have g1:((x.length:Int)=1)=False:=eq_false (by omega);rw[decide_eq_false (fun h=>h1 h.1)];generalize decide (bo.length%2=0)=d at *
     simp only[ga,af,ae,aa,seval,iteOmega,toNatUp,aL,g,aN];refine sC (c) ?_;simp only[g1,ae,aa,seval,iteOmega,toNatUp];exact aF
   ·have g1':=eq_false k1;by_cases k4:k=4
    ·rw[if_pos (.inr k4)];subst k4;by_cases h1:x.length=1
     ·have g1:((x.length:Int)=1)=True:=eq_true (by omega);by_cases h2:bo.length%2=0
      ·rw[decide_eq_true ⟨h1,h2⟩];rw[decide_eq_true h2] at c;simp only[ga,af,ae,aa,seval,iteOmega,toNatUp,aL,g,aN];refine sC (c) ?_;simp only[g1,ae,aa,seval,iteOmega,toNatUp];exact aF
      ·rw[decide_eq_false (fun h=>h2 h.2)];rw[decide_eq_false h2] at c;simp only[ga,af,ae,aa,seval,iteOmega,toNatUp,aL,g,aN];refine sC (c) ?_;simp only[g1,ae,aa,seval,iteOmega,toNatUp];exact aF
     ·have g1:((x.length:Int)=1)=False:=eq_false (by omega);rw[decide_eq_false (fun h=>h1 h.1)];generalize decide (bo.length%2=0)=d at *
      simp only[ga,af,ae,aa,seval,iteOmega,toNatUp,aL,g,aN];refine sC (c) ?_;simp only[g1,ae,aa,seval,iteOmega,toNatUp];exact aF
    ·have g4':=eq_false k4;rw[if_neg (fun h=>h.elim k1 k4)];by_cases k6:k=6
     ·rw[if_pos k6];subst k6;by_cases h1:x.length=1
      ·have g1:((x.length:Int)=1)=True:=eq_true (by omega);rw[decide_eq_true h1];simp only[ga,af,ae,aa,seval,iteOmega,toNatUp,aL,g,aN,g1];exact aF
      ·have g1:((x.length:Int)=1)=False:=eq_false (by omega);rw[decide_eq_false h1];simp only[ga,af,ae,aa,seval,iteOmega,toNatUp,aL,g,aN,g1];exact aF
     ·have g6':=eq_false k6;rw[if_neg k6];by_cases k7:k=7
      ·rw[if_pos k7];subst k7;by_cases h1:x.length=1
       ·have g1:((x.length:Int)=1)=True:=eq_true (by omega);by_cases h2:bo.length=2
        ·rw[decide_eq_true ⟨h1,h2⟩];have g2:((bo.length:Int)=2)=True:=eq_true (by omega);simp only[ga,af,ae,aa,seval,iteOmega,toNatUp,aL,g,aN,g1,g2];exact aF
        ·rw[decide_eq_false (fun h=>h2 h.2)];have g2:((bo.length:Int)=2)=False:=eq_false (by omega);simp only[ga,af,ae,aa,seval,iteOmega,toNatUp,aL,g,aN,g1,g2];exact aF
       ·have g1:((x.length:Int)=1)=False:=eq_false (by omega);rw[decide_eq_false (fun h=>h1 h.1)];simp only[ga,af,ae,aa,seval,iteOmega,toNatUp,aL,g,aN,g1];exact aF
      ·have g7':=eq_false k7;rw[if_neg k7];simp only[ga,af,ae,aa,seval,iteOmega,toNatUp,aL,g,aN,g0,g1',g4',g6',g7'];exact aF
structure Wk where
  left:List (Int×D)
  last:Option (Int×D)
theorem AO {α:Type}:∀ (l:List α) (j:Nat) (p:α),l[j]?=some p→∀ x∈l,x∈l.eraseIdx j∨x=p
  | [],_,_,h,_,_=>by simp at h
  | a::l,0,p,h,x,hx=>by
    simp only[Zj,X8] at h;subst h;rcases Yi.1 hx with rfl | hx
    ·exact .inr rfl
    ·exact .inl hx
  | a::l,j+1,p,h,x,hx=>by
    rw[YL] at h;rw[List.eraseIdx_cons_succ];rcases Yi.1 hx with rfl | hx
    ·exact .inl YF
    ·rcases AO l j p h x hx with h | h
     ·exact .inl (Yr _ h)
     ·exact .inr h
theorem FQ {α:Type} {l:List α} {j:Nat} {p:α} (h:l[j]?=some p):(l.eraseIdx j).length<l.length:=by
  obtain⟨h1,_⟩:=Yk.1 h;rw[List.length_eraseIdx,if_pos h1]; omega
def jh (l:List Ek) (P:Int→Prop) (t:Wk):Prop:=(∀ p∈t.left,p∈cO l)∧∀ p∈cO l,p∈t.left∨P p.1
theorem jh.start (l:List Ek) (P:Int→Prop):jh l P ⟨cO l,none⟩:=⟨fun _ h=>h,fun _ h=>.inl h⟩
theorem jh.next {l:List Ek} {P:Int→Prop} {t:Wk} (h:jh l P t) {j:Nat} {p:Int×D} (hj:t.left[j]?=some p) (hP:P p.1):jh l P ⟨t.left.eraseIdx j,some p⟩ :=
  ⟨fun x hx=>h.1 x (List.mem_of_mem_eraseIdx hx),fun x hx=>(h.2 x hx).elim (fun h1=>(AO _ _ _ hj x h1).imp id (fun e:x=p=>by rw[e]; exact hP)) .inr⟩
theorem jh.done {l:List Ek} {P:Int→Prop} {t:Wk} (h:jh l P t) (he:t.left=[]) {k:Int} (hk:ar l k≠[]):P k:=by
  rcases h.2 _ (Tt hk) with h1 | h1
  ·rw[he] at h1; cases h1
  ·exact h1
theorem Tv {l:List Ek} {k:Int} (h:7<k) (ha:(ar l k).any (fun r=>r.cr)=true):gX l=true:=by
  obtain⟨r,h1,h2⟩:=Zc.1 ha;obtain⟨h3,h4⟩:=Zp.1 h1;have h4:r.ty=k:=of_decide_eq_true h4;exact Zc.2 ⟨r,h3,by rw[h2,Bool.true_and,h4]; exact decide_eq_true h⟩
theorem Wl {l:List Ek} (h:∀ k,ar l k≠[]→¬ (7<k∧(ar l k).any (fun r=>r.cr)=true)):gX l=false:=by
  refine Y1.2 fun r hr hq=>?_
  rw[Ys,decide_eq_true_eq] at hq;have hm:r∈ar l r.ty:=Zp.2 ⟨hr,decide_eq_true rfl⟩;exact h r.ty (fun e=>by rw[e] at hm; cases hm) ⟨hq.2,Zc.2 ⟨r,hm,hq.1⟩⟩
def LS (t:Wk):St:=⟨aY [(6,.w (.c (.ptr 1 1 0 0)))],hL [(1,.it .i64 t.left t.last)],uL [1]⟩
def FR:aO := .seq (.nextM 7 (.t 6) [oO 8 (.extract (.t 7) 0)]) (.seq (.cond (.t 8) (.skip) (.exit 0)) (.block 1 (.seq (.reg [oO 9 (.mpEnt (.t 6)),oO 10 (.extract (.t 9) 0),oO 11 (.extract (.t 9) 1),oM 3 10,oM 4 11]) (.seq (.reg [oM 12 3,oO 13 (.bin .gtr (.t 12) (kI 7)),oM 14 13,oG 15 (.mv (.t 4)) 14 true,oG 16 (.call 109 [(.t 15),(.k (.c (.d (.fn 110 []))))] none) 14 true,oO 17 (.pick (.t 14) (.t 16) (.k (.c (.d (.bool false)))))]) (.cond (.t 17) (.seq (.reg [oO 2 (.mv (.k (.c (.d (.bool true)))))]) (.ret)) (.skip))))))
def KR:aA:=⟨1,18,.seq (.reg [oO 2 (.mv (.k (.c (.d (.bool false)))))]) (.seq (.seq (.reg [oM 5 0,oO 6 (.mpIter (.t 5))]) (.block 0 (.loop FR))) (.seq (.reg [oO 2 (.mv (.k (.c (.d (.bool false)))))]) (.ret))),[(2,none)]⟩
theorem Wm:aw Tryz.prog { own:=[],comp:=[],frz:=[],nils:=[] } Tryz.f69=some KR:=by kernel_rfl
theorem LU (G:ah) (l:List Ek) (hl:l.length≤1000000):aj Tryz.prog G 69 [cd l] (.w (.c (.d (.bool (gX l))))):=by
  refine aB Tryz.func69 Wm rfl rfl ?_;unfold cd;have hst:=jh.start l fun k=>¬ (7<k∧(ar l k).any (fun r=>r.cr)=true)
  simp only[KR,af,ae,aa,seval,iteOmega,toNatUp,cZ];refine bf LS (fun t=>t.left.length) (jh l fun k=>¬ (7<k∧(ar l k).any (fun r=>r.cr)=true)) ⟨cO l,none⟩ hst ?_ ?_
  ·refine aD (fun _=>48) ?_ ?_ rfl rfl <;> simp only[wx,aC,aK,aa,seval,iteOmega,toNatUp] <;> first | rfl | exact⟨rfl,rfl⟩ | skip
  ·rintro⟨left,last⟩ hI;simp only[FR,LS,ae,aa,seval,iteOmega,toNatUp];refine KJ (id:=1) (s:=1) (q:=.i64) (left:=left) (last:=last) rfl rfl ?_ ?_
   ·intro he;rw[Wl fun k hk=>hI.done he hk];simp only[ae,aa,seval,iteOmega,toNatUp];exact aF
   ·intro j p hj;obtain⟨e1,e2⟩:=H8 (hI.1 p (Y2 hj));have hnx:=fun h=>hI.next hj h
    have hlt:=FQ hj;generalize left.eraseIdx j=left' at *
    clear hj hI;obtain⟨k,d⟩:=p;dsimp only at *
    obtain rfl:d=D.sl ((ar l k).map aN):=congrArg Prod.snd e1;clear e1;have c:=XA G (ar l k) 110 [] (fun r=>r.cr) (by have:=List.length_filter_le (fun r:Ek=>decide (r.ty=k)) l; unfold ar; omega) fun x _=>XB G x
    by_cases hk:k>7
    ·have g1:=eq_true hk;cases hc:(ar l k).any fun r=>r.cr
     ·rw[hc] at c;have hn:=hnx (fun h=>by rw[hc] at h; cases h.2);simp only[ae,aa,seval,iteOmega,toNatUp,cZ,g1];refine sD (c) ?_;refine a6 (⟨left',some (k,D.sl ((ar l k).map aN))⟩:Wk) hlt hn (aD (fun _=>1) ?_ ?_ rfl rfl) <;> simp only[wx,aC,aK,aa,seval,iteOmega,toNatUp] <;> first | rfl | exact⟨rfl,rfl⟩ | skip
     ·rw[Tv hk hc];rw[hc] at c;simp only[ae,aa,seval,iteOmega,toNatUp,cZ,g1];refine sD (c) ?_;exact aF
    ·have g1:=eq_false hk;have hn:=hnx (fun h=>hk h.1);simp only[ae,aa,seval,iteOmega,toNatUp,cZ,g1];refine a6 (⟨left',some (k,D.sl ((ar l k).map aN))⟩:Wk) hlt hn (aD (fun _=>1) ?_ ?_ rfl rfl) <;> simp only[wx,aC,aK,aa,seval,iteOmega,toNatUp] <;> first | rfl | exact⟨rfl,rfl⟩ | skip
theorem Ia {l:List Ek} {k:Int} (h:(ar l k).length=1) {r:Ek} (hr:r∈l) (hk:r.ty=k):(ar l k).getD 0 default=r:=by
  have hm:r∈ar l k:=Zp.2 ⟨hr,decide_eq_true hk⟩
  match hx:ar l k,h with
  | [x],_ =>
    rw[hx] at hm;rw[X9.1 hm]; rfl
theorem zf {l:List Ek} {r:Ek} (hr:r∈l):ar l r.ty≠[]:=fun e=>by
  have hm:r∈ar l r.ty:=Zp.2 ⟨hr,decide_eq_true rfl⟩;rw[e] at hm; cases hm
theorem Ib {l:List Ek} {k:Int} (h:ar l k≠[]):0<(ar l k).length:=Nat.pos_of_ne_zero fun e=>h (YA.1 e)
theorem Wn (l:List Ek):kU l↔(0<l.length∧(l.getD (l.length-1) default).ty=0∧∀ k,ar l k≠[]→nj k (ar l k)=true):=by
  constructor
  ·rintro⟨⟨h1,h2,h3,h4,h5,h6,h7⟩,hb⟩;obtain⟨i1,i2⟩:=Vh (l:=l) (k:=0) (j:=0) (by omega);have hg:=lj (l:=l) (k:=0) (j:=0) (by omega);rw[h2] at i1 i2;refine⟨by omega,i2,fun k hk=>?_⟩;have hp:=Ib hk;have hm:=Zp.1 (js hp);have hty:((ar l k).getD 0 default).ty=k:=of_decide_eq_true hm.2;have hb1:pi ((ar l k).getD 0 default):=hb _ hm.1;unfold nj;split
   ·rename_i e;subst e;rw[← bY,← hg];exact decide_eq_true ⟨h1,h3⟩
   ·split
    ·rename_i e;refine decide_eq_true ⟨?_,hb1.1 (by rw[hty]; exact e)⟩;rw[bY] at h4 h5;rcases e with rfl | rfl <;> omega
    ·split
     ·rename_i e;subst e;rw[bY] at h6;exact decide_eq_true (by omega)
     ·split
      ·rename_i e;subst e;rw[bY] at h7;exact decide_eq_true ⟨by omega,hb1.2 hty⟩
      ·rfl
  ·rintro⟨hl,h0,hf⟩;have hlast:l.getD (l.length-1) default∈l:=js (by omega);have f0:=hf 0 (h0 ▸ zf hlast);have f0:(ar l 0).length=1∧((ar l 0).getD 0 default).bo.length=0:=of_decide_eq_true f0;have few:∀ k,(k=1∨k=4∨k=6∨k=7)→(bI l k).length≤1:=by
     intro k hk;rw[bY];by_cases he:ar l k=[]
     ·rw[he]; exact Yd _
     ·have:=hf k he;rcases hk with rfl | rfl | rfl | rfl
      ·exact Nat.le_of_eq (of_decide_eq_true this:_∧_).1
      ·exact Nat.le_of_eq (of_decide_eq_true this:_∧_).1
      ·exact Nat.le_of_eq (of_decide_eq_true this:_=1)
      ·exact Nat.le_of_eq (of_decide_eq_true this:_∧_).1
   have n0:(bI l 0).length=1:=by rw[bY]; exact f0.1
   have hidx:(bI l 0).getD 0 0=l.length-1:=by
     have hm:l.length-1∈bI l 0:=Zp.2 ⟨Zy.2 (by omega),decide_eq_true h0⟩
     match hx:bI l 0,n0 with
     | [x],_ =>
       rw[hx] at hm;rw[X9.1 hm]; rfl
   refine⟨⟨n0,hidx,?_,few 1 (by simp),few 4 (by simp),few 6 (by simp),few 7 (by simp)⟩,fun r hr=>⟨fun hk=>?_,fun hk=>?_⟩⟩
   ·rw[lj (by omega)]; exact f0.2
   ·have h1:=hf r.ty (zf hr);have h2:(ar l r.ty).length=1∧((ar l r.ty).getD 0 default).bo.length%2=0:=by
      rcases hk with hk | hk <;> (rw[hk] at h1 ⊢; exact of_decide_eq_true h1)
    rw[Ia h2.1 hr rfl] at h2;exact h2.2
   ·have h1:=hf r.ty (zf hr);have h2:(ar l r.ty).length=1∧((ar l r.ty).getD 0 default).bo.length=2:=by
      rw[hk] at h1 ⊢; exact of_decide_eq_true h1
    rw[Ia h2.1 hr rfl] at h2;exact h2.2
theorem Q9 {es:List (Int×List Ek)} {g:Nat→Nat} (h:∀ j,j<es.length→g (8*j+3)=8*j+3):(cu es 0).map (fun p=>(p.1,p.2.ren g))=cu es 0:=by
  refine Y7 fun j=>?_
  rw[YX,qb];cases hj:es[j]? with
  | none=>rfl
  | some p =>
    have:=h j (Yk.1 hj).1;simp only[Y9,C.ren,YT,this]
theorem Ra (es:List (Int×List Ek)) (p:Int×List Ek):cu (es++[p]) 0=cu es 0++[(p.1,.own (8*es.length+3) 3 0 p.2.length)]:=by
  have key:∀ (es:List (Int×List Ek)) (b:Nat),cu (es++[p]) b=cu es b++[(p.1,.own (8*(b+es.length)+3) 3 0 p.2.length)]:=by
    intro es
    induction es with
    | nil=>intro b; rfl
    | cons q r ih=>intro b; rw[YW,cu,ih,cu,YZ,show b+1+r.length=b+(r.length+1) by omega,YW]
  rw[key,YT]
theorem Tw {es:List (Int×List Ek)} {j k:Nat} (hj:j<es.length) (p:Int×List Ek) {g:Nat→Nat} (h:∀ i,i≠j→g (8*i+3)=8*i+3) (hk:g (8*j+3)=k):(cu (es.set j p) 0).map (fun q=>(q.1,q.2.ren g))=(cu es 0).set j (p.1,.own k 3 0 p.2.length):=by
  refine Y7 fun i=>?_
  rw[YX,qb,ZV,ZV,H9];by_cases e:j=i
  ·subst e;rw[if_pos rfl,if_pos rfl,if_pos hj,if_pos hj];simp only[Y9,C.ren,YT,hk]
  ·rw[if_neg e,if_neg e,qb];cases hi:es[i]? with
   | none=>rfl
   | some q=>simp only[Y9,C.ren,YT,h i (fun q=>e q.symm)]
def ji (n:Nat):Nat→Nat:=fun i=>if i=8*n+3 then 392 else i
theorem qp (n:Nat):ji n 1=1:=if_neg (by omega)
theorem mC (n:Nat):ji n (8*n+3)=392:=if_pos rfl
theorem kg {n j:Nat} (h:j≠n):ji n (8*j+3)=8*j+3:=if_neg (by omega)
theorem Ic (n j:Nat):ji n 1≠ji n (8*j+3):=by
  rw[qp];by_cases h:j=n
  ·rw[h,mC]; decide
  ·rw[kg h]; omega
theorem FS {n i j:Nat} (h:ji n (8*i+3)=ji n (8*j+3)):i=j:=by
  by_cases h1:i=n <;> by_cases h2:j=n
  ·omega
  ·rw[h1,mC,kg h2] at h; omega
  ·rw[h2,mC,kg h1] at h; omega
  ·rw[kg h1,kg h2] at h; omega
theorem Tx {σ:St} {fl:List (Nat×V)} {es:List (Int×List Ek)} {k:Int} {x:Ek} (h1:kO σ.f (ji es.length) fl) (hm:σ.h 1=some (.mp .i64 (cu es 0++[(k,.own 392 3 0 1)]))) (hw:σ.h 392=some (.row 3 [aN x]))
    (hr:∀ j,σ.h (8*j+3)=fu es (8*j+3)) (hf:(fl.flatMap fun p=>p.2.ids).all (fun i=>gm i)=true):dN σ ⟨aY fl,fu (es++[(k,[x])]),gm⟩:=by
  refine x5 (ji es.length) h1 ?_ (fun j p hp=>?_) (Ic _) (fun i j _ _=>FS) hf
  ·rw[qp,hm,Ra,YD,Q9 fun j hj=>kg (by omega)];simp only[Ya,Yo,C.ren,mC,ZO]
  ·by_cases h:j=es.length
   ·subst h;rw[YC (Ye _),ZZ] at hp;cases hp;rw[mC,hw]; rfl
   ·rw[kg h,hr,tF];rcases YG j es.length with h2 | h2
    ·rw[YO h2] at hp;rw[hp]; rfl
    ·rw[YC h2,YP (by simp; omega)] at hp;cases hp
theorem Ty {σ:St} {fl:List (Nat×V)} {es:List (Int×List Ek)} {j0:Nat} {k:Int} {y:List Ek} {x:Ek} (hj:es[j0]?=some (k,y)) (h1:kO σ.f (ji j0) fl) (hm:σ.h 1=some (.mp .i64 ((cu es 0).set j0 (k,.own 392 3 0 (y.length+1))))) (hw:σ.h 392=some (.row 3 (y.map aN++[aN x])))
    (hr:∀ j,j≠j0→σ.h (8*j+3)=fu es (8*j+3)) (hf:(fl.flatMap fun p=>p.2.ids).all (fun i=>gm i)=true):dN σ ⟨aY fl,fu (es.set j0 (k,y++[x])),gm⟩:=by
  have hlt:=(Yk.1 hj).1;refine x5 (ji j0) h1 ?_ (fun j p hp=>?_) (Ic _) (fun i j _ _=>FS) hf
  ·rw[qp,hm,Tw hlt (k,y++[x]) (k:=392) (fun i hi=>kg hi) (mC _),X5]; rfl
  ·rw[ZV] at hp;by_cases h:j0=j
   ·subst h;rw[if_pos rfl,if_pos hlt] at hp;cases hp;rw[mC,hw,YD]; rfl
   ·rw[if_neg h] at hp;rw[kg fun e=>h e.symm,hr _ fun e=>h e.symm,tF,hp]; rfl
def uw (l:List Ek) (i:Nat):St:=⟨aY [(4,.w (.c (.d (.sl (l.map aN))))),(6,.w (.c (.mp 1))),(34,.w (.c (.d (.sl (l.map aN))))),(35,.w (.c (.d (.int .i64 (l.length:Int))))),(36,.w (.c (.d (.int .i64 (i:Int)))))],fu (eT l i),gm⟩
def Ms (l:List Ek) (t:Wk):St:=⟨aY [(6,.w (.c (.d (cd l)))),(52,.w (.c (.ptr 1 1 0 0)))],hL [(1,.it .i64 t.left t.last)],uL [1]⟩
theorem Tz (l:List Ek) (i:Nat) (hi:i≤l.length):∀ (j:Nat) (p:Int×List Ek),(eT l i)[j]?=some p→p.2.length≤l.length:=by
  intro j p hp;have hm:=Y2 hp;have h1:=xZ (wm l i) (show (p.1,p.2)∈eT l i from hm);rw[y7 l i hi] at h1;split at h1
  ·cases h1
  ·rw[← Option.some.inj h1];have:=List.length_filter_le (fun r:Ek=>decide (r.ty=p.1)) (l.take i);rw[Yb] at this;unfold ar;omega
def sG:aO := .seq (.reg [oO 37 (.bin .lss (.t 36) (.t 35))]) (.seq (.cond (.t 37) (.skip) (.exit 0)) (.seq (.block 1 (.seq (.reg [oO 38 (.idxSl 3 (.t 34) (.t 36)),oO 39 (.load (.ag 3) (.t 38)),oO 8 (.alloc [(.d (.bool false)),(.d (.int .i64 0)),.nil]),oN (.store (.ag 3) (.t 8) (.t 39))]) (.reg [oM 40 6,oO 41 (.fieldAddr 1 (.t 8)),oO 42 (.loadB .sc (.t 41)),oM 43 6,oO 44 (.fieldAddr 1 (.t 8)),oO 45 (.loadB .sc (.t 44)),oO 46 (.mpGet .i64 (.sl []) false (.t 43) (.t 45)),oO 47 (.loadB (.ag 3) (.t 8)),oO 48 (.bldSl false 1 3 (.agg [(.bool false),(.int .i64 0),(.sl [])]) [(0,(.t 47))]),oO 49 (.app false 3 40 (.t 46) (.t 48)),oN (.mpSet .i64 (.t 40) (.t 42) (.t 49))]))) (.reg [oO 50 (.bin .add (.t 36) (kI 1)),oM 36 50])))
def FT:aO := .seq (.nextM 53 (.t 52) [oO 54 (.extract (.t 53) 0)]) (.seq (.cond (.t 54) (.skip) (.exit 2)) (.block 3 (.seq (.reg [oO 55 (.mpEnt (.t 52)),oO 56 (.extract (.t 55) 0),oO 57 (.extract (.t 55) 1),oM 9 56,oM 10 57]) (.seq (.reg [oM 58 9,oM 59 10,oO 60 (.call 108 [(.t 58),(.t 59)] none),oO 61 (.un .not (.t 60))]) (.cond (.t 61) (.seq (.reg [oO 2 (.mv (.k (.c (.d (.mp .i64 []))))),oO 3 (.mv (.k (.c (.d (.bool false)))))]) (.ret)) (.skip))))))
def qq:aA:=⟨1,63,.seq (.reg [oO 2 (.mv (.k (.c (.d (.mp .i64 []))))),oO 3 (.mv (.k (.c (.d (.bool false)))))]) (.seq (.reg [oM 12 0,oO 13 (.call 12 [(.t 12)] none),oM 11 13,oO 14 (.extract (.t 11) 0),oO 15 (.extract (.t 11) 1),oM 4 14,oM 5 15]) (.seq (.seq (.reg [oM 16 5,oO 17 (.bin .neq (.t 16) (kI 0)),oM 18 17,oG 19 (.mv (.t 4)) 18 false,oG 20 (.len (.t 19)) 18 false,oG 21 (.bin .eql (.t 20) (kI 0)) 18 false,oO 22 (.pick (.t 18) (.k (.c (.d (.bool true)))) (.t 21)),oM 23 22,oG 24 (.mv (.t 4)) 23 false,oG 25 (.mv (.t 4)) 23 false,oG 26 (.len (.t 25)) 23 false,oG 27 (.bin .sub (.t 26) (kI 1)) 23 false,oG 28 (.idxSl 3 (.t 24) (.t 27)) 23 false,oG 29 (.fieldAddr 1 (.t 28)) 23 false,oG 30 (.load .sc (.t 29)) 23 false,oG 31 (.bin .neq (.t 30) (kI 0)) 23 false,oO 32 (.pick (.t 23) (.k (.c (.d (.bool true)))) (.t 31))])
 (.cond (.t 32) (.seq (.reg [oO 2 (.mv (.k (.c (.d (.mp .i64 []))))),oO 3 (.mv (.k (.c (.d (.bool false)))))]) (.ret)) (.skip))) (.seq (.reg [oO 33 (.mkMp .i64 none),oM 6 33]) (.seq (.seq (.reg [oM 34 4,oO 35 (.len (.t 34)),oO 36 (.mv (kI 0))]) (.block 0 (.loop sG))) (.seq (.seq (.ghost 6 (.reg [oM 51 6,oO 52 (.mpIter (.t 51))])) (.block 2 (.loop FT))) (.seq (.reg [oM 62 6,oM 2 62,oO 3 (.mv (.k (.c (.d (.bool true)))))]) (.ret))))))),[(2,none),(3,none)]⟩
theorem Wo:aw Tryz.prog { own:=[],comp:=[],frz:=[],nils:=[],bx:=[42,45,47],gh:=[(10,6)] } Tryz.f66=some qq:=by kernel_rfl
theorem zV (G:ah) (b:List UInt8) (hb:b.length≤1000000000):aj Tryz.prog G 66 [.sl (b.map bD)] (.tup [.c (.d (cd (ir b))),.c (.d (.bool (decide (eG b))))]):=by
  refine aB Tryz.func66 Wo rfl rfl ?_;have c:=Xx G b hb;have hno:¬ eG b→ir b=[]∧decide (eG b)=false:=fun h=>⟨if_neg h,decide_eq_false h⟩
  by_cases he:dP b=0
  ·obtain⟨q1,q2,q3,q4⟩:=Lp he;have hyes:kU (aG b)→ir b=aG b∧decide (eG b)=true:=fun h=>⟨if_pos ⟨he,h⟩,decide_eq_true ⟨he,h⟩⟩
   have hno:¬ kU (aG b)→ir b=[]∧decide (eG b)=false:=fun h=>hno fun h2=>h h2.2
   have h64:=(lC q1).2.1;have hbo:∀ r∈aG b,r.bo.length≤65535:=fun r hr=>(lB (q4 r hr)).2.2
   have hfm:=Wn (aG b);rw[he] at c;generalize aG b=l at *
   by_cases h0:0<l.length
   ·have g:=kF (l:=l) (i:=l.length-1) (by omega);have gl:((l.length:Int)=0)=False:=eq_false (by omega);have gt:((l.length:Int)-1).toNat=l.length-1:=by omega
    by_cases h1:(l.getD (l.length-1) default).ty=0
    ·have gty:=eq_true h1;have az:=nC l;obtain⟨R,hR⟩:∃ R,R=l.getD (l.length-1) default:=⟨_,rfl⟩
     rw[← hR] at g gty;have hfm2:kU l↔∀ k,ar l k≠[]→nj k (ar l k)=true:=⟨fun h=>(hfm.1 h).2.2,fun h=>hfm.2 ⟨h0,h1,h⟩⟩
     clear hfm q1 q2 q3 q4 hR h1;obtain⟨Rc,Rt,Rb⟩:=R;dsimp only at gty;simp only[qq,af,ae,aa,seval,iteOmega,toNatUp];refine sC (c) ?_;simp only[gl,gt,aL,g,aN,gty,cZ,ae,aa,seval,iteOmega,toNatUp];refine bf (uw l) (fun i=>l.length-i) (fun i=>i≤l.length) 0 (Yd _) ?_ ?_
     ·refine x5 (fun i=>if i=1 then 264 else 0) ?_ ?_ (fun j p hp=>by cases hp) (fun j=>?_) (fun i j hi=>by cases hi) rfl
      ·simp only[wx,aC,aK,aa,seval,iteOmega,toNatUp,cZ,if_true]
      ·simp only[if_true,ae,aa,seval,iteOmega,toNatUp]; rfl
      ·rw[if_pos rfl,if_neg (by omega)]; decide
     ·intro i hi;have u64:gm 64=false:=za 8;have u392:gm 392=false:=za 49;have h1r:=Wa (eT l i);by_cases hlt:i<l.length
      ·have g:=kF hlt;have hst:eT l (i+1)=bP (eT l i) (l.getD i default).ty ((aX (eT l i) (l.getD i default).ty).getD []++[l.getD i default]):=rfl;have hln:=Tz l i hi;generalize l.getD i default=x at *
       obtain⟨es,hes⟩:∃ es,es=eT l i:=⟨_,rfl⟩
       rw[← hes] at hst h1r hln;obtain⟨X,hX⟩:∃ X,X=x:=⟨_,rfl⟩
       rcases KM es 0 x.ty with ⟨m1,m2⟩ | ⟨j,y,m1,m2,m3,m4⟩
       ·rw[m2] at hst;rw[Zd,Y4,xm _ m2,← hX] at hst;have p1:=fun c=>xm (es:=cu es 0) (k:=x.ty) c m1
        obtain⟨xc,xt,xb⟩:=x;dsimp only at *
        simp only[sG,uw,← hes,ae,aa,seval,iteOmega,toNatUp,aL,g,aN,cZ,u64,u392,h1r,m1,p1,bK];refine a6 (i+1) (by omega) (by omega) ?_
        show dN _ ⟨aY _,fu (eT l (i+1)),gm⟩
        rw[hst,hX];refine Tx ?_ ?_ ?_ (fun j=>by dsimp only; rw[upd_ne _ _ (by omega),upd_ne _ _ (by omega),upd_ne _ _ (by omega),upd_ne _ _ (by omega)]) rfl
        ·simp only[wx,aC,aK,aa,seval,iteOmega,toNatUp,cZ,qp] <;> first | rfl | exact⟨rfl,rfl⟩ | skip
        ·simp only[ae,aa,seval,iteOmega,toNatUp]
        ·simp only[ae,aa,seval,iteOmega,toNatUp,aN]
       ·rw[m1] at hst;rw[Y0,(m4 .nil).2,← hX] at hst;rw[YT] at m3;have p1:=fun c=>(m4 c).1
        have hyl:=hln j _ m2;dsimp only at hyl;have hrow:fu es (8*j+3)=some (.row 3 (y.map aN)):=by rw[tF,m2]; rfl
        have n1:(8*j+3==64)=false:=by rw[beq_eq_false_iff_ne]; omega
        have n2:(1==8*j+3)=false:=by rw[beq_eq_false_iff_ne]; omega
        have az2:=nC y;obtain⟨xc,xt,xb⟩:=x;dsimp only at *
        simp only[sG,uw,← hes,ae,aa,seval,iteOmega,toNatUp,aL,g,aN,cZ,u64,u392,h1r,m3,p1,bK,n1,n2,hrow];refine a6 (i+1) (by omega) (by omega) ?_
        show dN _ ⟨aY _,fu (eT l (i+1)),gm⟩
        rw[hst,hX];refine Ty m2 ?_ ?_ ?_ (fun i hi=>by dsimp only; rw[upd_ne _ _ (by omega),upd_ne _ _ (by omega),upd_ne _ _ (by omega),upd_ne _ _ (by omega),upd_ne _ _ (by omega)]) rfl
        ·simp only[wx,aC,aK,aa,seval,iteOmega,toNatUp,cZ,qp] <;> first | rfl | exact⟨rfl,rfl⟩ | skip
        ·simp only[ae,aa,seval,iteOmega,toNatUp]
        ·simp only[ae,aa,seval,iteOmega,toNatUp,aN]
      ·obtain rfl:i=l.length:=by omega
       have u416:gm 416=false:=za 52;simp only[sG,uw,ae,aa,seval,iteOmega,toNatUp];refine V9 (id:=1) (q:=.i64) (es:=cu (eT l l.length) 0) (ds:=cO l) rfl h1r (Pi _) ?_;generalize upd (killAll (fu (eT l l.length)) ((cu (eT l l.length) 0).map (·.2))) 1 none=K;simp only[ae,aa,seval,iteOmega,toNatUp,cZ,u416];refine bf (Ms l) (fun t=>t.left.length) (jh l fun k=>nj k (ar l k)=true) ⟨cO l,none⟩ (jh.start l _) ?_ ?_
       ·refine aD (fun _=>416) ?_ ?_ rfl rfl <;> simp only[wx,aC,aK,aa,seval,iteOmega,toNatUp,cd] <;> first | rfl | exact⟨rfl,rfl⟩ | skip
       ·rintro⟨left,last⟩ hI;simp only[FT,Ms,cd,ae,aa,seval,iteOmega,toNatUp];refine KJ (id:=1) (s:=1) (q:=.i64) (left:=left) (last:=last) rfl rfl ?_ ?_
        ·intro hle;obtain⟨e1,e2⟩:=hyes (hfm2.2 fun k hk=>hI.done hle hk);rw[e1,e2];simp only[ae,aa,seval,iteOmega,toNatUp];exact aW
        ·intro j p hj;obtain⟨e1,e2⟩:=H8 (hI.1 p (Y2 hj));have hnx:=fun h=>hI.next hj h
         have hle:=FQ hj;generalize left.eraseIdx j=left' at *
         clear hj hI;obtain⟨k,d⟩:=p;dsimp only at *
         obtain rfl:d=D.sl ((ar l k).map aN):=congrArg Prod.snd e1;clear e1;have hp:=Ib e2;have c2:=XD G k (ar l k) hp (by have:=List.length_filter_le (fun r:Ek=>decide (r.ty=k)) l; unfold ar; omega) (by have:=hbo _ (Zp.1 (js hp)).1; unfold ar; omega);cases hc:nj k (ar l k)
         ·rw[hc] at c2;obtain⟨e1,e3⟩:=hno fun h=>by have:=hfm2.1 h k e2; rw[hc] at this; cases this
          rw[e1,e3,show cO []=[] from rfl];simp only[ae,aa,seval,iteOmega,toNatUp,cZ];refine sD (c2) ?_;exact aW
         ·rw[hc] at c2;have hn:=hnx hc;simp only[ae,aa,seval,iteOmega,toNatUp,cZ];refine sD (c2) ?_;refine a6 (⟨left',some (k,D.sl ((ar l k).map aN))⟩:Wk) hle hn (aD (fun _=>1) ?_ ?_ rfl rfl) <;> simp only[wx,aC,aK,aa,seval,iteOmega,toNatUp,cd] <;> first | rfl | exact⟨rfl,rfl⟩ | skip
    ·obtain⟨e1,e2⟩:=hno fun h=>h1 (hfm.1 h).2.1
     rw[e1,e2,qa];have gty:=eq_false h1;generalize l.getD (l.length-1) default=R at *
     obtain⟨Rc,Rt,Rb⟩:=R;dsimp only at gty;simp only[qq,af,ae,aa,seval,iteOmega,toNatUp];refine sC (c) ?_;simp only[gl,gt,aL,g,aN,gty,ae,aa,seval,iteOmega,toNatUp];exact aW
   ·obtain⟨e1,e2⟩:=hno fun h=>h0 (hfm.1 h).1
    rw[e1,e2,qa];have gl:((l.length:Int)=0)=True:=eq_true (by omega);simp only[qq,af,ae,aa,seval,iteOmega,toNatUp];refine sC (c) ?_;simp only[gl,ae,aa,seval,iteOmega,toNatUp];exact aW
  ·obtain⟨e1,e2⟩:=hno fun h=>he h.1
   rw[e1,e2,qa];have g1:(dP b=0)=False:=eq_false he;generalize dP b=e at *
   generalize aG b=l at *
   simp only[qq,af,ae,aa,seval,iteOmega,toNatUp];refine sC (c) ?_;simp only[g1,ae,aa,seval,iteOmega,toNatUp];exact aW
theorem tG {b:List UInt8}:(∀ r∈aG b,r.bo.length≤65535)∧(aG b).length≤64:=by
  by_cases h:dP b=0
  ·obtain⟨h1,h2,h3,h4⟩:=Lp h;exact⟨fun r hr=>(lB (h4 r hr)).2.2,(lC h1).2.1⟩
  ·rw[show aG b=[] from if_neg h];exact⟨fun r hr=>(by cases hr),Yd _⟩
def fC (r:List Fd) (c:Ch) (v a:Int) (ns:List (List UInt8)) (i:Nat):List Ek:=⟨true,1,aM [v]⟩::⟨true,4,aM [a]⟩::fI r c v a (ns.take i)
theorem x7 {l:List (List UInt8)} {i:Nat} (h:i<l.length):l[i]?=some (l.getD i []):=by
  rw[X6,X3 h]; rfl
theorem BB {l:List (List UInt8)} {i:Nat} (h:i<l.length):l.take (i+1)=l.take i++[l.getD i []]:=by
  rw[ZG,x7 h]; rfl
theorem Re {r:List Fd} {c:Ch} {v a:Int} {ns:List (List UInt8)} {i:Nat} (h:i<ns.length):fC r c v a ns (i+1)=fC r c v a ns i++[⟨false,5,mZ r a (a7 c v a 0) (a7 c v a 1) (ns.getD i [])⟩]:=by
  unfold fC fI;rw[BB h,YD]; rfl
theorem x8 (r:List Fd) (c:Ch) (v a:Int) (ns:List (List UInt8)) (i:Nat):(fC r c v a ns i).length≤ns.length+2:=by
  unfold fC fI;simp only[YZ,Yc,Yb]; omega
theorem ux (x:ByteArray):x.toList=x.data.toList:=by
  have:=toList_mk x.data.toList
  rwa [Zk] at this
theorem TA {x:ByteArray} (h:x.size=0):jC .neq x ⟨#[]⟩=some (.bool false):=by
  show some (D.bool (!(x.toList==(⟨#[]⟩:ByteArray).toList)))=_
  rw[ux,ux,YA.1 (show x.data.toList.length=0 from h)];rfl
theorem TB {x:ByteArray} (h:¬ x.size=0):jC .neq x ⟨#[]⟩=some (.bool true):=by
  show some (D.bool (!(x.toList==(⟨#[]⟩:ByteArray).toList)))=_
  rw[ux,ux,beq_eq_false_iff_ne.2 (fun q:x.data.toList=[]=>h (show x.data.toList.length=0 by rw[q]; rfl))];rfl
theorem qt (b:List UInt8):(eO b).length≤b.length:=by
  unfold eO;split
  ·rw[Tb]; omega
  ·exact Yd _
theorem x9 (p:dT):(gY p).length≤3:=by
  unfold gY;simp only[X5];split <;> split <;> simp
theorem zg {p:dT} (h:p.ho.size≤255):∀ e∈gY p,0≤e.ty∧e.ty≤7∧e.bo.length≤255:=by
  intro e he;unfold gY at he;rcases Yj.1 he with he | he
  ·split at he
   ·cases he
   ·rw[X9.1 he]; exact fw (by decide) h
  ·rcases Yj.1 he with he | he
   ·split at he
    ·cases he
    ·rw[X9.1 he]; exact fw (by decide) (by rw[dZ]; exact (show 2*1≤255 by decide))
   ·rw[X9.1 he]; exact fw (by decide) (by decide)
theorem XE {p:dT} {l:List Ek} (h:p.ho.size≤255) (ok:∀ e∈l,0≤e.ty∧e.ty≤7∧e.bo.length≤255) (hl:l.length≤10):dX (l++gY p)=0∧jO (l++gY p)=be (l++gY p) :=
  uh (fun e he=>(Yj.1 he).elim (ok e) (zg h e)) (by have:=x9 p; rw[X5]; omega)
theorem lF {c:Ch} {v a:Int} (h:cy c) (hv:0≤v∧v≤65535) (ha:0≤a∧a≤65535):eP c v a=0:=by
  have hs:bz [v,a]:=fun n hn=>by
    rcases Yi.1 hn with rfl | hn
    ·exact hv
    ·rw[X9.1 hn]; exact ha
  unfold eP;rw[if_neg (not_not_intro h),if_neg (not_not_intro hs)]
theorem zW {r:List Fd} {a:Int} {U W n:List UInt8} (vR:cT r) (ha:0≤a∧a≤65535) (hU:U.length=32) (hW:W.length=32) (h:n.length=16):mZ r a U W n=cG (r.getD 0 default) a U W n∧(cG (r.getD 0 default) a U W n).length=104:=by
  have h0:0<r.length:=vR.1;obtain⟨q1,q2,q3⟩:=vR.2.2.1 _ (FF h0);have e:iQ r a U W n=0:=by
    unfold iQ;rw[if_pos vR,if_neg (by omega),if_neg (by omega),if_neg (by omega)]
  exact⟨if_pos e,(xf q3 q1 q2 ha.1 ha.2 hU hW h).1⟩
theorem KS {r:List Fd} {c:Ch} {v a:Int} {ns:List (List UInt8)} (vR:cT r) (hk:eP c v a=0) (ha:0≤a∧a≤65535) (h16:∀ n∈ns,n.length=16):∀ e∈fC r c v a ns ns.length,0≤e.ty∧e.ty≤7∧e.bo.length≤255:=by
  intro e he;unfold fC at he;rcases Yi.1 he with rfl | he
  ·exact fw (by decide) (by rw[dZ]; exact (show 2*1≤255 by decide))
  ·rcases Yi.1 he with rfl | he
   ·exact fw (by decide) (by rw[dZ]; exact (show 2*1≤255 by decide))
   ·rw[Zb] at he;obtain⟨n,hn,rfl⟩:=Yu.1 he;obtain⟨q1,q2⟩:=zW (U:=a7 c v a 0) (W:=a7 c v a 1) vR ha (lk hk) (lk hk) (h16 n hn);refine fw (by decide) ?_;rw[q1,q2]; decide
def vg (id:Int):Bool:=decide (0≤id∧id≤4294967295)
def sZ:aA:=⟨1,9,.seq (.reg [oO 2 (.mv (.k (.c (.d (.bool false)))))]) (.seq (.reg [oM 3 0,oO 4 (.bin .leq (kI 0) (.t 3)),oM 5 4,oG 6 (.mv (.t 0)) 5 true,oG 7 (.bin .lss (.t 6) (kI 4294967296)) 5 true,oO 8 (.pick (.t 5) (.t 7) (.k (.c (.d (.bool false))))),oM 2 8]) (.ret)),[(2,none)]⟩
theorem TC:aw Tryz.prog { own:=[],comp:=[],frz:=[],nils:=[] } Tryz.f107=some sZ:=by kernel_rfl
theorem Wp (G:ah) (id:Int):aj Tryz.prog G 107 [.int .i64 id] (.w (.c (.d (.bool (vg id))))):=by
  refine aB Tryz.func107 TC rfl rfl ?_;unfold vg;by_cases h1:0≤id
  ·by_cases h2:id<4294967296
   ·have g1:(0≤id)=True:=eq_true h1;have g2:(id<4294967296)=True:=eq_true h2;rw[decide_eq_true (show 0≤id∧id≤4294967295 by omega)];simp only[sZ,af,ae,aa,seval,iteOmega,toNatUp,g1,g2];exact aF
   ·have g1:(0≤id)=True:=eq_true h1;have g2:(id<4294967296)=False:=eq_false h2;rw[decide_eq_false (show ¬ (0≤id∧id≤4294967295) by omega)];simp only[sZ,af,ae,aa,seval,iteOmega,toNatUp,g1,g2];exact aF
  ·have g1:(0≤id)=False:=eq_false h1;rw[decide_eq_false (show ¬ (0≤id∧id≤4294967295) by omega)];simp only[sZ,af,ae,aa,seval,iteOmega,toNatUp,g1];exact aF
def ya:aA:=⟨1,35,.seq (.reg [oO 2 (.mv (kI 0)),oO 3 (.alloc [.nil,.nil]),oO 4 (.mv (.k (.c (.d (.bool false)))))]) (.seq (.reg [oM 12 0,oO 13 (.call 124 [(.t 12),(kI 4)] none),oM 11 13,oO 14 (.extract (.t 11) 0),oO 15 (.extract (.t 11) 1),oO 16 (.extract (.t 11) 2),oM 5 14,oM 6 15,oM 7 16]) (.seq (.seq (.reg [oM 17 5,oO 18 (.slice 1 (.t 17) (some (kI 2)) none none),oO 19 (.call 48 [(.t 18)] none),oO 20 (.bin .neq (.t 19) (.k (.c (.d (.int .u64 0)))))]) (.cond (.t 20) (.seq (.reg [oO 21 (.build [.nil,.nil] []),oO 2 (.mv (kI 0)),oN (.store (.ag 2) (.t 3) (.t 21)),oO 4 (.mv (.k (.c (.d (.bool false)))))]) (.ret)) (.skip))) (.seq (.reg [oM 23 6,oO 24 (.call 124 [(.t 23),(kI 32)] none),oM 22 24,oO 25 (.extract (.t 22) 0),oO 26 (.extract (.t 22) 1),oO 27 (.extract (.t 22) 2),oM 8 25,oM 9 26,
 oM 10 27]) (.seq (.reg [oM 28 5,oO 29 (.slice 1 (.t 28) none (some (kI 2)) none),oO 30 (.call 48 [(.t 29)] none),oO 31 (.conv .i64 (.t 30)),oM 32 8,oM 33 9,oO 34 (.build [.nil,.nil] [(0,1,(.t 32)),(1,1,(.t 33))]),oM 2 31,oN (.store (.ag 2) (.t 3) (.t 34)),oO 4 (.mv (.k (.c (.d (.bool true)))))]) (.ret))))),[(2,none),(3,(some (.ag 2))),(4,none)]⟩
theorem TD:aw Tryz.prog { own:=[],comp:=[],frz:=[],nils:=[] } Tryz.f89=some ya:=by kernel_rfl
theorem Wq (G:ah) (V:List UInt8) (hV:V.length=68):aj Tryz.prog G 89 [.sl (V.map bD)] (if V.getD 2 0=0∧V.getD 3 0=0 then .tup [.c (.d (.int .i64 (aR (aI V 0 2):Int))),.c (.d (di (aI V 4 32) (aI V 36 32))),.c (.d (.bool true))] else .tup [.c (.d (.int .i64 0)),.c (.d (di [] [])),.c (.d (.bool false))]):=by
  refine aB Tryz.func89 TD rfl rfl ?_;have c1:=yU G V 4 (by omega) (by omega);have c2:=yU G (V.drop 4) 32 (by simp; omega) (by simp; omega);have c3:=jx G ((V.take 4).drop 2) (by simp; omega);have c4:=jx G ((V.take 4).take 2) (by simp; omega);have e1:(V.take 4).take 2=aI V 0 2:=by unfold aI; rw[List.take_take]; rfl
  have e2:(V.drop 4).take 32=aI V 4 32:=rfl;have e3:(V.drop 4).drop 32=aI V 36 32:=by
    unfold aI;rw[List.drop_drop,X7 (by simp; omega)]
  have hz:aR ((V.take 4).drop 2)=0↔V.getD 2 0=0∧V.getD 3 0=0:=by
    have:(V.take 4).drop 2=[V.getD 2 0,V.getD 3 0]:=by
      match V,hV with
      | a::b::c::d::l,_=>rfl
    rw[this];generalize V.getD 2 0=a;generalize V.getD 3 0=b;have ha:=a.toNat_lt;have hb:=b.toNat_lt;have e:aR [a,b]=a.toNat*256+b.toNat:=by simp only[aR,List.foldl]; omega
    rw[e];constructor
    ·intro h;exact⟨UInt8.toNat_inj.1 (show a.toNat=0 by omega),UInt8.toNat_inj.1 (show b.toNat=0 by omega)⟩
    ·rintro⟨rfl,rfl⟩;rfl
  have l4:((V.take 4).drop 2).length=2:=by simp; omega
  have t4:((V.take 4).drop 2).take 2=(V.take 4).drop 2:=X7 (by omega);have l5:(V.take 4).length=4:=by simp; omega
  have b4:=(iV 2 (aI V 0 2) (jr (by omega)) (by decide)).1;rw[e1] at c4;rw[e2,e3] at c2;by_cases h:V.getD 2 0=0∧V.getD 3 0=0
  ·rw[if_pos h];rw[hz.2 h] at c3;simp only[ya,af,ae,aa,seval,iteOmega,toNatUp];refine sC (c1) ?_;simp only[l5,t4,ae,aa,seval,iteOmega,toNatUp];refine sD (c3) ?_;refine sC (c2) ?_;simp only[e1,l5,ae,aa,seval,iteOmega,toNatUp];refine a8 c4 (by simp only[ae,aa,seval,iteOmega,toNatUp,e1]) (.inl rfl) ?_;simp only[ae,aa,seval,iteOmega,toNatUp];exact qg (by simp only[ae,aa,seval,iteOmega,toNatUp] <;> rfl) (by simp only[ae,aa,seval,iteOmega,toNatUp] <;> rfl) (by simp only[ae,aa,seval,iteOmega,toNatUp])
  ·rw[if_neg h];have g:(((aR ((V.take 4).drop 2):Nat):Int)=0)=False:=eq_false (by have:=mt hz.1 h; omega);simp only[ya,af,ae,aa,seval,iteOmega,toNatUp];refine sC (c1) ?_;simp only[l5,t4,ae,aa,seval,iteOmega,toNatUp];refine sC (c3) ?_;simp only[g,ae,aa,seval,iteOmega,toNatUp];exact qg (by simp only[ae,aa,seval,iteOmega,toNatUp] <;> rfl) (by simp only[ae,aa,seval,iteOmega,toNatUp] <;> rfl) (by simp only[ae,aa,seval,iteOmega,toNatUp])
def yb:aA:=⟨1,11,.seq (.reg [oO 2 (.mv (kI 0)),oO 3 (.mv (kI 0))]) (.seq (.seq (.reg [oM 4 0,oO 5 (.len (.t 4)),oO 6 (.bin .neq (.t 5) (kI 104))]) (.cond (.t 6) (.seq (.reg [oO 2 (.mv (kI 0)),oO 3 (.mv (kI 3))]) (.ret)) (.skip))) (.seq (.reg [oM 7 0,oO 8 (.slice 1 (.t 7) none (some (kI 4)) none),oO 9 (.call 48 [(.t 8)] none),oO 10 (.conv .i64 (.t 9)),oM 2 10,oO 3 (.mv (kI 0))]) (.ret))),[(2,none),(3,none)]⟩
theorem TE:aw Tryz.prog { own:=[],comp:=[],frz:=[],nils:=[] } Tryz.f85=some yb:=by kernel_rfl
theorem Wr (G:ah) (c:List UInt8) (hc:c.length≤9223372036854775807):aj Tryz.prog G 85 [.sl (c.map bD)] (.tup [.c (.d (.int .i64 (fW c:Int))),.c (.d (.int .i64 (rh c)))]):=by
  refine aB Tryz.func85 TE rfl rfl ?_;unfold fW rh;by_cases h:c.length=104
  ·rw[if_neg (by omega),if_neg (by omega)];have c1:=jx G (aI c 0 4) (by rw[jr (by omega)]; decide);have b1:=(iV 4 (aI c 0 4) (jr (by omega)) (by decide)).1;have t1:c.take 4=aI c 0 4:=rfl;generalize aR (aI c 0 4)=n at *
   simp only[yb,af,ae,aa,seval,iteOmega,toNatUp,h,t1];refine sC c1 ?_;simp only[ae,aa,seval,iteOmega,toNatUp];exact aW
  ·rw[if_pos h,if_pos h];simp only[yb,af,ae,aa,seval,iteOmega,toNatUp];exact aW
def kX (l:List Fd):Nat→List (Int×D)
  | 0=>[]
  | i+1=>bP (kX l i) (l.getD i default).ty (.bool true)
theorem LV (l:List Fd) (y:Int):∀ i,aX (kX l i) y=if ∃ k,k<i∧(l.getD k default).ty=y then some (.bool true) else none
  | 0=>by simp[kX,Tq]
  | i+1=>by
    simp only[kX,H6,LV l y i];by_cases h:y=(l.getD i default).ty
    ·rw[if_pos h,if_pos ⟨i,by omega,h.symm⟩]
    ·rw[if_neg h];by_cases h2:∃ k,k<i∧(l.getD k default).ty=y
     ·obtain⟨k,h3,h4⟩:=h2;rw[if_pos ⟨k,h3,h4⟩,if_pos ⟨k,by omega,h4⟩]
     ·have h5:¬ ∃ k,k<i+1∧(l.getD k default).ty=y:=by
        rintro⟨k,h3,h4⟩;rcases YG k i with g | g
        ·exact h2 ⟨k,g,h4⟩
        ·obtain rfl:k=i:=by omega
         exact h h4.symm
      rw[if_neg h2,if_neg h5]
def ny:aO := .seq (.reg [oO 21 (.bin .lss (.t 20) (.t 19))]) (.seq (.cond (.t 21) (.skip) (.exit 0)) (.seq (.block 1 (.seq (.reg [oO 22 (.idxSl 2 (.t 18) (.t 20)),oO 23 (.load (.ag 2) (.t 22)),oO 5 (.alloc [(.d (.int .i64 0)),.nil]),oN (.store (.ag 2) (.t 5) (.t 23))]) (.seq (.seq (.reg [oO 24 (.fieldAddr 0 (.t 5)),oO 25 (.load .sc (.t 24)),oO 26 (.call 107 [(.t 25)] none),oO 27 (.un .not (.t 26)),oM 28 27,oG 29 (.mv (.t 3)) 28 false,oG 30 (.fieldAddr 0 (.t 5)) 28 false,oG 31 (.load .sc (.t 30)) 28 false,oG 32 (.mpGet .i64 (.bool false) false (.t 29) (.t 31)) 28 false,oO 33 (.pick (.t 28) (.k (.c (.d (.bool true)))) (.t 32)),oM 34 33,oG 35 (.fieldAddr 1 (.t 5)) 34 false,oG 36 (.load .sc (.t 35)) 34 false,oG 37 (.len (.t 36)) 34 false,oG 38 (.bin .neq (.t 37) (kI 32)) 34 false,oO 39 (.pick (.t 34) (.k (.c (.d (.bool true)))) (.t 38))])
 (.cond (.t 39) (.seq (.reg [oO 2 (.mv (.k (.c (.d (.bool false)))))]) (.ret)) (.skip))) (.reg [oM 40 3,oO 41 (.fieldAddr 0 (.t 5)),oO 42 (.load .sc (.t 41)),oN (.mpSet .i64 (.t 40) (.t 42) (.k (.c (.d (.bool true)))))])))) (.reg [oO 43 (.bin .add (.t 20) (kI 1)),oM 20 43])))
def s5:aA:=⟨1,44,.seq (.reg [oO 1 (.box .roBox (.t 0)),oO 2 (.mv (.k (.c (.d (.bool false)))))]) (.seq (.seq (.reg [oO 6 (.fieldAddr 0 (.t 1)),oO 7 (.load .sc (.t 6)),oO 8 (.len (.t 7)),oO 9 (.bin .lss (.t 8) (kI 1)),oM 10 9,oG 11 (.fieldAddr 0 (.t 1)) 10 false,oG 12 (.load .sc (.t 11)) 10 false,oG 13 (.len (.t 12)) 10 false,oG 14 (.bin .gtr (.t 13) (kI 4)) 10 false,oO 15 (.pick (.t 10) (.k (.c (.d (.bool true)))) (.t 14))]) (.cond (.t 15) (.seq (.reg [oO 2 (.mv (.k (.c (.d (.bool false)))))]) (.ret)) (.skip))) (.seq (.reg [oO 16 (.mkMp .i64 none),oM 3 16]) (.seq (.seq (.reg [oO 17 (.fieldAddr 0 (.t 1)),oO 18 (.load .sc (.t 17)),oO 19 (.len (.t 18)),oO 20 (.mv (kI 0))]) (.block 0 (.loop ny))) (.seq (.reg [oO 2 (.mv (.k (.c (.d (.bool true)))))]) (.ret))))),[(2,none)]⟩
theorem TF:aw Tryz.prog { own:=[],comp:=[],frz:=[],nils:=[] } Tryz.f65=some s5:=by kernel_rfl
def po (l:List Fd) (i:Nat):St:=⟨aY [(3,.w (.c (.mp 1))),(18,.w (.c (.d (.sl (l.map bM))))),(19,.w (.c (.d (.int .i64 (l.length:Int))))),(20,.w (.c (.d (.int .i64 (i:Int)))))],hL [(1,.mp .i64 (gJ (kX l i)))],uL [1]⟩
set_option maxHeartbeats 3200000 in
theorem zh (G:ah) (l:List Fd) (hl:l.length≤9223372036854775807):aj Tryz.prog G 65 [bG l] (.w (.c (.d (.bool (decide (cT l)))))):=by
  refine aB Tryz.func65 TF rfl rfl ?_;unfold bG;rcases YG l.length 1 with h1 | h1
  ·have hno:¬ cT l:=fun h=>by have:=h.1; omega
   rw[decide_eq_false hno];simp only[s5,af,ae,aa,seval,iteOmega,toNatUp];exact aF
  ·rcases YG 4 l.length with h4 | h4
   ·have hno:¬ cT l:=fun h=>by have:=h.2.1; omega
    have g4:((l.length:Int)>4)=True:=eq_true (by omega);rw[decide_eq_false hno];simp only[s5,af,ae,aa,seval,iteOmega,toNatUp,g4];exact aF
   ·have g4:((l.length:Int)>4)=False:=eq_false (by omega);simp only[s5,af,ae,aa,seval,iteOmega,toNatUp,cZ,g4];refine bf (po l) (fun i=>l.length-i) (fun i=>i≤l.length∧∀ j,j<i→iF (l.getD j default)∧∀ k,k<j→(l.getD k default).ty≠(l.getD j default).ty) 0 ⟨Yd _,fun j hj=>by omega⟩ ?_ ?_
    ·refine aD (fun i=>128) ?_ ?_ rfl rfl <;> simp only[wx,aC,aK,aa,seval,iteOmega,toNatUp,kX,cZ]
    ·rintro i ⟨hi,hok⟩;by_cases hlt:i<l.length
     ·have g:=lU hlt;have hno:¬ iF (l.getD i default)→¬ cT l:=fun h hr=>h (ly hr hlt).1
      have hno2:∀ k,k<i→(l.getD k default).ty=(l.getD i default).ty→¬ cT l:=fun k hk e hr=>(ly hr hlt).2 k hk e
      have hgo:iF (l.getD i default)→(∀ k,k<i→(l.getD k default).ty≠(l.getD i default).ty)→∀ j,j<i+1→iF (l.getD j default)∧∀ k,k<j→(l.getD k default).ty≠(l.getD j default).ty:=fun a b j hj=>by
        rcases YG j i with h | h
        ·exact hok j h
        ·obtain rfl:j=i:=by omega
         exact⟨a,b⟩
      have hms:=LV l (l.getD i default).ty i;have hst:kX l (i+1)=bP (kX l i) (l.getD i default).ty (.bool true):=rfl;have ci:=Wp G (l.getD i default).ty;by_cases h0:0≤(l.getD i default).ty∧(l.getD i default).ty≤4294967295
      ·rw[show vg (l.getD i default).ty=true from decide_eq_true h0] at ci;by_cases h5:∃ k,k<i∧(l.getD k default).ty=(l.getD i default).ty
       ·obtain⟨k,h6,h7⟩:=h5;rw[if_pos ⟨k,h6,h7⟩] at hms;rw[decide_eq_false (hno2 k h6 h7)];simp only[ny,po,ae,aa,seval,iteOmega,toNatUp,cZ,aL,g,bM];refine sC (ci) ?_;simp only[cZ,hms,ae,aa,seval,iteOmega,toNatUp];exact aF
       ·rw[if_neg h5] at hms;by_cases h3:(l.getD i default).da.length=32
        ·simp only[ny,po,ae,aa,seval,iteOmega,toNatUp,cZ,aL,g,bM];refine sC (ci) ?_;simp only[cZ,hms,h3,ae,aa,seval,iteOmega,toNatUp];refine a6 (i+1) (by omega) ⟨by omega,hgo ⟨by omega,by omega,h3⟩ fun k hk e=>h5 ⟨k,hk,e⟩⟩ (aD (fun _=>1) ?_ ?_ rfl (by simp only[Yl,ZX,Ob.ids,xY]; rfl)) <;> simp only[wx,aC,aK,aa,seval,iteOmega,toNatUp,cZ,kX]
        ·rw[decide_eq_false (hno fun h=>h3 h.2.2)];have h4':(((l.getD i default).da.length:Int)=32)=False:=eq_false (by omega);simp only[ny,po,ae,aa,seval,iteOmega,toNatUp,cZ,aL,g,bM];refine sC (ci) ?_;simp only[cZ,hms,h4',ae,aa,seval,iteOmega,toNatUp];exact aF
      ·rw[show vg (l.getD i default).ty=false from decide_eq_false h0] at ci;rw[decide_eq_false (hno fun h=>h0 ⟨h.1,h.2.1⟩)];simp only[ny,po,ae,aa,seval,iteOmega,toNatUp,cZ,aL,g,bM];refine sD (ci) ?_;exact aF
     ·obtain rfl:i=l.length:=by omega
      rw[decide_eq_true (Kp (by omega) (by omega) hok)];simp only[ny,po,ae,aa,seval,iteOmega,toNatUp,cZ];exact aF
def kY (l:List Fd) (id:Int):Int:=match gI l id with | some i=>(i:Int) | none=>-1
def uT (l:List Fd) (g:Nat) (caps:List D) (i:Nat):St:=⟨aY [(0,.w (.c (.d (.sl (l.map bM))))),(1,.w (.c (.d (.fn g caps)))),(7,.w (.c (.d (.int .i64 (l.length:Int))))),(8,.w (.c (.d (.int .i64 (i:Int)))))],hL [],uL []⟩
def rP:aO := .seq (.reg [oO 9 (.bin .lss (.t 8) (.t 7))]) (.seq (.cond (.t 9) (.skip) (.exit 0)) (.seq (.block 1 (.seq (.reg [oM 10 8,oM 5 10]) (.seq (.reg [oM 11 1,oM 12 0,oM 13 5,oO 14 (.idxSl 2 (.t 12) (.t 13)),oO 15 (.load (.ag 2) (.t 14)),oO 16 (.call 1000000007 [(.t 11),(.t 15)] none)]) (.cond (.t 16) (.seq (.reg [oM 17 5,oM 4 17]) (.ret)) (.skip))))) (.reg [oO 18 (.bin .add (.t 8) (kI 1)),oM 8 18])))
def Ie:aA:=⟨2,19,.seq (.reg [oO 4 (.mv (kI 0))]) (.seq (.seq (.reg [oM 6 0,oO 7 (.len (.t 6)),oO 8 (.mv (kI 0))]) (.block 0 (.loop rP))) (.seq (.reg [oO 4 (.mv (.k (.c (.d (.int .i64 (-1))))))]) (.ret))),[(4,none)]⟩
theorem TG:aw Tryz.prog { own:=[],comp:=[],frz:=[],nils:=[] } Tryz.f86=some Ie:=by kernel_rfl
theorem Ws (G:ah) (l:List Fd) (g:Nat) (caps:List D) (id:Int) (hl:l.length≤9223372036854775807) (hp:∀ x:Fd,jD Tryz.prog G g caps [bM x] (.w (.c (.d (.bool (decide (x.ty=id))))))):aj Tryz.prog G 86 [.sl (l.map bM),.fn g caps] (.w (.c (.d (.int .i64 (kY l id))))):=by
  refine aB Tryz.func86 TG rfl rfl ?_;simp only[Ie,af,ae,aa,seval,iteOmega,toNatUp];refine bf (uT l g caps) (fun i=>l.length-i) (fun i=>i≤l.length∧∀ j,j<i→(l.getD j default).ty≠id) 0 ⟨Yd _,fun j hj=>by omega⟩ ?_ ?_
  ·refine aD (fun i=>0) ?_ ?_ rfl rfl <;> simp only[wx,aC,aK,aa,seval,iteOmega,toNatUp] <;> rfl
  ·rintro i ⟨hi,hn⟩;have haz:=r7 l;by_cases hlt:i<l.length
   ·have g1:=lU hlt;have hd:=hp (l.getD i default);by_cases he:(l.getD i default).ty=id
    ·rw[decide_eq_true he] at hd;have e:kY l id=i:=by unfold kY; rw[Tm hlt he hn]
     rw[e];simp only[rP,uT,ae,aa,seval,iteOmega,toNatUp,aL,g1,haz];generalize l.getD i default=x at *
     refine nB hd (by simp only[ae,aa,seval,iteOmega,toNatUp,bM]) (.inl rfl) ?_;simp only[ae,aa,seval,iteOmega,toNatUp];exact aF
    ·rw[decide_eq_false he] at hd;have hn':∀ j,j<i+1→(l.getD j default).ty≠id:=fun j hj=>by
       rcases YG j i with h | h
       ·exact hn j h
       ·obtain rfl:j=i:=by omega
        exact he
     simp only[rP,uT,ae,aa,seval,iteOmega,toNatUp,aL,g1,haz];generalize l.getD i default=x at *
     refine nB hd (by simp only[ae,aa,seval,iteOmega,toNatUp,bM]) (.inl rfl) ?_;simp only[ae,aa,seval,iteOmega,toNatUp];refine a6 (i+1) (by omega) ⟨by omega,hn'⟩ (aD (fun i=>0) ?_ ?_ rfl rfl) <;> simp only[wx,aC,aK,aa,seval,iteOmega,toNatUp]
   ·have e:kY l id=-1:=by unfold kY; rw[Q7 fun j hj=>hn j (by omega)]
    rw[e];simp only[rP,uT,ae,aa,seval,iteOmega,toNatUp];exact aF
def yc:aA:=⟨2,8,.seq (.reg [oO 2 (.box .roBox (.t 0)),oO 3 (.mv (.k (.c (.d (.bool false)))))]) (.seq (.reg [oO 4 (.fieldAddr 0 (.t 2)),oO 5 (.load .sc (.t 4)),oO 6 (.load .sc (.t 1)),oO 7 (.bin .eql (.t 5) (.t 6)),oM 3 7]) (.ret)),[(3,none)]⟩
theorem TH:aw Tryz.prog { own:=[],comp:=[],frz:=[],nils:=[] } Tryz.f87=some yc:=by kernel_rfl
theorem Wt (G:ah) (id:Int) (x:Fd):jD Tryz.prog G 87 [.ref [.int .i64 id]] [bM x] (.w (.c (.d (.bool (decide (x.ty=id)))))):=by
  refine⟨enters_of Tryz.func87 (by kernel_rfl) rfl,?_⟩;refine Pf Tryz.func87 TH rfl rfl ?_;unfold bM;by_cases h:x.ty=id
  ·rw[decide_eq_true h];simp only[yc,YW,Y4,Ya,Yo,D.up,lT,ae,aa,seval,iteOmega,toNatUp,h];exact aF
  ·rw[decide_eq_false h];have g:(x.ty=id)=False:=eq_false h;simp only[yc,YW,Y4,Ya,Yo,D.up,lT,ae,aa,seval,iteOmega,toNatUp,g];exact aF
def lq:aA:=⟨4,71,.seq (.reg [oO 4 (.box .roBox (.t 0)),oO 6 (.box .roBox (.t 2)),oO 8 (.mv (.k (.c .nil))),oO 9 (.mv (kI 0))]) (.seq (.seq (.reg [oO 14 (.load (.ag 1) (.t 4)),oO 15 (.call 65 [(.t 14)] none),oO 16 (.un .not (.t 15))]) (.cond (.t 16) (.seq (.reg [oO 8 (.mv (.k (.c .nil))),oO 9 (.mv (kI 3))]) (.ret)) (.skip))) (.seq (.seq (.reg [oM 17 1,oO 18 (.bin .lss (.t 17) (kI 0)),oM 19 18,oG 20 (.mv (.t 1)) 19 false,oG 21 (.bin .geq (.t 20) (kI 65536)) 19 false,oO 22 (.pick (.t 19) (.k (.c (.d (.bool true)))) (.t 21))]) (.cond (.t 22) (.seq (.reg [oO 8 (.mv (.k (.c .nil))),oO 9 (.mv (kI 4))]) (.ret)) (.skip))) (.seq (.seq (.reg [oO 23 (.fieldAddr 0 (.t 6)),oO 24 (.load .sc (.t 23)),oO 25 (.len (.t 24)),oO 26 (.bin .neq (.t 25) (kI 32)),oM 27 26,oG 28 (.fieldAddr 1 (.t 6)) 27 false,
 oG 29 (.load .sc (.t 28)) 27 false,oG 30 (.len (.t 29)) 27 false,oG 31 (.bin .neq (.t 30) (kI 32)) 27 false,oO 32 (.pick (.t 27) (.k (.c (.d (.bool true)))) (.t 31))]) (.cond (.t 32) (.seq (.reg [oO 8 (.mv (.k (.c .nil))),oO 9 (.mv (kI 5))]) (.ret)) (.skip))) (.seq (.seq (.reg [oM 33 3,oO 34 (.len (.t 33)),oO 35 (.bin .neq (.t 34) (kI 16))]) (.cond (.t 35) (.seq (.reg [oO 8 (.mv (.k (.c .nil))),oO 9 (.mv (kI 3))]) (.ret)) (.skip))) (.seq (.reg [oO 36 (.fieldAddr 0 (.t 4)),oO 37 (.load .sc (.t 36)),oO 38 (.idxSl 2 (.t 37) (kI 0)),oO 39 (.fieldAddr 0 (.t 38)),oO 40 (.load .sc (.t 39)),oO 41 (.conv .u64 (.t 40)),oO 42 (.call 91 [(.t 41),(kI 4)] none),oM 10 42]) (.seq (.reg [oM 43 1,oO 44 (.conv .u64 (.t 43)),oO 45 (.call 91 [(.t 44),(kI 2)] none),oO 46 (.call 91 [(.k (.c (.d (.int .u64 0)))),(kI 2)] none),
 oO 47 (.fieldAddr 0 (.t 6)),oO 48 (.load .sc (.t 47)),oO 49 (.fieldAddr 1 (.t 6)),oO 50 (.load .sc (.t 49)),oO 51 (.bldSl false 4 1 (.sl []) [(0,(.t 45)),(1,(.t 46)),(2,(.t 48)),(3,(.t 50))]),oO 52 (.call 90 [(.t 51)] none),oM 11 52]) (.seq (.reg [oO 54 (.fieldAddr 0 (.t 4)),oO 55 (.load .sc (.t 54)),oO 56 (.idxSl 2 (.t 55) (kI 0)),oO 57 (.fieldAddr 1 (.t 56)),oO 58 (.load .sc (.t 57)),oM 59 10,oM 60 3,oO 61 (.bldSl false 2 1 (.sl []) [(0,(.t 59)),(1,(.t 60))]),oM 62 11,oO 63 (.call 92 [(.t 58),(.t 61),(.t 62)] none),oM 53 63,oO 64 (.extract (.t 53) 0),oO 65 (.extract (.t 53) 1),oM 12 64,oM 13 65]) (.seq (.reg [oM 66 10,oM 67 3,oM 68 12,oO 69 (.bldSl false 3 1 (.sl []) [(0,(.t 66)),(1,(.t 67)),(2,(.t 68))]),oO 70 (.call 90 [(.t 69)] none),oM 8 70,oO 9 (.mv (kI 0))]) (.ret))))))))),[(8,none),(9,none)]⟩
theorem TI:aw Tryz.prog { own:=[],comp:=[],frz:=[],nils:=[] } Tryz.f112=some lq:=by kernel_rfl
theorem Wu (G:ah) (l:List Fd) (algo:Int) (up dn nonce:List UInt8) (hl:l.length≤9223372036854775807):aj Tryz.prog G 112 [bG l,.int .i64 algo,di up dn,.sl (nonce.map bD)] (.tup [.c (.d (.sl ((mZ l algo up dn nonce).map bD))),.c (.d (.int .i64 (iQ l algo up dn nonce)))]):=by
  refine aB Tryz.func112 TI rfl rfl ?_;have c1:=zh G l hl;by_cases hr:cT l
  ·rw[decide_eq_true hr] at c1;have e0:iQ l algo up dn nonce=if algo<0∨65535<algo then 4 else if up.length≠32∨dn.length≠32 then 5 else if nonce.length≠16 then 3 else 0:=if_pos hr
   rcases Int.lt_or_le algo 0 with h1 | h1
   ·have e:iQ l algo up dn nonce=4:=by rw[e0,if_pos (.inl h1)]
    rw[od e (by decide),e];unfold bG di at *
    simp only[lq,af,ae,aa,seval,iteOmega,toNatUp];refine sD (c1) ?_;exact aW
   ·rcases Int.lt_or_le 65535 algo with h2 | h2
    ·have e:iQ l algo up dn nonce=4:=by rw[e0,if_pos (.inr h2)]
     have g2:(algo≥65536)=True:=eq_true (by omega);rw[od e (by decide),e];unfold bG di at *
     simp only[lq,af,ae,aa,seval,iteOmega,toNatUp];refine sC (c1) ?_;simp only[g2,ae,aa,seval,iteOmega,toNatUp];exact aW
    ·have g2:(algo≥65536)=False:=eq_false (by omega);rw[if_neg (by omega)] at e0;by_cases h3:up.length=32
     ·by_cases h4:dn.length=32
      ·rw[if_neg (by omega)] at e0;by_cases h5:nonce.length=16
       ·rw[if_neg (by omega)] at e0;have eB:mZ l algo up dn nonce=cG (l.getD 0 default) algo up dn nonce:=if_pos e0;rw[e0,eB];have g0:=lU (l:=l) (i:=0) (by have:=hr.1; omega);obtain⟨⟨m1,m2,m3⟩,_⟩:=ly hr (i:=0) (by have:=hr.1; omega);have r1:=hr.1;clear e0 eB;generalize l.getD 0 default=m at *
        have hp:=HM algo h3 h4;have hi:(eN m).length=4:=bN _ _;have ha:cJ m.da [eN m,nonce] ((fH algo up dn).length:Int)=0:=w6 m3 (by simp) (fun x hx=>by simp at hx; rcases hx with rfl | rfl <;> omega) (by omega);have hs:(dr m.da [eN m,nonce] (fH algo up dn)).length=84:=by rw[nF ha,X5,iY,jV,hp]
        have d1:=kf G m.ty.toNat 4 (by decide);rw[show (4:Int).toNat=4 from rfl,show aP m.ty.toNat 4=eN m from rfl,show ((m.ty.toNat:Nat):Int)=m.ty by omega] at d1;have d2:=kf G algo.toNat 2 (by decide);rw[show (2:Int).toNat=2 from rfl,show ((algo.toNat:Nat):Int)=algo by omega] at d2;have d0:=kf G 0 2 (by decide);rw[show aP 0 (2:Int).toNat=[0,0] from by decide] at d0;have d3:=dU G [aP algo.toNat 2,[0,0],up,dn] (by simp) (by rw[FH]; omega);rw[FH] at d3;have d4:=JU G m.da [eN m,nonce] (fH algo up dn) (by omega) (by simp) (fun x hx=>by simp at hx; rcases hx with rfl | rfl <;> omega) (by omega);rw[ha] at d4;have d5:=dU G [eN m,nonce,dr m.da [eN m,nonce] (fH algo up dn)] (by simp) (by simp only[ZH,Zt,X5,Zo,hi,h5,hs]; omega);rw[Tl] at d5;unfold cx at d4;generalize cG m algo up dn nonce=B at *
        generalize dr m.da [eN m,nonce] (fH algo up dn)=S at *
        generalize fH algo up dn=P at *
        generalize eN m=I at *
        generalize aP algo.toNat 2=A at *
        simp only[Ya,Yo] at d0 d3 d4 d5;have haz:=r7 l;unfold bG di at *
        simp only[lq,af,ae,aa,seval,iteOmega,toNatUp];refine sC (c1) ?_;simp only[g2,h3,h4,h5,aL,g0,haz,bM,ae,aa,seval,iteOmega,toNatUp];refine sD (d1) ?_;refine sD (d2) ?_;refine sD (d0) ?_;refine a8 d3 (by simp only[ae,aa,seval,iteOmega,toNatUp] <;> rfl) (.inl rfl) ?_;simp only[ae,aa,seval,iteOmega,toNatUp,aL,g0,haz,bM];refine sD (d4) ?_;refine sD (d5) ?_;exact aW
       ·rw[if_pos h5] at e0;rw[od e0 (by decide),e0];unfold bG di at *
        simp only[lq,af,ae,aa,seval,iteOmega,toNatUp];refine sC (c1) ?_;simp only[g2,h3,h4,ae,aa,seval,iteOmega,toNatUp];exact aW
      ·have e:iQ l algo up dn nonce=5:=by rw[e0,if_pos (.inr h4)]
       rw[od e (by decide),e];unfold bG di at *
       simp only[lq,af,ae,aa,seval,iteOmega,toNatUp];refine sC (c1) ?_;simp only[g2,h3,ae,aa,seval,iteOmega,toNatUp];exact aW
     ·have e:iQ l algo up dn nonce=5:=by rw[e0,if_pos (.inl h3)]
      rw[od e (by decide),e];unfold bG di at *
      simp only[lq,af,ae,aa,seval,iteOmega,toNatUp];refine sC (c1) ?_;simp only[g2,ae,aa,seval,iteOmega,toNatUp];exact aW
  ·rw[decide_eq_false hr] at c1;have e:iQ l algo up dn nonce=3:=if_neg hr;rw[od e (by decide),e];unfold bG di at *
   simp only[lq,af,ae,aa,seval,iteOmega,toNatUp];refine sD (c1) ?_;exact aW
set_option maxHeartbeats 6400000
def KT:aA:=⟨1,13,.seq (.reg [oO 2 (.mv (.k (.c .nil))),oO 3 (.mv (kI 0))]) (.seq (.reg [oM 4 0,oO 5 (.bldSl false 1 1 (.int .i64 0) [(0,(.t 4))]),oO 6 (.call 53 [(.t 5)] none),oO 7 (.call 52 [(kI 2),(.t 6)] none),oO 8 (.call 52 [(kI 0),(.k (.c .nil))] none),oO 9 (.bldSl false 2 3 (.agg [(.bool false),(.int .i64 0),(.sl [])]) [(0,(.t 7)),(1,(.t 8))]),oO 10 (.call 10 [(.t 9)] none),oO 11 (.extract (.t 10) 0),oO 12 (.extract (.t 10) 1),oM 2 11,oM 3 12]) (.ret)),[(2,none),(3,none)]⟩
theorem Wv:aw Tryz.prog { own:=[],comp:=[],frz:=[],nils:=[] } Tryz.f68=some KT:=by kernel_rfl
theorem zX (G:ah) (k:Int) (hk:0≤k∧k≤65535):aj Tryz.prog G 68 [.int .i64 k] (.tup [.c (.d (.sl ((gr k).map bD))),.c (.d (.int .i64 0))]):=by
  refine aB Tryz.func68 Wv rfl rfl ?_;have hs:bz [k]:=fun n hn=>by rw[X9.1 hn]; exact hk
  have c1:=mN G [k] (by simp) hs;simp only[Ya,Yo,zD] at c1;have c2:=iG G 2 (aM [k]);have c3:=iG G 0 [];have bl:(aM [k]).length=2:=dZ _;obtain⟨q1,q2⟩:=uh (l:=[⟨true,2,aM [k]⟩,⟨true,0,[]⟩]) (by
    intro r hr;simp only[Yi,ZY,or_false] at hr;rcases hr with rfl | rfl
    ·exact fw (by decide) (by omega)
    ·exact fw (by decide) (by decide)) (by simp)
  have c4:=LN G [⟨true,2,aM [k]⟩,⟨true,0,[]⟩] (by simp) (by
    intro r hr;simp only[Yi,ZY,or_false] at hr;rcases hr with rfl | rfl
    ·dsimp only; omega
    ·simp)
  rw[q1,q2] at c4;have hR:gr k=be [⟨true,2,aM [k]⟩,⟨true,0,[]⟩]:=rfl;rw[← hR] at c4;simp only[Ya,Yo,aN] at c4 c3;clear q1 q2 hR;generalize gr k=R at *
  generalize aM [k]=B at *
  simp only[KT,af,ae,aa,seval,iteOmega,toNatUp];refine sD (c1) ?_;refine sD (c2) ?_;refine sD (c3) ?_;refine sD (c4) ?_;exact aW
def jQ (ns:List (List UInt8)):Prop:=(∀ n∈ns,n.length=16)∧1≤ns.length∧ns.length≤8
instance (ns:List (List UInt8)):Decidable (jQ ns):=by unfold jQ; infer_instance
def oH (ns:List (List UInt8)) (i:Nat):St:=⟨aY [(0,.w (.c (.d (cx ns)))),(5,.w (.c (.d (cx ns)))),(6,.w (.c (.d (.int .i64 (ns.length:Int))))),(7,.w (.c (.d (.int .i64 (i:Int)))))],hL [],uL []⟩
def nJ:aO := .seq (.reg [oO 8 (.bin .lss (.t 7) (.t 6))]) (.seq (.cond (.t 8) (.skip) (.exit 0)) (.seq (.block 1 (.seq (.reg [oO 9 (.idxSl 1 (.t 5) (.t 7)),oO 10 (.load .sc (.t 9)),oM 4 10]) (.seq (.reg [oM 11 4,oO 12 (.len (.t 11)),oO 13 (.bin .neq (.t 12) (kI 16))]) (.cond (.t 13) (.seq (.reg [oO 2 (.mv (.k (.c (.d (.bool false)))))]) (.ret)) (.skip))))) (.reg [oO 14 (.bin .add (.t 7) (kI 1)),oM 7 14])))
def KU:aA:=⟨1,23,.seq (.reg [oO 2 (.mv (.k (.c (.d (.bool false)))))]) (.seq (.seq (.reg [oM 5 0,oO 6 (.len (.t 5)),oO 7 (.mv (kI 0))]) (.block 0 (.loop nJ))) (.seq (.reg [oM 15 0,oO 16 (.len (.t 15)),oO 17 (.bin .geq (.t 16) (kI 1)),oM 18 17,oG 19 (.mv (.t 0)) 18 true,oG 20 (.len (.t 19)) 18 true,oG 21 (.bin .leq (.t 20) (kI 8)) 18 true,oO 22 (.pick (.t 18) (.t 21) (.k (.c (.d (.bool false))))),oM 2 22]) (.ret))),[(2,none)]⟩
theorem Ww:aw Tryz.prog { own:=[],comp:=[],frz:=[],nils:=[] } Tryz.f70=some KU:=by kernel_rfl
theorem XF (G:ah) (ns:List (List UInt8)) (hn:ns.length≤1000000):aj Tryz.prog G 70 [cx ns] (.w (.c (.d (.bool (decide (jQ ns)))))):=by
  refine aB Tryz.func70 Ww rfl rfl ?_;simp only[KU,af,ae,aa,seval,iteOmega,toNatUp];refine bf (oH ns) (fun i=>ns.length-i) (fun i=>i≤ns.length∧∀ n∈ns.take i,n.length=16) 0 ⟨Yd _,by rw[Zf]; exact fun n h=>by cases h⟩ ?_ ?_
  ·refine aD (fun _=>0) ?_ ?_ rfl rfl <;> simp only[wx,aC,aK,aa,seval,iteOmega,toNatUp] <;> first | rfl | exact⟨rfl,rfl⟩ | skip
  ·rintro i ⟨hi,hp⟩;by_cases hlt:i<ns.length
   ·have g:=x7 hlt;have hm:ns.getD i []∈ns:=by rw[X6,X3 hlt]; exact Yz hlt
    have hs:=BB hlt;generalize ns.getD i []=x at *
    by_cases h1:x.length=16
    ·have g1:((x.length:Int)=16)=True:=eq_true (by omega);have hn:∀ n∈ns.take (i+1),n.length=16:=by
       rw[hs];intro n q;rcases Yj.1 q with q | q
       ·exact hp n q
       ·rw[X9.1 q]; exact h1
     simp only[nJ,oH,ae,aa,seval,iteOmega,toNatUp,aL,g,g1];refine a6 (i+1) (by omega) ⟨by omega,hn⟩ (aD (fun i=>i) ?_ ?_ rfl rfl) <;> simp only[wx,aC,aK,aa,seval,iteOmega,toNatUp] <;> first | rfl | exact⟨rfl,rfl⟩ | skip
    ·have g1:((x.length:Int)=16)=False:=eq_false (by omega);rw[decide_eq_false (fun q:jQ ns=>h1 (q.1 x hm))];simp only[nJ,oH,ae,aa,seval,iteOmega,toNatUp,aL,g,g1];exact aF
   ·rw[X7 (by omega)] at hp;by_cases h1:1≤ns.length
    ·have g1:((ns.length:Int)≥1)=True:=eq_true (by omega);by_cases h2:ns.length≤8
     ·have g2:((ns.length:Int)≤8)=True:=eq_true (by omega);rw[decide_eq_true (show jQ ns from ⟨hp,h1,h2⟩)];simp only[nJ,oH,ae,aa,seval,iteOmega,toNatUp,g1,g2];exact aF
     ·have g2:((ns.length:Int)≤8)=False:=eq_false (by omega);rw[decide_eq_false (fun q:jQ ns=>h2 q.2.2)];simp only[nJ,oH,ae,aa,seval,iteOmega,toNatUp,g1,g2];exact aF
    ·have g1:((ns.length:Int)≥1)=False:=eq_false (by omega);rw[decide_eq_false (fun q:jQ ns=>h1 q.2.1)];simp only[nJ,oH,ae,aa,seval,iteOmega,toNatUp,g1];exact aF
def lY (p:dT):List Ek:=(if p.ho.size=0 then [] else [⟨true,6,p.ho.data.toList⟩])++(if p.pt=0 then [] else [⟨true,7,aM [p.pt]⟩])
theorem zY (p:dT):lY p++[⟨true,0,[]⟩]=gY p:=by unfold lY gY; rw[Yy]
def qu:aA:=⟨1,26,.seq (.reg [oO 1 (.box .roBox (.t 0)),oO 2 (.mv (.k (.c .nil)))]) (.seq (.reg [oO 3 (.mv (.k (.c .nil)))]) (.seq (.seq (.reg [oO 4 (.fieldAddr 2 (.t 1)),oO 5 (.load .sc (.t 4)),oO 6 (.bin .neq (.t 5) (.k (.c (.d (.str ⟨#[]⟩)))))]) (.cond (.t 6) (.reg [oM 7 3,oO 8 (.fieldAddr 2 (.t 1)),oO 9 (.load .sc (.t 8)),oO 10 (.s2b false (.t 9)),oO 11 (.call 52 [(kI 6),(.t 10)] none),oO 12 (.bldSl false 1 3 (.agg [(.bool false),(.int .i64 0),(.sl [])]) [(0,(.t 11))]),oO 13 (.app false 3 40 (.t 7) (.t 12)),oM 3 13]) (.skip))) (.seq (.seq (.reg [oO 14 (.fieldAddr 3 (.t 1)),oO 15 (.load .sc (.t 14)),oO 16 (.bin .neq (.t 15) (kI 0))]) (.cond (.t 16) (.reg [oM 17 3,oO 18 (.fieldAddr 3 (.t 1)),oO 19 (.load .sc (.t 18)),oO 20 (.bldSl false 1 1 (.int .i64 0) [(0,(.t 19))]),oO 21 (.call 53 [(.t 20)] none),
 oO 22 (.call 52 [(kI 7),(.t 21)] none),oO 23 (.bldSl false 1 3 (.agg [(.bool false),(.int .i64 0),(.sl [])]) [(0,(.t 22))]),oO 24 (.app false 3 40 (.t 17) (.t 23)),oM 3 24]) (.skip))) (.seq (.reg [oM 25 3,oM 2 25]) (.ret))))),[(2,none)]⟩
theorem Wx:aw Tryz.prog { own:=[],comp:=[],frz:=[],nils:=[] } Tryz.f72=some qu:=by kernel_rfl
theorem XG (G:ah) (p:dT) (h:p.ho.size≤1000000) (hs:bz [p.pt]):aj Tryz.prog G 72 [fb p] (.w (.c (.d (.sl ((lY p).map aN))))):=by
  refine aB Tryz.func72 Wx rfl rfl ?_;have c1:=iG G 6 p.ho.data.toList;have c2:=mN G [p.pt] (by simp) hs;simp only[Ya,Yo,zD] at c2;have c3:=iG G 7 (aM [p.pt]);have sd:p.ho.size≤maxLen:=by unfold maxLen; omega
  unfold fb lY;by_cases h1:p.ho.size=0
  ·have e1:=TA h1;rw[if_pos h1];by_cases h2:p.pt=0
   ·have g2:=eq_true h2;rw[if_pos h2];simp only[qu,af,aN,ae,aa,seval,iteOmega,toNatUp,e1,g2,sd];exact aF
   ·have g2:=eq_false h2;rw[if_neg h2];simp only[qu,af,aN,ae,aa,seval,iteOmega,toNatUp,e1,g2,sd];refine sD (c2) ?_;refine sC (c3) ?_;simp only[bK,ae,aa,seval,iteOmega,toNatUp];exact aF
  ·have e1:=TB h1;rw[if_neg h1];by_cases h2:p.pt=0
   ·have g2:=eq_true h2;rw[if_pos h2];simp only[qu,af,aN,ae,aa,seval,iteOmega,toNatUp,e1,g2,sd];refine sC (c1) ?_;simp only[bK,g2,ae,aa,seval,iteOmega,toNatUp];exact aF
   ·have g2:=eq_false h2;rw[if_neg h2];simp only[qu,af,aN,ae,aa,seval,iteOmega,toNatUp,e1,g2,sd];refine sC (c1) ?_;simp only[bK,g2,ae,aa,seval,iteOmega,toNatUp];refine sD (c2) ?_;refine sC (c3) ?_;simp only[bK,ae,aa,seval,iteOmega,toNatUp];exact aF
def zZ (r:List Fd) (c:Ch) (v a:Int) (ns:List (List UInt8)) (i:Nat):St:=⟨aY [(6,.w (.c (.rp [.sl (r.map bM)]))),(13,.w (.c (.own 1 3 0 (fC r c v a ns i).length))),(14,.w (.c (.d (.int .i64 a)))),(15,.w (.c (.ptr 2 1 0 0))),(66,.w (.c (.d (cx ns)))),(67,.w (.c (.d (.int .i64 (ns.length:Int))))),(68,.w (.c (.d (.int .i64 (i:Int)))))],
  hL [(1,.row 3 ((fC r c v a ns i).map aN)),(2,.box [.d (.sl ((a7 c v a 0).map bD)),.d (.sl ((a7 c v a 1).map bD))])],uL [1,2]⟩
def xn:aO := .seq (.reg [oO 69 (.bin .lss (.t 68) (.t 67))]) (.seq (.cond (.t 69) (.skip) (.exit 0)) (.seq (.block 1 (.seq (.reg [oO 70 (.idxSl 1 (.t 66) (.t 68)),oO 71 (.load .sc (.t 70)),oM 18 71]) (.seq (.reg [oO 73 (.load (.ag 1) (.t 6)),oM 74 14,oO 75 (.load (.ag 2) (.t 15)),oM 76 18,oO 77 (.call 112 [(.t 73),(.t 74),(.t 75),(.t 76)] none),oM 72 77,oO 78 (.extract (.t 72) 0),oO 79 (.extract (.t 72) 1),oM 19 78,oM 20 79]) (.reg [oM 80 13,oM 81 19,oO 82 (.build [(.d (.bool false)),(.d (.int .i64 0)),.nil] [(1,1,(kI 5)),(2,1,(.t 81))]),oO 83 (.bldSl false 1 3 (.agg [(.bool false),(.int .i64 0),(.sl [])]) [(0,(.t 82))]),oO 84 (.app false 3 40 (.t 80) (.t 83)),oM 13 84])))) (.reg [oO 85 (.bin .add (.t 68) (kI 1)),oM 68 85])))
def tH:aA:=⟨5,87,.seq (.reg [oO 5 (.box .roBox (.t 0)),oO 6 (.box .roBox (.t 1)),oO 7 (.box .roBox (.t 2)),oO 10 (.mv (.k (.c .nil)))]) (.seq (.reg [oM 22 3,oO 23 (.call 111 [(.t 22),(kI 1)] none),oO 24 (.fieldAddr 0 (.t 5)),oO 25 (.load .sc (.t 24)),oO 26 (.call 18 [(.t 23),(.t 25)] none),oM 21 26,oO 27 (.extract (.t 21) 0),oO 28 (.extract (.t 21) 1),oM 11 27,oM 12 28]) (.seq (.seq (.reg [oM 29 12,oO 30 (.un .not (.t 29))]) (.cond (.t 30) (.seq (.reg [oO 31 (.call 52 [(kI 1),(.k (.c .nil))] none),oO 32 (.bldSl true 1 3 (.agg [(.bool false),(.int .i64 0),(.sl [])]) [(0,(.t 31))]),oM 10 32]) (.ret)) (.skip))) (.seq (.reg [oM 33 11,oO 34 (.bldSl false 1 1 (.int .i64 0) [(0,(.t 33))]),oO 35 (.call 53 [(.t 34)] none),oO 36 (.call 52 [(kI 1),(.t 35)] none),oO 37 (.bldSl true 1 3 (.agg [(.bool false),(.int .i64 0),(.sl [])]) [(0,(.t 36))]),
 oM 13 37]) (.seq (.reg [oM 39 3,oO 40 (.call 111 [(.t 39),(kI 4)] none),oO 41 (.fieldAddr 1 (.t 5)),oO 42 (.load .sc (.t 41)),oO 43 (.call 18 [(.t 40),(.t 42)] none),oM 38 43,oO 44 (.extract (.t 38) 0),oO 45 (.extract (.t 38) 1),oM 14 44,oM 12 45]) (.seq (.seq (.reg [oM 46 12,oO 47 (.un .not (.t 46))]) (.cond (.t 47) (.seq (.reg [oM 48 13,oO 49 (.call 52 [(kI 4),(.k (.c .nil))] none),oO 50 (.bldSl false 1 3 (.agg [(.bool false),(.int .i64 0),(.sl [])]) [(0,(.t 49))]),oO 51 (.app false 3 40 (.t 48) (.t 50)),oM 10 51]) (.ret)) (.skip))) (.seq (.reg [oM 52 13,oM 53 14,oO 54 (.bldSl false 1 1 (.int .i64 0) [(0,(.t 53))]),oO 55 (.call 53 [(.t 54)] none),oO 56 (.call 52 [(kI 4),(.t 55)] none),oO 57 (.bldSl false 1 3 (.agg [(.bool false),(.int .i64 0),(.sl [])]) [(0,(.t 56))]),oO 58 (.app false 3 40 (.t 52) (.t 57)),
 oM 13 58]) (.seq (.reg [oO 60 (.load (.ag 6) (.t 7)),oM 61 11,oM 62 14,oO 63 (.call 26 [(.t 60),(.t 61),(.t 62)] none),oM 59 63,oO 64 (.extract (.t 59) 0),oO 65 (.extract (.t 59) 1),oO 15 (.alloc [.nil,.nil]),oN (.store (.ag 2) (.t 15) (.t 64)),oM 16 65]) (.seq (.seq (.reg [oM 66 4,oO 67 (.len (.t 66)),oO 68 (.mv (kI 0))]) (.block 0 (.loop xn))) (.seq (.reg [oM 86 13,oM 10 86]) (.ret)))))))))),[(10,none)]⟩
theorem Wy:aw Tryz.prog { own:=[32,37],comp:=[],frz:=[],nils:=[] } Tryz.f71=some tH:=by kernel_rfl
theorem XH (G:ah) (hF:G.at 0=some (.ra (cQ.map wD))) (hG:G.at 1=some (.ra (bp.map wD))) (p:dT) (r:List Fd) (c:Ch) (l:List Ek) (ns:List (List UInt8)) (h1:p.pr.length≤1000000) (h2:p.al.length≤1000000) (hr:r.length≤1000000) (hb:∀ r∈l,r.bo.length≤65535) (hn:ns.length≤8)
    (vC:cy c) (s1:bz p.pr) (s2:bz p.al):aj Tryz.prog G 71 [fb p,bG r,aT c,cd l,cx ns] (.w (.c (.fr 3 ((eQ p r c (bh l 1) (bh l 4) ns).map aN)))):=by
  refine aB Tryz.func71 Wy rfl rfl ?_;have d1:=oF G l 1 fun r hr=>by have:=hb r hr; omega
  have d4:=oF G l 4 fun r hr=>by have:=hb r hr; omega
  have n1:(bh l 1).length≤65535:=YJ (qt _) (nQ hb 1);have n4:(bh l 4).length≤65535:=YJ (qt _) (nQ hb 4);have c1:=LQ G (bh l 1) p.pr (by omega) h1;have c4:=LQ G (bh l 4) p.al (by omega) h2;have k1:=iG G 1 [];have k4:=iG G 4 [];simp only[Yo] at k1 k4
  have hA:eQ p r c (bh l 1) (bh l 4) ns=match dS (bh l 1) p.pr with
    | none=>[⟨true,1,[]⟩]
    | some v=>⟨true,1,aM [v]⟩::match dS (bh l 4) p.al with
      | none=>[⟨true,4,[]⟩]
      | some a=>⟨true,4,aM [a]⟩::fI r c v a ns:=rfl
  have i1:∀ v,dS (bh l 1) p.pr=some v→0≤v∧v≤65535:=fun v h=>s1 v (lv h).2
  have i4:∀ v,dS (bh l 4) p.al=some v→0≤v∧v≤65535:=fun v h=>s2 v (lv h).2
  generalize bh l 1=N1 at *
  generalize bh l 4=N4 at *
  rw[hA];clear hA;unfold fb bG cd at *
  generalize cO l=E at *
  rcases hv:dS N1 p.pr with _ | v
  ·rw[hv] at c1;simp only[Zd,Zz] at c1;unfold aT;simp only[tH,af,aN,ae,aa,seval,iteOmega,toNatUp];refine sD (d1) ?_;refine sD (c1) ?_;refine sD (k1) ?_;exact ec
  ·rw[hv] at c1;simp only[Y0,Zq] at c1;have j1:=i1 v hv;have b1:=mN G [v] (by simp) (fun n hn=>by rw[X9.1 hn]; exact j1);simp only[Ya,Yo,zD] at b1;have q1:=iG G 1 (aM [v]);rcases ha:dS N4 p.al with _ | a
   ·rw[ha] at c4;simp only[Zd,Zz] at c4;dsimp only;generalize aM [v]=B1 at *
    unfold aT;simp only[tH,af,aN,ae,aa,seval,iteOmega,toNatUp];refine sD (d1) ?_;refine sD (c1) ?_;refine sD (b1) ?_;refine sD (q1) ?_;refine sD (d4) ?_;refine sD (c4) ?_;refine sC (k4) ?_;simp only[bK,ae,aa,seval,iteOmega,toNatUp];exact ec
   ·rw[ha] at c4;simp only[Y0,Zq] at c4;have j4:=i4 a ha;have b4:=mN G [a] (by simp) (fun n hn=>by rw[X9.1 hn]; exact j4);simp only[Ya,Yo,zD] at b4;have q4:=iG G 4 (aM [a]);have kz:=uq G hF hG c v a;rw[lF vC j1 j4] at kz;have cm:=fun n:List UInt8=>Wu G r a (a7 c v a 0) (a7 c v a 1) n (by omega)
    have y0:fC r c v a ns 0=[⟨true,1,aM [v]⟩,⟨true,4,aM [a]⟩]:=rfl;have ye:(⟨true,1,aM [v]⟩::⟨true,4,aM [a]⟩::fI r c v a ns:List Ek)=fC r c v a ns ns.length:=by unfold fC; rw[Zb]
    dsimp only;rw[ye];clear ye;unfold aT di bG at *
    simp only[tH,af,aN,ae,aa,seval,iteOmega,toNatUp];refine sD (d1) ?_;refine sD (c1) ?_;refine sD (b1) ?_;refine sD (q1) ?_;refine sD (d4) ?_;refine sD (c4) ?_;refine sD (b4) ?_;refine sC (q4) ?_;simp only[bK,ae,aa,seval,iteOmega,toNatUp];refine sD (kz) ?_;refine bf (zZ r c v a ns) (fun i=>ns.length-i) (fun i=>i≤ns.length) 0 (Yd _) ?_ ?_
    ·refine aD (fun i=>if i=1 then 464 else 120) ?_ ?_ rfl rfl <;> simp only[y0,aN,wx,aC,aK,aa,seval,iteOmega,toNatUp] <;> first | rfl | exact⟨rfl,rfl⟩ | skip
    ·intro i hi;have az:=nC (fC r c v a ns i);have yl:=x8 r c v a ns i;by_cases hlt:i<ns.length
     ·have g:=x7 hlt;have cm:=cm (ns.getD i []);have hs:=Re (r:=r) (c:=c) (v:=v) (a:=a) hlt;generalize ns.getD i []=x at *
      generalize hR:fC r c v a ns i=Rw at *
      generalize iQ r a (a7 c v a 0) (a7 c v a 1) x=e at *
      simp only[xn,zZ,hR,ae,aa,seval,iteOmega,toNatUp,aL,g];refine sC (cm) ?_;simp only[bK,az,ae,aa,seval,iteOmega,toNatUp];refine a6 (i+1) (by omega) (by omega) (aD (fun i=>if i=1 then 672 else 2) ?_ ?_ rfl rfl) <;> simp only[hs,YD,aN,wx,aC,aK,aa,seval,iteOmega,toNatUp] <;> first | rfl | exact⟨rfl,rfl⟩ | skip
     ·obtain rfl:i=ns.length:=by omega
      simp only[xn,zZ,ae,aa,seval,iteOmega,toNatUp];exact ec
theorem TJ {b:List UInt8} (hF:eG b):kV b↔nh (aG b)=true:=by
  unfold kV nh;rw[bY,bY,bY,bY,bY];simp only[Ys,ZU,decide_eq_true_eq,decide_eq_false_iff_not];constructor
  ·rintro⟨_,h1,h2,h3⟩;omega
  ·rintro⟨h1,h2,h3,h4,h5⟩;exact⟨hF,by omega,by omega,by omega⟩
theorem z0 {l:List Ek} {k:Int} (h:0<(ar l k).length):fv l k=bh l k:=by
  unfold fv bh dj;rw[lj (by rw[bY]; exact h)]
theorem Wz {l:List Ek} (h:nh l=true):0<(ar l 1).length∧0<(ar l 4).length:=by
  unfold nh at h;simp only[Ys,decide_eq_true_eq] at h;exact⟨h.1,h.2.1⟩
theorem zi (ns:List (List UInt8)) (ho:ByteArray):kW ns ho↔jQ ns∧ho.size≤255:=⟨fun ⟨a,b,c,d⟩=>⟨⟨d,a,b⟩,c⟩,fun ⟨⟨d,a,b⟩,c⟩=>⟨a,b,c,d⟩⟩
theorem WA {p:dT} {r:List Fd} {c:Ch} {x y:List Int} {ns:List (List UInt8)} (vC:cy c) (vR:cT r) (s1:bz p.pr) (s2:bz p.al) (hn:jQ ns):(∀ e∈eQ p r c x y ns,0≤e.ty∧e.ty≤7∧e.bo.length≤255)∧(eQ p r c x y ns).length≤10:=by
  have l2:∀ v:Int,(aM [v]).length≤255:=fun v=>by rw[dZ]; exact (show 2*1≤255 by decide)
  have nl:=hn.2.2;unfold eQ;rcases hv:dS x p.pr with _ | v
  ·refine⟨fun e he=>?_,by simp⟩;rw[X9.1 he];exact fw (by decide) (by decide)
  ·have j1:=s1 v (lv hv).2;rcases ha:dS y p.al with _ | a
   ·refine⟨fun e he=>?_,by simp⟩;simp only[Yi,ZY,or_false] at he;rcases he with rfl | rfl
    ·exact fw (by decide) (l2 v)
    ·exact fw (by decide) (by decide)
   ·have j4:=s2 a (lv ha).2;have e:(⟨true,1,aM [v]⟩::⟨true,4,aM [a]⟩::fI r c v a ns:List Ek)=fC r c v a ns ns.length:=by unfold fC; rw[Zb]
    dsimp only;rw[e];have yl:=x8 r c v a ns ns.length;exact⟨KS vR (lF vC j1 j4) j4 hn.1,by omega⟩
def iD:aA:=⟨5,91,.seq (.reg [oO 5 (.box .roBox (.t 0)),oO 6 (.box .roBox (.t 1)),oO 7 (.box .roBox (.t 2)),oO 10 (.mv (.k (.c .nil))),oO 11 (.mv (kI 0))]) (.seq (.seq (.reg [oO 15 (.load (.ag 6) (.t 7)),oO 16 (.call 62 [(.t 15)] none),oO 17 (.un .not (.t 16)),oM 18 17,oG 19 (.load (.ag 1) (.t 6)) 18 false,oG 20 (.call 65 [(.t 19)] none) 18 false,oG 21 (.un .not (.t 20)) 18 false,oO 22 (.pick (.t 18) (.k (.c (.d (.bool true)))) (.t 21))]) (.cond (.t 22) (.seq (.reg [oO 10 (.mv (.k (.c .nil))),oO 11 (.mv (kI 3))]) (.ret)) (.skip))) (.seq (.seq (.reg [oO 23 (.fieldAddr 0 (.t 5)),oO 24 (.load .sc (.t 23)),oO 25 (.call 50 [(.t 24)] none),oO 26 (.un .not (.t 25)),oM 27 26,oG 28 (.fieldAddr 1 (.t 5)) 27 false,oG 29 (.load .sc (.t 28)) 27 false,oG 30 (.call 50 [(.t 29)] none) 27 false,oG 31 (.un .not (.t 30)) 27 false,
 oO 32 (.pick (.t 27) (.k (.c (.d (.bool true)))) (.t 31)),oM 33 32,oG 34 (.fieldAddr 3 (.t 5)) 33 false,oG 35 (.load .sc (.t 34)) 33 false,oG 36 (.bldSl false 1 1 (.int .i64 0) [(0,(.t 35))]) 33 false,oG 37 (.call 50 [(.t 36)] none) 33 false,oG 38 (.un .not (.t 37)) 33 false,oO 39 (.pick (.t 33) (.k (.c (.d (.bool true)))) (.t 38))]) (.cond (.t 39) (.seq (.reg [oO 10 (.mv (.k (.c .nil))),oO 11 (.mv (kI 4))]) (.ret)) (.skip))) (.seq (.reg [oM 41 3,oO 42 (.call 66 [(.t 41)] none),oM 40 42,oO 43 (.extract (.t 40) 0),oO 44 (.extract (.t 40) 1),oM 12 43,oM 13 44]) (.seq (.block 0 (.seq (.reg [oM 46 13,oO 47 (.un .not (.t 46)),oM 48 47,oG 49 (.mv (.t 12)) 48 false,oG 50 (.call 67 [(.t 49)] none) 48 false,oG 51 (.un .not (.t 50)) 48 false,oO 52 (.pick (.t 48) (.k (.c (.d (.bool true)))) (.t 51)),
 oM 45 52]) (.cond (.t 45) (.seq (.reg [oO 53 (.call 68 [(kI 1)] none),oO 54 (.extract (.t 53) 0),oO 55 (.extract (.t 53) 1),oM 10 54,oM 11 55]) (.ret)) (.seq (.reg [oM 57 12,oO 58 (.call 69 [(.t 57)] none),oM 56 58]) (.cond (.t 56) (.seq (.reg [oO 59 (.call 68 [(kI 0)] none),oO 60 (.extract (.t 59) 0),oO 61 (.extract (.t 59) 1),oM 10 60,oM 11 61]) (.ret)) (.seq (.reg [oM 63 4,oO 64 (.call 70 [(.t 63)] none),oO 65 (.un .not (.t 64)),oM 66 65,oG 67 (.fieldAddr 2 (.t 5)) 66 false,oG 68 (.load .sc (.t 67)) 66 false,oG 69 (.lenStr (.t 68)) 66 false,oG 70 (.bin .gtr (.t 69) (kI 255)) 66 false,oO 71 (.pick (.t 66) (.k (.c (.d (.bool true)))) (.t 70)),oM 62 71]) (.cond (.t 62) (.seq (.reg [oO 72 (.call 68 [(kI 2)] none),oO 73 (.extract (.t 72) 0),oO 74 (.extract (.t 72) 1),oM 10 73,oM 11 74]) (.ret))
 (.skip)))))))) (.seq (.reg [oO 75 (.load (.ag 4) (.t 5)),oO 76 (.load (.ag 1) (.t 6)),oO 77 (.load (.ag 6) (.t 7)),oM 78 12,oM 79 4,oO 80 (.call 71 [(.t 75),(.t 76),(.t 77),(.t 78),(.t 79)] (some (0,3))),oO 81 (.load (.ag 4) (.t 5)),oO 82 (.call 72 [(.t 81)] none),oO 83 (.app false 3 40 (.t 80) (.t 82)),oM 14 83]) (.seq (.reg [oM 84 14,oO 85 (.call 52 [(kI 0),(.k (.c .nil))] none),oO 86 (.bldSl false 1 3 (.agg [(.bool false),(.int .i64 0),(.sl [])]) [(0,(.t 85))]),oO 87 (.app false 3 40 (.t 84) (.t 86)),oO 88 (.call 10 [(.t 87)] none),oO 89 (.extract (.t 88) 0),oO 90 (.extract (.t 88) 1),oM 10 89,oM 11 90]) (.ret))))))),[(10,none),(11,none)]⟩
theorem WB:aw Tryz.prog { own:=[80],comp:=[],frz:=[],nils:=[] } Tryz.f28=some iD:=by kernel_rfl
theorem LW (G:ah) (hF:G.at 0=some (.ra (cQ.map wD))) (hG:G.at 1=some (.ra (bp.map wD))) (p:dT) (r:List Fd) (c:Ch) (b:List UInt8) (ns:List (List UInt8)) (h1:p.pr.length≤1000000) (h2:p.al.length≤1000000) (h3:p.ho.size≤1000000) (hr:r.length≤1000000) (hb:b.length≤1000000000) (hn:ns.length≤1000000) (hm:∀ n∈ns,n.length≤1000000):aj Tryz.prog G 28 [fb p,bG r,aT c,.sl (b.map bD),.sl (ns.map fun l=>D.sl (l.map bD))] (.tup [.c (.d (.sl ((fJ p r c b ns).map bD))),.c (.d (.int .i64 (eR p r c)))]):=by
  refine aB Tryz.func28 WB rfl rfl ?_;have c1:=mM G hF hG c;have c2:=zh G r (by omega);have hno:∀ e,eR p r c=e→e≠0→fJ p r c b ns=[]:=fun e q1 q2=>if_pos (by rw[q1]; exact q2)
  by_cases vC:cy c
  case neg =>
    rw[decide_eq_false vC] at c1;have E:eR p r c=3:=by unfold eR; rw[if_pos fun h=>vC h.1]
    rw[hno 3 E (by decide),E];unfold fb bG aT at *
    simp only[iD,af,ae,aa,seval,iteOmega,toNatUp];refine sD (c1) ?_;exact aW
  rw[decide_eq_true vC] at c1;by_cases vR:cT r
  case neg =>
    rw[decide_eq_false vR] at c2;have E:eR p r c=3:=by unfold eR; rw[if_pos fun h=>vR h.2]
    rw[hno 3 E (by decide),E];unfold fb bG aT at *
    simp only[iD,af,ae,aa,seval,iteOmega,toNatUp];refine sD (c1) ?_;refine sD (c2) ?_;exact aW
  rw[decide_eq_true vR] at c2;have c3:=oD G p.pr (by omega);have c4:=oD G p.al (by omega);have c5:=oD G [p.pt] (by simp);simp only[Ya,Yo,zD] at c5;by_cases s1:bz p.pr
  case neg =>
    rw[decide_eq_false s1] at c3;have E:eR p r c=4:=by unfold eR; rw[if_neg (not_not_intro ⟨vC,vR⟩),if_pos fun h=>s1 h.1]
    rw[hno 4 E (by decide),E];unfold fb bG aT at *
    simp only[iD,af,ae,aa,seval,iteOmega,toNatUp];refine sD (c1) ?_;refine sD (c2) ?_;refine sD (c3) ?_;exact aW
  rw[decide_eq_true s1] at c3;by_cases s2:bz p.al
  case neg =>
    rw[decide_eq_false s2] at c4;have E:eR p r c=4:=by unfold eR; rw[if_neg (not_not_intro ⟨vC,vR⟩),if_pos fun h=>s2 h.2.1]
    rw[hno 4 E (by decide),E];unfold fb bG aT at *
    simp only[iD,af,ae,aa,seval,iteOmega,toNatUp];refine sD (c1) ?_;refine sD (c2) ?_;refine sD (c3) ?_;refine sD (c4) ?_;exact aW
  rw[decide_eq_true s2] at c4;by_cases s3:bz [p.pt]
  case neg =>
    rw[decide_eq_false s3] at c5;have E:eR p r c=4:=by unfold eR; rw[if_neg (not_not_intro ⟨vC,vR⟩),if_pos fun h=>s3 h.2.2]
    rw[hno 4 E (by decide),E];unfold fb bG aT at *
    simp only[iD,af,ae,aa,seval,iteOmega,toNatUp];refine sD (c1) ?_;refine sD (c2) ?_;refine sD (c3) ?_;refine sD (c4) ?_;refine sD (c5) ?_;exact aW
  rw[decide_eq_true s3] at c5;have E:eR p r c=0:=by unfold eR; rw[if_neg (not_not_intro ⟨vC,vR⟩),if_neg (not_not_intro ⟨s1,s2,s3⟩)]
  have B0:fJ p r c b ns=if ¬ kV b then gr 1 else if gX (aG b)=true then gr 0 else if ¬ kW ns p.ho then gr 2 else be (eQ p r c (fv (aG b) 1) (fv (aG b) 4) ns++gY p):=if_neg (not_not_intro E)
  rw[E];clear hno E;have c6:=zV G b hb;have r1:=zX G 1 (by decide);have r0:=zX G 0 (by decide);have r2:=zX G 2 (by decide);by_cases hFm:eG b
  case neg =>
    rw[decide_eq_false hFm,show ir b=[] from if_neg hFm] at c6;rw[B0,if_pos fun q=>hFm q.1];generalize gr 1=R at *
    generalize cd []=M at *
    clear B0 r0 r2;unfold fb bG aT at *
    simp only[iD,af,ae,aa,seval,iteOmega,toNatUp];refine sD (c1) ?_;refine sD (c2) ?_;refine sD (c3) ?_;refine sD (c4) ?_;refine sD (c5) ?_;refine sD (c6) ?_;refine sD (r1) ?_;exact aW
  rw[decide_eq_true hFm,show ir b=aG b from if_pos hFm] at c6;obtain⟨hbo,hl⟩:=tG (b:=b);have hQ:=TJ hFm;generalize aG b=L at *
  have c7:=XC G L;rcases hq:nh L with _ | _
  ·rw[hq] at c7;rw[B0,if_pos fun q=>by rw[hQ.1 q] at hq; cases hq];generalize gr 1=R at *
   clear B0 r0 r2;unfold fb bG aT cd at *
   generalize cO L=M at *
   simp only[iD,af,ae,aa,seval,iteOmega,toNatUp];refine sD (c1) ?_;refine sD (c2) ?_;refine sD (c3) ?_;refine sD (c4) ?_;refine sD (c5) ?_;refine sD (c6) ?_;refine sD (c7) ?_;refine sD (r1) ?_;exact aW
  obtain⟨a1,a4⟩:=Wz hq;rw[hq] at c7;rw[if_neg (not_not_intro (hQ.2 hq)),z0 a1,z0 a4] at B0;have c8:=LU G L (by omega);rcases hS:gX L with _ | _
  case true =>
    rw[hS] at c8;rw[B0,if_pos hS];generalize gr 0=R at *
    clear B0 r1 r2;unfold fb bG aT cd at *
    generalize cO L=M at *
    simp only[iD,af,ae,aa,seval,iteOmega,toNatUp];refine sD (c1) ?_;refine sD (c2) ?_;refine sD (c3) ?_;refine sD (c4) ?_;refine sD (c5) ?_;refine sD (c6) ?_;refine sD (c7) ?_;refine sD (c8) ?_;refine sD (r0) ?_;exact aW
  rw[hS] at c8;rw[if_neg (by rw[hS]; decide)] at B0;have c9:=XF G ns hn;by_cases hN:jQ ns
  case neg =>
    rw[decide_eq_false hN] at c9;rw[B0,if_pos fun q=>hN ((zi _ _).1 q).1];generalize gr 2=R at *
    clear B0 r0 r1;unfold fb bG aT cd at *
    generalize cO L=M at *
    simp only[iD,af,ae,aa,seval,iteOmega,toNatUp];refine sD (c1) ?_;refine sD (c2) ?_;refine sD (c3) ?_;refine sD (c4) ?_;refine sD (c5) ?_;refine sD (c6) ?_;refine sD (c7) ?_;refine sD (c8) ?_;refine sD (c9) ?_;refine sD (r2) ?_;exact aW
  rw[decide_eq_true hN] at c9;by_cases hH:p.ho.size≤255
  case neg =>
    have gH:((p.ho.size:Int)>255)=True:=eq_true (by omega);rw[B0,if_pos fun q=>hH ((zi _ _).1 q).2];generalize gr 2=R at *
    clear B0 r0 r1;unfold fb bG aT cd at *
    generalize cO L=M at *
    simp only[iD,af,ae,aa,seval,iteOmega,toNatUp];refine sD (c1) ?_;refine sD (c2) ?_;refine sD (c3) ?_;refine sD (c4) ?_;refine sD (c5) ?_;refine sD (c6) ?_;refine sD (c7) ?_;refine sD (c8) ?_;refine sC (c9) ?_;simp only[gH,ae,aa,seval,iteOmega,toNatUp];refine sD (r2) ?_;exact aW
  have gH:((p.ho.size:Int)>255)=False:=eq_false (by omega);rw[if_neg (not_not_intro ((zi _ _).2 ⟨hN,hH⟩))] at B0;have ca:=XH G hF hG p r c L ns h1 h2 hr hbo hN.2.2 vC s1 s2;have cp:=XG G p h3 s3;have ce:=iG G 0 [];obtain⟨ok,ol⟩:=WA (x:=bh L 1) (y:=bh L 4) vC vR s1 s2 hN;obtain⟨q1,q2⟩:=XE hH ok ol;have hl3:=x9 p;have cn:=LM G (eQ p r c (bh L 1) (bh L 4) ns++gY p) (by rw[X5]; omega) (fun e he=>by
    have:e.bo.length≤255:=((Yj.1 he).elim (ok e) (zg hH e)).2.2;omega)
  rw[q1,q2,← zY] at cn;rw[B0,← zY];have ap:=nC (lY p);have aq:=nC (eQ p r c (bh L 1) (bh L 4) ns);have pl:(lY p).length≤3:=by have:=congrArg List.length (zY p); rw[X5] at this; omega
  clear B0 r0 r1 r2 ok q1 q2;generalize be (eQ p r c (bh L 1) (bh L 4) ns++(lY p++[⟨true,0,[]⟩]))=R at *
  generalize eQ p r c (bh L 1) (bh L 4) ns=X at *
  generalize lY p=Y at *
  simp only[YD,Ya,Yo,aN] at cn ce;unfold fb bG aT cd cx at *
  generalize cO L=M at *
  have tk:∀ a:D,((X++Y).map aN++[a]).take (X.length+Y.length+1)=X.map aN++(Y.map aN++[a]):=fun a=>by rw[X7 (by simp; omega),YD,Yy]
  simp only[iD,af,ae,aa,seval,iteOmega,toNatUp];refine sD (c1) ?_;refine sD (c2) ?_;refine sD (c3) ?_;refine sD (c4) ?_;refine sD (c5) ?_;refine sD (c6) ?_;refine sD (c7) ?_;refine sD (c8) ?_;refine sC (c9) ?_;simp only[gH,ae,aa,seval,iteOmega,toNatUp];refine sD (ca) ?_;refine sC (cp) ?_;simp only[bK,ap,ae,aa,seval,iteOmega,toNatUp];refine sC (ce) ?_;simp only[bK,ae,aa,seval,iteOmega,toNatUp];refine a8 cn (by simp only[ae,aa,seval,iteOmega,toNatUp,tk] <;> rfl) (.inr (qC _ _ _ _)) ?_;simp only[ae,aa,seval,iteOmega,toNatUp];exact aW
def jS (l:List Ek):Int:=if 8<(ar l 5).length then 8 else if ¬ ∀ x∈jn l,x.length=104 then 3 else 0
def rm (l:List Ek):List (List UInt8):=if jS l=0 then jn l else []
def gE (x:List Ek):List (List UInt8):=x.map (·.bo)
def uz (x:List Ek) (i:Nat):St:=⟨aY [(4,.w (.c (.own 1 1 0 (gE (x.take i)).length))),(12,.w (.c (.d (.sl (x.map aN))))),(13,.w (.c (.d (.int .i64 (x.length:Int))))),(14,.w (.c (.d (.int .i64 (i:Int)))))],hL [(1,.row 1 ((gE (x.take i)).map fun l=>D.sl (l.map bD)))],uL [1]⟩
theorem Pj (l:List (List UInt8)):dq 1 (l.map fun l=>D.sl (l.map bD))=true:=pF _ (fun _=>rfl) l
def sH:aO := .seq (.reg [oO 15 (.bin .lss (.t 14) (.t 13))]) (.seq (.cond (.t 15) (.skip) (.exit 0)) (.seq (.block 1 (.seq (.reg [oO 16 (.idxSl 3 (.t 12) (.t 14)),oO 17 (.load (.ag 3) (.t 16)),oO 6 (.alloc [(.d (.bool false)),(.d (.int .i64 0)),.nil]),oN (.store (.ag 3) (.t 6) (.t 17))]) (.seq (.seq (.reg [oO 18 (.fieldAddr 2 (.t 6)),oO 19 (.load .sc (.t 18)),oO 20 (.len (.t 19)),oO 21 (.bin .neq (.t 20) (kI 104))]) (.cond (.t 21) (.seq (.reg [oO 2 (.mv (.k (.c .nil))),oO 3 (.mv (kI 3))]) (.ret)) (.skip))) (.reg [oM 22 4,oO 23 (.fieldAddr 2 (.t 6)),oO 24 (.load .sc (.t 23)),oO 25 (.bldSl false 1 1 (.sl []) [(0,(.t 24))]),oO 26 (.app false 1 24 (.t 22) (.t 25)),oM 4 26])))) (.reg [oO 27 (.bin .add (.t 14) (kI 1)),oM 14 27])))
def zj:aA:=⟨1,29,.seq (.reg [oO 2 (.mv (.k (.c .nil))),oO 3 (.mv (kI 0))]) (.seq (.seq (.reg [oM 7 0,oO 8 (.mpGet .i64 (.sl []) false (.t 7) (kI 5)),oO 9 (.len (.t 8)),oO 10 (.bin .gtr (.t 9) (kI 8))]) (.cond (.t 10) (.seq (.reg [oO 2 (.mv (.k (.c .nil))),oO 3 (.mv (kI 8))]) (.ret)) (.skip))) (.seq (.reg [oO 4 (.nilOwn 1)]) (.seq (.seq (.reg [oM 11 0,oO 12 (.mpGet .i64 (.sl []) false (.t 11) (kI 5)),oO 13 (.len (.t 12)),oO 14 (.mv (kI 0))]) (.block 0 (.loop sH))) (.seq (.reg [oM 28 4,oM 2 28,oO 3 (.mv (kI 0))]) (.ret))))),[(2,none),(3,none)]⟩
theorem WC:aw Tryz.prog { own:=[4],comp:=[],frz:=[],nils:=[] } Tryz.f115=some zj:=by kernel_rfl
theorem XI (G:ah) (l:List Ek) (hl:l.length≤1000000):aj Tryz.prog G 115 [cd l] (.tup [.c (.d (cx (rm l))),.c (.d (.int .i64 (jS l)))]):=by
  refine aB Tryz.func115 WC rfl rfl ?_;have hk:=y9 l 5;have hE:jS l=if 8<(ar l 5).length then 8 else if ¬ ∀ x∈gE (ar l 5),x.length=104 then 3 else 0:=rfl
  have hR:rm l=if jS l=0 then gE (ar l 5) else []:=rfl
  generalize jS l=e at *
  generalize rm l=R at *
  unfold cd;generalize cO l=E at *
  generalize ar l 5=x at *
  by_cases h8:8<x.length
  ·rw[if_pos h8] at hE;subst hE;rw[if_neg (by decide)] at hR;subst hR;have g1:((x.length:Int)>8)=True:=eq_true (by omega);simp only[zj,af,cx,ae,aa,seval,iteOmega,toNatUp,cZ,hk,g1];exact aW
  ·rw[if_neg h8] at hE;have g1:((x.length:Int)>8)=False:=eq_false (by omega);simp only[zj,af,cx,ae,aa,seval,iteOmega,toNatUp,cZ,hk,g1];refine bf (uz x) (fun i=>x.length-i) (fun i=>i≤x.length∧∀ b∈gE (x.take i),b.length=104) 0 ⟨Yd _,by rw[Zf]; exact fun n h=>by cases h⟩ ?_ ?_
   ·refine aD (fun _=>32) ?_ ?_ rfl rfl <;> simp only[wx,aC,aK,aa,seval,iteOmega,toNatUp] <;> first | rfl | exact⟨rfl,rfl⟩ | skip
   ·rintro i ⟨hi,hp⟩;have az:=Pj (gE (x.take i));have bl:(gE (x.take i)).length=i:=by unfold gE; rw[Yc,Yb]; omega
    by_cases hlt:i<x.length
    ·have g:=kF hlt;have hm:(x.getD i default).bo∈gE x:=Yu.2 ⟨_,js hlt,rfl⟩;have hs:gE (x.take (i+1))=gE (x.take i)++[(x.getD i default).bo]:=by unfold gE; rw[rx hlt,YD]; rfl
     generalize x.getD i default=r at *
     obtain⟨rc,rt,rb⟩:=r;dsimp only at *
     by_cases h1:rb.length=104
     ·have g2:((rb.length:Int)=104)=True:=eq_true (by omega);have hn:∀ b∈gE (x.take (i+1)),b.length=104:=by
        rw[hs];intro n q;rcases Yj.1 q with q | q
        ·exact hp n q
        ·rw[X9.1 q]; exact h1
      generalize hB:gE (x.take i)=B at *
      simp only[sH,uz,cx,hB,ae,aa,seval,iteOmega,toNatUp,aL,g,aN,g2,bK];refine a6 (i+1) (by omega) ⟨by omega,hn⟩ (aD (fun _=>208) ?_ ?_ rfl rfl) <;> simp only[hs,YD,wx,aC,aK,aa,seval,iteOmega,toNatUp] <;> first | rfl | exact⟨rfl,rfl⟩ | skip
     ·rw[if_pos fun q=>h1 (q rb hm)] at hE;subst hE;rw[if_neg (by decide)] at hR;subst hR;have g2:((rb.length:Int)=104)=False:=eq_false (by omega);generalize hB:gE (x.take i)=B at *
      simp only[sH,uz,cx,hB,ae,aa,seval,iteOmega,toNatUp,aL,g,aN,g2];exact aW
    ·obtain rfl:i=x.length:=by omega
     rw[Zb] at hp az bl;rw[if_neg (not_not_intro hp)] at hE;subst hE;rw[if_pos rfl] at hR;subst hR;simp only[sH,uz,cx,Zb,ae,aa,seval,iteOmega,toNatUp];exact aW
def dk (lo lm:List Ek) (k:Int):Option Int:=if (bh lm k).length=1∧(bh lm k).getD 0 0∈bh lo k then some ((bh lm k).getD 0 0) else none
def tI:aA:=⟨3,28,.seq (.reg [oO 6 (.mv (kI 0)),oO 7 (.mv (.k (.c (.d (.bool false)))))]) (.seq (.reg [oM 9 1,oM 10 2,oO 11 (.call 111 [(.t 9),(.t 10)] none),oM 8 11]) (.seq (.seq (.reg [oM 12 8,oO 13 (.len (.t 12)),oO 14 (.bin .neq (.t 13) (kI 1)),oM 15 14,oG 16 (.mv (.t 0)) 15 false,oG 17 (.mv (.t 2)) 15 false,oG 18 (.call 111 [(.t 16),(.t 17)] none) 15 false,oG 19 (.mv (.t 8)) 15 false,oG 20 (.idxSl 1 (.t 19) (kI 0)) 15 false,oG 21 (.load .sc (.t 20)) 15 false,oG 22 (.call 56 [(.t 18),(.t 21)] none) 15 false,oG 23 (.un .not (.t 22)) 15 false,oO 24 (.pick (.t 15) (.k (.c (.d (.bool true)))) (.t 23))]) (.cond (.t 24) (.seq (.reg [oO 6 (.mv (kI 0)),oO 7 (.mv (.k (.c (.d (.bool false)))))]) (.ret)) (.skip))) (.seq (.reg [oM 25 8,oO 26 (.idxSl 1 (.t 25) (kI 0)),oO 27 (.load .sc (.t 26)),
 oM 6 27,oO 7 (.mv (.k (.c (.d (.bool true)))))]) (.ret)))),[(6,none),(7,none)]⟩
theorem WE:aw Tryz.prog { own:=[],comp:=[],frz:=[],nils:=[] } Tryz.f114=some tI:=by kernel_rfl
theorem LX (G:ah) (lo lm:List Ek) (k:Int) (ho:∀ r∈lo,r.bo.length≤65535) (hm:∀ r∈lm,r.bo.length≤65535):aj Tryz.prog G 114 [cd lo,cd lm,.int .i64 k] (.tup [.c (.d (.int .i64 ((dk lo lm k).getD 0))),.c (.d (.bool (dk lo lm k).isSome))]):=by
  refine aB Tryz.func114 WE rfl rfl ?_;have c1:=oF G lm k fun r hr=>by have:=hm r hr; omega
  have c2:=oF G lo k fun r hr=>by have:=ho r hr; omega
  have n2:(bh lo k).length≤65535:=YJ (qt _) (nQ ho k);have c3:=LP G (bh lo k) ((bh lm k).getD 0 0) (by omega);have hT:dk lo lm k=if (bh lm k).length=1∧(bh lm k).getD 0 0∈bh lo k then some ((bh lm k).getD 0 0) else none:=rfl
  unfold cd at *
  generalize dk lo lm k=T at *
  generalize bh lo k=O at *
  generalize hN:bh lm k=N at *
  generalize cO lo=E1 at *
  generalize cO lm=E2 at *
  by_cases h1:N.length=1
  ·have g1:((N.length:Int)=1)=True:=eq_true (by omega);have g:=lV (l:=N) (i:=0) (by omega);generalize N.getD 0 0=v at *
   by_cases h2:v∈O
   ·rw[if_pos ⟨h1,h2⟩] at hT;rw[decide_eq_true h2] at c3;subst hT;rw[Y0,Zq];simp only[tI,af,ae,aa,seval,iteOmega,toNatUp];refine sC (c1) ?_;simp only[g1,ae,aa,seval,iteOmega,toNatUp];refine sC (c2) ?_;simp only[aL,g,zD,ae,aa,seval,iteOmega,toNatUp];refine sC (c3) ?_;simp only[aL,g,zD,ae,aa,seval,iteOmega,toNatUp];exact aW
   ·rw[if_neg fun q=>h2 q.2] at hT;rw[decide_eq_false h2] at c3;subst hT;rw[Zd,Zz];simp only[tI,af,ae,aa,seval,iteOmega,toNatUp];refine sC (c1) ?_;simp only[g1,ae,aa,seval,iteOmega,toNatUp];refine sC (c2) ?_;simp only[aL,g,zD,ae,aa,seval,iteOmega,toNatUp];refine sD (c3) ?_;exact aW
  ·have g1:((N.length:Int)=1)=False:=eq_false (by omega);rw[if_neg fun q=>h1 q.1] at hT;subst hT;rw[Zd,Zz];simp only[tI,af,ae,aa,seval,iteOmega,toNatUp];refine sC (c1) ?_;simp only[g1,ae,aa,seval,iteOmega,toNatUp];exact aW
theorem XJ {b:List UInt8} {v:Int} (h:v∈eO b):0≤v∧v≤65535:=by
  unfold eO at h;split at h
  ·rename_i he;unfold kT jm at h;obtain⟨i,hi,rfl⟩:=Yu.1 h;have:=Zy.1 hi;exact Vg (by omega)
  ·cases h
theorem LY {lo lm:List Ek} {k v:Int} (h:dk lo lm k=some v):0≤v∧v≤65535:=by
  unfold dk at h;split at h
  ·rename_i q;cases h;exact XJ q.2
  ·cases h
def kZ (lo lm:List Ek):Int:=if ¬ ((dk lo lm 1).isSome=true∧(dk lo lm 4).isSome=true∧0<(ar lm 5).length) then 10 else jS lm
def pq (c:Ch) (lo lm:List Ek):u6:=if kZ lo lm=0 then ⟨(dk lo lm 1).getD 0,(dk lo lm 4).getD 0,a7 c ((dk lo lm 1).getD 0) ((dk lo lm 4).getD 0) 0,a7 c ((dk lo lm 1).getD 0) ((dk lo lm 4).getD 0) 1,jn lm,dj lm 6,(aR (dj lm 7):Int)⟩ else pj
theorem kw:nc pj=.agg [.int .i64 0,.int .i64 0,.sl [],.sl [],.sl [],.str ⟨#[]⟩,.int .i64 0]:=rfl
def om:aA:=⟨3,68,.seq (.reg [oO 3 (.box .roBox (.t 0)),oO 6 (.alloc [(.d (.int .i64 0)),(.d (.int .i64 0)),.nil,.nil,.nil,(.d (.str ⟨#[]⟩)),(.d (.int .i64 0))]),oO 7 (.mv (kI 0))]) (.seq (.reg [oM 17 1,oM 18 2,oO 19 (.call 114 [(.t 17),(.t 18),(kI 1)] none),oM 16 19,oO 20 (.extract (.t 16) 0),oO 21 (.extract (.t 16) 1),oM 8 20,oM 9 21]) (.seq (.reg [oM 23 1,oM 24 2,oO 25 (.call 114 [(.t 23),(.t 24),(kI 4)] none),oM 22 25,oO 26 (.extract (.t 22) 0),oO 27 (.extract (.t 22) 1),oM 10 26,oM 11 27]) (.seq (.seq (.reg [oM 28 9,oO 29 (.un .not (.t 28)),oM 30 29,oG 31 (.mv (.t 11)) 30 false,oG 32 (.un .not (.t 31)) 30 false,oO 33 (.pick (.t 30) (.k (.c (.d (.bool true)))) (.t 32)),oM 34 33,oG 35 (.mv (.t 2)) 34 false,oG 36 (.call 80 [(.t 35),(kI 5)] none) 34 false,oG 37 (.un .not (.t 36)) 34 false,
 oO 38 (.pick (.t 34) (.k (.c (.d (.bool true)))) (.t 37))]) (.cond (.t 38) (.seq (.reg [oO 39 (.build [(.d (.int .i64 0)),(.d (.int .i64 0)),.nil,.nil,.nil,(.d (.str ⟨#[]⟩)),(.d (.int .i64 0))] []),oN (.store (.ag 7) (.t 6) (.t 39)),oO 7 (.mv (kI 10))]) (.ret)) (.skip))) (.seq (.reg [oM 41 2,oO 42 (.call 115 [(.t 41)] none),oM 40 42,oO 43 (.extract (.t 40) 0),oO 44 (.extract (.t 40) 1),oM 12 43,oM 13 44]) (.seq (.seq (.reg [oM 45 13,oO 46 (.bin .neq (.t 45) (kI 0))]) (.cond (.t 46) (.seq (.reg [oO 47 (.build [(.d (.int .i64 0)),(.d (.int .i64 0)),.nil,.nil,.nil,(.d (.str ⟨#[]⟩)),(.d (.int .i64 0))] []),oM 48 13,oN (.store (.ag 7) (.t 6) (.t 47)),oM 7 48]) (.ret)) (.skip))) (.seq (.reg [oO 50 (.load (.ag 6) (.t 3)),oM 51 8,oM 52 10,oO 53 (.call 26 [(.t 50),(.t 51),(.t 52)] none),oM 49 53,oO 54 (.extract (.t 49) 0),
 oO 55 (.extract (.t 49) 1),oO 14 (.alloc [.nil,.nil]),oN (.store (.ag 2) (.t 14) (.t 54)),oM 15 55]) (.seq (.reg [oM 56 8,oM 57 10,oO 58 (.load (.ag 2) (.t 14)),oM 59 12,oM 60 2,oO 61 (.call 116 [(.t 60),(kI 6)] none),oO 62 (.b2s (.t 61)),oM 63 2,oO 64 (.call 116 [(.t 63),(kI 7)] none),oO 65 (.call 48 [(.t 64)] none),oO 66 (.conv .i64 (.t 65)),oO 67 (.build [(.d (.int .i64 0)),(.d (.int .i64 0)),.nil,.nil,.nil,(.d (.str ⟨#[]⟩)),(.d (.int .i64 0))] [(0,1,(.t 56)),(1,1,(.t 57)),(2,2,(.t 58)),(4,1,(.t 59)),(5,1,(.t 62)),(6,1,(.t 66))]),oN (.store (.ag 7) (.t 6) (.t 67)),oO 7 (.mv (kI 0))]) (.ret)))))))),[(6,(some (.ag 7))),(7,none)]⟩
theorem WF:aw Tryz.prog { own:=[],comp:=[],frz:=[],nils:=[] } Tryz.f81=some om:=by kernel_rfl
theorem XK (G:ah) (hF:G.at 0=some (.ra (cQ.map wD))) (hG:G.at 1=some (.ra (bp.map wD))) (c:Ch) (lo lm:List Ek) (vC:cy c) (ho:∀ r∈lo,r.bo.length≤65535) (hm:∀ r∈lm,r.bo.length≤65535) (hl:lm.length≤1000000) (h7:(dj lm 7).length≤2):aj Tryz.prog G 81 [aT c,cd lo,cd lm] (.tup [.c (.d (nc (pq c lo lm))),.c (.d (.int .i64 (kZ lo lm)))]):=by
  refine aB Tryz.func81 WF rfl rfl ?_;have c1:=LX G lo lm 1 ho hm;have c4:=LX G lo lm 4 ho hm;have c5:=lE G lm 5;have c6:=XI G lm hl;have b6:=zU G lm 6;have b7:=zU G lm 7;have hE:kZ lo lm=if ¬ ((dk lo lm 1).isSome=true∧(dk lo lm 4).isSome=true∧0<(ar lm 5).length) then 10 else jS lm:=rfl
  have hT:pq c lo lm=if kZ lo lm=0 then ⟨(dk lo lm 1).getD 0,(dk lo lm 4).getD 0,a7 c ((dk lo lm 1).getD 0) ((dk lo lm 4).getD 0) 0,a7 c ((dk lo lm 1).getD 0) ((dk lo lm 4).getD 0) 1,jn lm,dj lm 6,(aR (dj lm 7):Int)⟩ else pj:=rfl
  have hCR:jS lm=0→rm lm=jn lm:=fun h=>if_pos h
  have j1:=fun v=>LY (lo:=lo) (lm:=lm) (k:=1) (v:=v)
  have j4:=fun v=>LY (lo:=lo) (lm:=lm) (k:=4) (v:=v)
  have gt:=jx G (dj lm 7) (by omega);have gb:aR (dj lm 7)<65536:=by
    rcases YG (dj lm 7).length 2 with h | h
    ·match hx:dj lm 7,h with
     | [],_=>decide
     | [x],_=>have:=(iV 1 [x] rfl (by decide)).1; omega
    ·exact (iV 2 (dj lm 7) (by omega) (by decide)).1
  unfold cd at *
  generalize pq c lo lm=T at *
  generalize kZ lo lm=e at *
  generalize dk lo lm 1=t1 at *
  generalize dk lo lm 4=t4 at *
  generalize (ar lm 5).length=n5 at *
  generalize jS lm=ce at *
  generalize rm lm=cR at *
  generalize jn lm=cL at *
  generalize aR (dj lm 7)=P7 at *
  generalize dj lm 6=B6 at *
  generalize dj lm 7=B7 at *
  generalize cO lo=E1 at *
  generalize cO lm=E2 at *
  have bad:e=10→T=pj:=fun h=>by rw[hT,if_neg (by rw[h]; decide)]
  rcases t1 with _ | v
  ·rw[if_pos (fun q=>by cases q.1)] at hE;rw[bad hE,hE,kw];simp only[Zd,Zz] at c1;unfold aT;generalize t4.getD 0=w4 at *
   generalize t4.isSome=s4 at *
   simp only[om,af,ae,aa,seval,iteOmega,toNatUp];refine sD (c1) ?_;refine sD (c4) ?_;exact aW
  ·simp only[Y0,Zq] at c1;rcases t4 with _ | a
   ·rw[if_pos (fun q=>by cases q.2.1)] at hE;rw[bad hE,hE,kw];simp only[Zd,Zz] at c4;unfold aT;simp only[om,af,ae,aa,seval,iteOmega,toNatUp];refine sD (c1) ?_;refine sD (c4) ?_;exact aW
   ·simp only[Y0,Zq] at c4;by_cases h5:0<n5
    ·rw[decide_eq_true h5] at c5;rw[if_neg (not_not_intro ⟨rfl,rfl,h5⟩)] at hE;subst hE;by_cases h0:e=0
     ·subst h0;rw[if_pos rfl] at hT;subst hT;rw[hCR rfl] at c6;have kz:=uq G hF hG c v a;rw[lF vC (j1 v rfl) (j4 a rfl)] at kz;simp only[Y0];unfold nc cx aT di at *
      generalize a7 c v a 0=U at *
      generalize a7 c v a 1=W at *
      simp only[om,af,ae,aa,seval,iteOmega,toNatUp];refine sD (c1) ?_;refine sD (c4) ?_;refine sD (c5) ?_;refine sD (c6) ?_;refine sD (kz) ?_;refine sC (b6) ?_;simp only[rZ,ae,aa,seval,iteOmega,toNatUp];refine sD (b7) ?_;refine sD (gt) ?_;exact aW
     ·have g0:=eq_false h0;rw[if_neg h0] at hT;subst hT;rw[kw];unfold cx aT at *
      generalize (cR.map fun l=>D.sl (l.map bD))=cc at *
      simp only[om,af,ae,aa,seval,iteOmega,toNatUp];refine sD (c1) ?_;refine sD (c4) ?_;refine sD (c5) ?_;refine sC (c6) ?_;simp only[g0,ae,aa,seval,iteOmega,toNatUp];exact aW
    ·rw[decide_eq_false h5] at c5;rw[if_pos (fun q=>h5 q.2.2)] at hE;rw[bad hE,hE,kw];unfold aT;simp only[om,af,ae,aa,seval,iteOmega,toNatUp];refine sD (c1) ?_;refine sD (c4) ?_;refine sD (c5) ?_;exact aW
theorem WG {x y:List Int} (h:dA x y=0):bh (dB x y) 1=x∧bh (dB x y) 4=y:=by
  obtain⟨h1,h2,_⟩:=qW h;obtain⟨a1,a4,_⟩:=Lx x y;unfold bh dj;rw[a1,a4];exact⟨li h1,li h2⟩
theorem KV {q:List UInt8} (h:iR q):bh (aG q) 1=iu q∧bh (aG q) 4=iv q:=by
  obtain⟨_,_,h3,h4⟩:=h;have h5:=(uj h3).2.1;rw[h4] at h5;have:=WG h3;rw[← h5] at this;exact this
theorem TK {q:List UInt8} (hF:eG q):iR q↔(dA (bh (aG q) 1) (bh (aG q) 4)=0∧bi (bh (aG q) 1) (bh (aG q) 4)=q):=by
  constructor
  ·intro h;obtain⟨e1,e2⟩:=KV h;rw[e1,e2];exact⟨h.2.2.1,h.2.2.2⟩
  ·rintro⟨h1,h2⟩;have:=(Mr h1).1;rw[h2] at this;exact this
def tJ:aA:=⟨1,31,.seq (.reg [oO 2 (.mv (.k (.c (.d (.mp .i64 []))))),oO 3 (.mv (.k (.c (.d (.bool false)))))]) (.seq (.reg [oM 9 0,oO 10 (.call 66 [(.t 9)] none),oM 8 10,oO 11 (.extract (.t 8) 0),oO 12 (.extract (.t 8) 1),oM 4 11,oM 5 12]) (.seq (.seq (.reg [oM 13 5,oO 14 (.un .not (.t 13))]) (.cond (.t 14) (.seq (.reg [oO 2 (.mv (.k (.c (.d (.mp .i64 []))))),oO 3 (.mv (.k (.c (.d (.bool false)))))]) (.ret)) (.skip))) (.seq (.reg [oM 16 4,oO 17 (.call 111 [(.t 16),(kI 1)] none),oM 18 4,oO 19 (.call 111 [(.t 18),(kI 4)] none),oO 20 (.call 16 [(.t 17),(.t 19)] none),oM 15 20,oO 21 (.extract (.t 15) 0),oO 22 (.extract (.t 15) 1),oM 6 21,oM 7 22]) (.seq (.reg [oM 23 4,oM 24 7,oO 25 (.bin .eql (.t 24) (kI 0)),oM 26 25,oG 27 (.mv (.t 6)) 26 true,oG 28 (.mv (.t 0)) 26 true,oG 29 (.call 104 [(.t 27),(.t 28)] none) 26 true,
 oO 30 (.pick (.t 26) (.t 29) (.k (.c (.d (.bool false))))),oM 2 23,oM 3 30]) (.ret))))),[(2,none),(3,none)]⟩
theorem WH:aw Tryz.prog { own:=[],comp:=[],frz:=[],nils:=[] } Tryz.f79=some tJ:=by kernel_rfl
theorem XL (G:ah) (b:List UInt8) (hb:b.length≤1000000000):aj Tryz.prog G 79 [.sl (b.map bD)] (.tup [.c (.d (cd (ir b))),.c (.d (.bool (decide (iR b))))]):=by
  refine aB Tryz.func79 WH rfl rfl ?_;have c:=zV G b hb;by_cases hF:eG b
  ·have hQ:=TK hF;rw[decide_eq_true hF,show ir b=aG b from if_pos hF] at c;rw[show ir b=aG b from if_pos hF];obtain⟨hbo,hl⟩:=tG (b:=b);generalize aG b=L at *
   have d1:=oF G L 1 fun r hr=>by have:=hbo r hr; omega
   have d4:=oF G L 4 fun r hr=>by have:=hbo r hr; omega
   have n1:(bh L 1).length≤65535:=YJ (qt _) (nQ hbo 1);have n4:(bh L 4).length≤65535:=YJ (qt _) (nQ hbo 4);have cq:=zT G (bh L 1) (bh L 4) (by omega) (by omega);have cs:=tq G (bi (bh L 1) (bh L 4)) b;unfold cd at *
   generalize bh L 1=N1 at *
   generalize bh L 4=N4 at *
   generalize cO L=E at *
   by_cases h0:dA N1 N4=0
   ·rw[h0] at cq;have hd:decide (iR b)=(bi N1 N4==b):=by
      by_cases h1:bi N1 N4=b
      ·rw[decide_eq_true (hQ.2 ⟨h0,h1⟩),h1]; simp
      ·rw[decide_eq_false fun q=>h1 (hQ.1 q).2]; simp[h1]
    rw[hd];generalize (bi N1 N4==b)=d at *
    generalize bi N1 N4=R at *
    clear hQ hd;simp only[tJ,af,ae,aa,seval,iteOmega,toNatUp];refine sD (c) ?_;refine sD (d1) ?_;refine sD (d4) ?_;refine sD (cq) ?_;refine sD (cs) ?_;exact aW
   ·have g0:=eq_false h0;rw[decide_eq_false fun q=>h0 (hQ.1 q).1];generalize dA N1 N4=e at *
    generalize bi N1 N4=R at *
    clear hQ;simp only[tJ,af,ae,aa,seval,iteOmega,toNatUp];refine sD (c) ?_;refine sD (d1) ?_;refine sD (d4) ?_;refine sC (cq) ?_;simp only[g0,ae,aa,seval,iteOmega,toNatUp];exact aW
  ·rw[decide_eq_false hF,show ir b=[] from if_neg hF,qa] at c;rw[decide_eq_false fun q:iR b=>hF q.1,show ir b=[] from if_neg hF,qa];simp only[tJ,af,ae,aa,seval,iteOmega,toNatUp];refine sD (c) ?_;exact aW
theorem KW {b:List UInt8} (h:eG b):(ar (aG b) 1).length≤1∧(ar (aG b) 4).length≤1∧(ar (aG b) 6).length≤1∧(ar (aG b) 7).length≤1:=by
  obtain⟨_,⟨_,_,_,h4,h5,h6,h7⟩,_⟩:=h;rw[bY] at h4 h5 h6 h7;exact⟨h4,h5,h6,h7⟩
theorem uU {l:List Ek} {k:Int} (h:ar l k=[]):dj l k=[]∧bh l k=[]:=by
  have:dj l k=[]:=by unfold dj; rw[h]; rfl
  exact⟨this,by unfold bh; rw[this]; rfl⟩
theorem LZ {lo lm:List Ek} {k:Int} {x:List Int} (h:(ar lm k).length≤1) (hx:bh lo k=x):fg lm k x=dk lo lm k:=by
  unfold fg dk;rw[hx,bY];by_cases h1:(ar lm k).length=1
  ·rw[if_pos h1,z0 (by omega)]
  ·have h2:ar lm k=[]:=YA.1 (by omega);rw[if_neg h1,(uU h2).2,if_neg (by simp)]
theorem WI {l:List Ek} (h:(ar l 6).length≤1):pk l=dj l 6:=by
  unfold pk;rw[bY];by_cases h1:(ar l 6).length=1
  ·rw[if_pos h1,lj (by rw[bY]; omega)]; rfl
  ·rw[if_neg h1,(uU (YA.1 (by omega))).1]
theorem WJ {l:List Ek} (h:(ar l 7).length≤1):pm l=(aR (dj l 7):Int):=by
  unfold pm;rw[bY];by_cases h1:(ar l 7).length=1
  ·rw[if_pos h1,lj (by rw[bY]; omega)]; rfl
  ·rw[if_neg h1,(uU (YA.1 (by omega))).1]; rfl
theorem X2 {b:List UInt8} (h:eG b):(dj (aG b) 7).length≤2:=by
  obtain⟨_,_,_,h7⟩:=KW h;rcases YG 0 (ar (aG b) 7).length with h1 | h1
  ·have hm:=Zp.1 (js h1);have:=(h.2.2 _ hm.1).2 (of_decide_eq_true hm.2);exact Nat.le_of_eq this
  ·rw[(uU (YA.1 (by omega))).1]; decide
theorem XM {c:Ch} {q b:List UInt8} (vC:cy c) (hq:iR q) (hF:eG b) (hS:gX (aG b)=false) (h2:¬ 0<(ar (aG b) 2).length):eI c q b=kZ (aG q) (aG b)∧ng c q b=pq c (aG q) (aG b):=by
  obtain⟨k1,k4,k6,k7⟩:=KW hF;obtain⟨x1,x4⟩:=KV hq;have o1:=LZ (lo:=aG q) (lm:=aG b) k1 x1;have o4:=LZ (lo:=aG q) (lm:=aG b) k4 x4;have e:eI c q b=kZ (aG q) (aG b):=by
    unfold eI kZ jS;rw[if_neg (not_not_intro vC),if_neg (not_not_intro hq),if_neg (not_not_intro hF),if_neg (by rw[hS]; decide),bY,if_neg (by omega),o1,o4,bY];by_cases h:(dk (aG q) (aG b) 1).isSome=true∧(dk (aG q) (aG b) 4).isSome=true∧0<(ar (aG b) 5).length
    ·rw[if_neg (not_not_intro h),if_neg (not_not_intro ⟨h.1,h.2.1,by omega⟩)]
    ·rw[if_pos h,if_pos fun g=>h ⟨g.1,g.2.1,by omega⟩]
  refine⟨e,?_⟩;unfold ng pq;rw[e,o1,o4,WI k6,WJ k7]
def mD:aA:=⟨3,43,.seq (.reg [oO 3 (.box .roBox (.t 0)),oO 6 (.alloc [(.d (.int .i64 0)),(.d (.int .i64 0)),.nil,.nil,.nil,(.d (.str ⟨#[]⟩)),(.d (.int .i64 0))]),oO 7 (.mv (kI 0))]) (.seq (.seq (.reg [oO 11 (.load (.ag 6) (.t 3)),oO 12 (.call 62 [(.t 11)] none),oO 13 (.un .not (.t 12))]) (.cond (.t 13) (.seq (.reg [oO 14 (.build [(.d (.int .i64 0)),(.d (.int .i64 0)),.nil,.nil,.nil,(.d (.str ⟨#[]⟩)),(.d (.int .i64 0))] []),oN (.store (.ag 7) (.t 6) (.t 14)),oO 7 (.mv (kI 3))]) (.ret)) (.skip))) (.seq (.reg [oM 16 1,oO 17 (.call 79 [(.t 16)] none),oM 15 17,oO 18 (.extract (.t 15) 0),oO 19 (.extract (.t 15) 1),oM 8 18,oM 9 19]) (.seq (.seq (.reg [oM 20 9,oO 21 (.un .not (.t 20))]) (.cond (.t 21) (.seq (.reg [oO 22 (.build [(.d (.int .i64 0)),(.d (.int .i64 0)),.nil,.nil,.nil,(.d (.str ⟨#[]⟩)),(.d (.int .i64 0))] []),
 oN (.store (.ag 7) (.t 6) (.t 22)),oO 7 (.mv (kI 3))]) (.ret)) (.skip))) (.seq (.reg [oM 24 2,oO 25 (.call 66 [(.t 24)] none),oM 23 25,oO 26 (.extract (.t 23) 0),oO 27 (.extract (.t 23) 1),oM 10 26,oM 9 27]) (.seq (.seq (.reg [oM 28 9,oO 29 (.un .not (.t 28))]) (.cond (.t 29) (.seq (.reg [oO 30 (.build [(.d (.int .i64 0)),(.d (.int .i64 0)),.nil,.nil,.nil,(.d (.str ⟨#[]⟩)),(.d (.int .i64 0))] []),oN (.store (.ag 7) (.t 6) (.t 30)),oO 7 (.mv (kI 3))]) (.ret)) (.skip))) (.seq (.seq (.reg [oM 31 10,oO 32 (.call 69 [(.t 31)] none)]) (.cond (.t 32) (.seq (.reg [oO 33 (.build [(.d (.int .i64 0)),(.d (.int .i64 0)),.nil,.nil,.nil,(.d (.str ⟨#[]⟩)),(.d (.int .i64 0))] []),oN (.store (.ag 7) (.t 6) (.t 33)),oO 7 (.mv (kI 11))]) (.ret)) (.skip))) (.seq (.seq (.reg [oM 34 10,oO 35 (.call 80 [(.t 34),(kI 2)] none)])
 (.cond (.t 35) (.seq (.reg [oO 36 (.build [(.d (.int .i64 0)),(.d (.int .i64 0)),.nil,.nil,.nil,(.d (.str ⟨#[]⟩)),(.d (.int .i64 0))] []),oN (.store (.ag 7) (.t 6) (.t 36)),oO 7 (.mv (kI 7))]) (.ret)) (.skip))) (.seq (.reg [oO 37 (.load (.ag 6) (.t 3)),oM 38 8,oM 39 10,oO 40 (.call 81 [(.t 37),(.t 38),(.t 39)] none),oO 41 (.extract (.t 40) 0),oO 42 (.extract (.t 40) 1),oN (.store (.ag 7) (.t 6) (.t 41)),oM 7 42]) (.ret))))))))),[(6,(some (.ag 7))),(7,none)]⟩
theorem WK:aw Tryz.prog { own:=[],comp:=[],frz:=[],nils:=[] } Tryz.f30=some mD:=by kernel_rfl
theorem L0 (G:ah) (hF:G.at 0=some (.ra (cQ.map wD))) (hG:G.at 1=some (.ra (bp.map wD))) (c:Ch) (q b:List UInt8) (hq:q.length≤1000000000) (hb:b.length≤1000000000):aj Tryz.prog G 30 [aT c,.sl (q.map bD),.sl (b.map bD)] (.tup [.c (.d (nc (ng c q b))),.c (.d (.int .i64 (eI c q b)))]):=by
  refine aB Tryz.func30 WK rfl rfl ?_;have c1:=mM G hF hG c;have hno:∀ e,eI c q b=e→e≠0→ng c q b=pj:=fun e h1 h2=>if_neg (by rw[h1]; exact h2)
  by_cases vC:cy c
  case neg =>
    rw[decide_eq_false vC] at c1;have E:eI c q b=3:=if_pos vC;rw[hno 3 E (by decide),E,kw];unfold aT at *
    simp only[mD,af,ae,aa,seval,iteOmega,toNatUp];refine sD (c1) ?_;exact aW
  rw[decide_eq_true vC] at c1;have c2:=XL G q hq;by_cases hQ:iR q
  case neg =>
    rw[decide_eq_false hQ] at c2;have E:eI c q b=3:=by unfold eI; rw[if_neg (not_not_intro vC),if_pos hQ]
    rw[hno 3 E (by decide),E,kw];unfold aT cd at *
    simp only[mD,af,ae,aa,seval,iteOmega,toNatUp];refine sD (c1) ?_;refine sD (c2) ?_;exact aW
  rw[decide_eq_true hQ,show ir q=aG q from if_pos hQ.1] at c2;have c3:=zV G b hb;by_cases hFm:eG b
  case neg =>
    rw[decide_eq_false hFm] at c3;have E:eI c q b=3:=by unfold eI; rw[if_neg (not_not_intro vC),if_neg (not_not_intro hQ),if_pos hFm]
    rw[hno 3 E (by decide),E,kw];unfold aT cd at *
    simp only[mD,af,ae,aa,seval,iteOmega,toNatUp];refine sD (c1) ?_;refine sD (c2) ?_;refine sD (c3) ?_;exact aW
  rw[decide_eq_true hFm,show ir b=aG b from if_pos hFm] at c3;obtain⟨hbo,hl⟩:=tG (b:=b);obtain⟨hbq,_⟩:=tG (b:=q);have c4:=LU G (aG b) (by omega);rcases hS:gX (aG b) with _ | _
  case true =>
    rw[hS] at c4;have E:eI c q b=11:=by unfold eI; rw[if_neg (not_not_intro vC),if_neg (not_not_intro hQ),if_neg (not_not_intro hFm),if_pos hS]
    rw[hno 11 E (by decide),E,kw];unfold aT cd at *
    generalize cO (aG q)=E1 at *
    generalize cO (aG b)=E2 at *
    simp only[mD,af,ae,aa,seval,iteOmega,toNatUp];refine sD (c1) ?_;refine sD (c2) ?_;refine sD (c3) ?_;refine sD (c4) ?_;exact aW
  rw[hS] at c4;have c5:=lE G (aG b) 2;by_cases h2:0<(ar (aG b) 2).length
  ·rw[decide_eq_true h2] at c5;have E:eI c q b=7:=by unfold eI; rw[if_neg (not_not_intro vC),if_neg (not_not_intro hQ),if_neg (not_not_intro hFm),if_neg (by rw[hS]; decide),if_pos (by rw[bY]; omega)]
   rw[hno 7 E (by decide),E,kw];unfold aT cd at *
   generalize cO (aG q)=E1 at *
   generalize cO (aG b)=E2 at *
   simp only[mD,af,ae,aa,seval,iteOmega,toNatUp];refine sD (c1) ?_;refine sD (c2) ?_;refine sD (c3) ?_;refine sD (c4) ?_;refine sD (c5) ?_;exact aW
  ·rw[decide_eq_false h2] at c5;obtain⟨e1,e2⟩:=XM vC hQ hFm hS h2;rw[e1,e2];have c6:=XK G hF hG c (aG q) (aG b) vC hbq hbo (by omega) (X2 hFm);generalize pq c (aG q) (aG b)=T at *
   generalize kZ (aG q) (aG b)=e at *
   unfold nc at *
   unfold aT cd at *
   generalize cO (aG q)=E1 at *
   generalize cO (aG b)=E2 at *
   simp only[mD,af,ae,aa,seval,iteOmega,toNatUp];refine sD (c1) ?_;refine sD (c2) ?_;refine sD (c3) ?_;refine sD (c4) ?_;refine sD (c5) ?_;refine sD (c6) ?_;exact aW


def iS (p:dT):List Ek:=if p.ho.size=0 then [] else [⟨true,6,p.ho.data.toList⟩]
def iT (p:dT):List Ek:=if p.pt=0 then [] else [⟨true,7,aM [p.pt]⟩]
theorem zm (p:dT):gY p=iS p++(iT p++[bX]):=rfl
theorem WM {p:dT} (h:p.ho.size≤255):(∀ r∈iS p,r.ty=6)∧(iS p).length≤1∧∀ r∈iS p,r.bo.length≤255:=by
  unfold iS;split
  ·exact⟨fun r hr=>(by cases hr),Yd _,fun r hr=>(by cases hr)⟩
  ·exact⟨fun r hr=>(by rw[X9.1 hr]),Ye _,fun r hr=>by rw[X9.1 hr]; exact h⟩
theorem WN (p:dT):(∀ r∈iT p,r.ty=7)∧(iT p).length≤1∧∀ r∈iT p,r.bo.length=2:=by
  unfold iT;split
  ·exact⟨fun r hr=>(by cases hr),Yd _,fun r hr=>(by cases hr)⟩
  ·exact⟨fun r hr=>(by rw[X9.1 hr]),Ye _,fun r hr=>by rw[X9.1 hr]; exact dZ [p.pt]⟩
theorem WO {L:List Ek} {p:dT} (h:ar L 6=iS p):pk L=p.ho.data.toList:=by
  unfold pk;by_cases h0:p.ho.size=0
  ·have:ar L 6=[]:=by rw[h]; exact if_pos h0
   rw[bY,this,if_neg (show ¬ ([]:List Ek).length=1 by decide)];exact (YA.1 (show p.ho.data.toList.length=0 from h0)).symm
  ·have e:ar L 6=[⟨true,6,p.ho.data.toList⟩]:=by rw[h]; exact if_neg h0
   have hl:(bI L 6).length=1:=by rw[bY,e]; rfl
   rw[if_pos hl,lj (by omega),e]; rfl
theorem WP {L:List Ek} {p:dT} (hp:0≤p.pt∧p.pt≤65535) (h:ar L 7=iT p):pm L=p.pt:=by
  unfold pm;by_cases h0:p.pt=0
  ·have:ar L 7=[]:=by rw[h]; exact if_pos h0
   rw[bY,this,if_neg (show ¬ ([]:List Ek).length=1 by decide),h0]
  ·have e:ar L 7=[⟨true,7,aM [p.pt]⟩]:=by rw[h]; exact if_neg h0
   have hl:(bI L 7).length=1:=by rw[bY,e]; rfl
   rw[if_pos hl,lj (by omega),e]
   show (aR (aM [p.pt]):Int)=_
   rw[show aM [p.pt]=aP p.pt.toNat 2 from Ym _,get_put 2 (by decide)];omega
theorem Mt {p:dT} {r:List Fd} {c:Ch} (h:eR p r c=0):cy c∧cT r∧bz p.pr∧bz p.al∧bz [p.pt]:=by
  unfold eR at h;by_cases h1:cy c∧cT r
  ·rw[if_neg (not_not_intro h1)] at h;by_cases h2:bz p.pr∧bz p.al∧bz [p.pt]
   ·exact⟨h1.1,h1.2,h2⟩
   ·rw[if_pos h2] at h; exact absurd h (by decide)
  ·rw[if_pos h1] at h; exact absurd h (by decide)
theorem agree {p:dT} {r:List Fd} {c c':Ch} {x y:List Int} {ns:List (List UInt8)} (hq:dA x y=0) (hs:eR p r c=0) (hn:kW ns p.ho) (hv:cy c') (hk:c'.se=c.se) :
    (fJ p r c (bi x y) ns).length≤65535 ∧
    (dS x p.pr=none∨dS y p.al=none→eI c' (bi x y) (fJ p r c (bi x y) ns)=10) ∧
    (∀ v a,dS x p.pr=some v→dS y p.al=some a→eI c' (bi x y) (fJ p r c (bi x y) ns)=0 ∧
      ng c' (bi x y) (fJ p r c (bi x y) ns)=⟨v,a,a7 c v a 0,a7 c v a 1,ns.map (fun n=>cG (r.getD 0 default) a (a7 c v a 0) (a7 c v a 1) n),p.ho.data.toList,p.pt⟩∧(0≤v∧v≤65535)∧(0≤a∧a≤65535)∧eP c v a=0):=by
  obtain⟨vC,vR,s1,s2,s3⟩:=Mt hs;obtain⟨sx,sy,_⟩:=qW hq;obtain⟨o1,o2,o3,o4⟩:=XV hq;obtain⟨Q,fx,fy⟩:=Mr hq;have e:fJ p r c (bi x y) ns=be (eQ p r c x y ns++gY p):=by
    unfold fJ;rw[if_neg (not_not_intro hs),if_neg (not_not_intro o1),o2,if_neg Bool.false_ne_true,if_neg (not_not_intro hn),o3,o4]
  obtain⟨n1,n2,n3,n4⟩:=hn;obtain⟨h6,l6,b6⟩:=WM (p:=p) n3;obtain⟨h7,l7,b7⟩:=WN p;have pp:=s3 p.pt YF;have e0:∀ l:List Int,l.length≤16→((aM l).length%2=0∧(aM l).length≤255):=fun l hl=>by rw[dZ]; omega
  rw[e];rcases hx:dS x p.pr with _ | v
  ·have eA:eQ p r c x y ns=[⟨true,1,[]⟩]:=by unfold eQ; rw[hx]
   rw[eA,zm];have em:[(⟨true,1,[]⟩:Ek)]++(iS p++(iT p++[bX]))=bB ⟨true,1,[]⟩ [] [] (iS p) (iT p)++[bX]:=by simp[bB]
   rw[em];obtain⟨m1,m2,m3,m4,m5,m6,m7,m8,m9,mA,mB⟩:=z5 (a:=⟨true,1,[]⟩) (b:=[]) (x:=[]) rfl (fun r hr=>by cases hr) (fun r hr=>by cases hr) h6 h7 (by decide) (by decide) l6 l7 (e0 [] (by decide)) (fun r hr=>by cases hr) (fun r hr=>by cases hr) b6 b7;obtain⟨f1,_⟩:=z6 (c:=c') hv Q m4 m3 m5 m7 m9 (by decide) (fun r hr=>by cases hr);rw[fx] at f1;exact⟨(lC m1).2.2,fun _=>f1 (.inl (FG m6)),fun v a q=>(by cases q)⟩
  ·obtain⟨v1,v2⟩:=lv hx;have v3:=sx v v1;rcases hy:dS y p.al with _ | a
   ·have eA:eQ p r c x y ns=[⟨true,1,aM [v]⟩,⟨true,4,[]⟩]:=by unfold eQ; rw[hx]; dsimp only; rw[hy]
    rw[eA,zm];have em:[(⟨true,1,aM [v]⟩:Ek),⟨true,4,[]⟩]++(iS p++(iT p++[bX]))=bB ⟨true,1,aM [v]⟩ [⟨true,4,[]⟩] [] (iS p) (iT p)++[bX]:=by simp[bB]
    rw[em];obtain⟨m1,m2,m3,m4,m5,m6,m7,m8,m9,mA,mB⟩:=z5 (a:=⟨true,1,aM [v]⟩) (b:=[⟨true,4,[]⟩]) (x:=[]) rfl (fun r hr=>by rw[X9.1 hr]) (fun r hr=>by cases hr) h6 h7 (Ye _) (by decide) l6 l7 (e0 [v] (show (1:Nat)≤16 by decide)) (fun r hr=>by rw[X9.1 hr]; exact e0 [] (by decide)) (fun r hr=>by cases hr) b6 b7;obtain⟨f1,_⟩:=z6 (c:=c') hv Q m4 m3 m5 m7 m9 (by decide) (fun r hr=>by cases hr);rw[fy] at f1;exact⟨(lC m1).2.2,fun _=>f1 (.inr (FG m8)),fun v a _ q=>(by cases q)⟩
   ·obtain⟨a1,a2⟩:=lv hy;have a3:=sy a a1;have kz:=lF vC v3 a3;have eA:eQ p r c x y ns=⟨true,1,aM [v]⟩::⟨true,4,aM [a]⟩::fI r c v a ns:=by unfold eQ; rw[hx]; dsimp only; rw[hy]
    rw[eA,zm];have em:(⟨true,1,aM [v]⟩::⟨true,4,aM [a]⟩::fI r c v a ns)++(iS p++(iT p++[bX]))=bB ⟨true,1,aM [v]⟩ [⟨true,4,aM [a]⟩] (fI r c v a ns) (iS p) (iT p)++[bX]:=by simp[bB]
    rw[em];have xl:(fI r c v a ns).length=ns.length:=by unfold fI; rw[Yc]
    have xb:∀ e∈fI r c v a ns,e.bo.length=104:=fun e he=>by
      obtain⟨n,hn,rfl⟩:=Yu.1 he;obtain⟨q1,q2⟩:=zW (U:=a7 c v a 0) (W:=a7 c v a 1) vR a3 (lk kz) (lk kz) (n4 n hn)
      show (mZ r a _ _ n).length=104
      rw[q1,q2]
    obtain⟨m1,m2,m3,m4,m5,m6,m7,m8,m9,mA,mB⟩:=z5 (a:=⟨true,1,aM [v]⟩) (b:=[⟨true,4,aM [a]⟩]) (x:=fI r c v a ns) rfl (fun r hr=>by rw[X9.1 hr]) (fun e he=>(Tf r c v a ns e he).1) h6 h7 (Ye _) (by omega) l6 l7 (e0 [v] (show (1:Nat)≤16 by decide)) (fun r hr=>by rw[X9.1 hr]; exact e0 [a] (show (1:Nat)≤16 by decide)) (fun e he=>by rw[xb e he]; decide) b6 b7;obtain⟨_,f2⟩:=z6 (c:=c') hv Q m4 m3 m5 m7 m9 (by omega) xb;rw[fx,fy] at f2;obtain⟨g1,g2⟩:=f2 v a (HQ m6 v1 v3) (HQ m8 a1 a3) (by omega);refine⟨(lC m1).2.2,fun q=>(by rcases q with q | q <;> cases q),fun v' a' q1 q2=>?_⟩;obtain rfl:=Option.some.inj q1;obtain rfl:=Option.some.inj q2;refine⟨g1,?_,v3,a3,kz⟩;have kk:∀ z,a7 c' v a z=a7 c v a z:=fun z=>by
      unfold a7;rw[if_pos kz,if_pos (lF hv v3 a3),hk]
    rw[g2,kk,kk,WO mA,WP pp mB]
    congr 1
    unfold fI;rw[List.map_map];refine YN fun n hn=>?_
    exact (zW (U:=a7 c v a 0) (W:=a7 c v a 1) vR a3 (lk kz) (lk kz) (n4 n hn)).1
def AA:ByteArray:=⟨#[116,105,109,101,46,101,120,97,109,112,108,101]⟩
def du:dT:=⟨[0],[15],AA,123⟩
def FU:aA:=⟨0,4,.seq (.reg [oO 0 (.alloc [.nil,.nil,(.d (.str ⟨#[]⟩)),(.d (.int .i64 0))])]) (.seq (.reg [oO 1 (.bldSl false 1 1 (.int .i64 0) [(0,(kI 0))]),oO 2 (.bldSl false 1 1 (.int .i64 0) [(0,(kI 15))]),oO 3 (.build [.nil,.nil,(.d (.str ⟨#[]⟩)),(.d (.int .i64 0))] [(0,1,(.t 1)),(1,1,(.t 2)),(2,1,(.k (.c (.d (.str ⟨#[116,105,109,101,46,101,120,97,109,112,108,101]⟩))))),(3,1,(kI 123))]),oN (.store (.ag 4) (.t 0) (.t 3))]) (.ret)),[(0,(some (.ag 4)))]⟩
theorem Rf:aw Tryz.prog { own:=[],comp:=[],frz:=[],nils:=[] } Tryz.f39=some FU:=by kernel_rfl
theorem Ig (G:ah):aj Tryz.prog G 39 [] (.w (.c (.d (fb du)))):=by
  refine aB Tryz.func39 Rf rfl rfl ?_;unfold fb du;simp only[FU,af,ae,aa,seval,iteOmega,toNatUp];exact aF (h1:=by simp only[ae,aa,seval,iteOmega,toNatUp] <;> rfl)
theorem Ih {s:Nat} {K:List UInt8} {t:Nat} (cl:Bool) {S:List UInt8} {n m:Int} (hs:s+t≤4294967295) (hS:S.length=32) (hn:0≤n∧n≤1099511627776:=by decide) (hm:0≤m∧m≤1099511627776:=by decide):eR du (bw s K t) (aJ cl S n m)=0:=by
  have h1:bz du.pr∧bz du.al∧bz [du.pt]:=by decide
  unfold eR;rw[if_neg (not_not_intro ⟨kM hS hn hm,yP hs⟩),if_neg (not_not_intro h1)]
theorem L2 {K:List UInt8} {cl:Bool} {n m v a:Int} {z:UInt8} (hK:K.length=32) (hn:0≤n∧n≤1099511627776) (hm:0≤m∧m≤1099511627776) (hv:0≤v∧v≤65535) (ha:0≤a∧a≤65535):a7 (aJ cl K n m) v a z=fp K (fq gy oC (eH v a z)) 32:=if_pos (lF (kM hK hn hm) hv ha)
def BC:aA:=⟨0,68,.seq (.reg [oO 0 (.mv (.k (.c (.d (.bool false)))))]) (.seq (.reg [oO 10 (.call 23 [(kI 1)] none),oM 9 10,oO 11 (.extract (.t 9) 0),oO 12 (.extract (.t 9) 1),oO 1 (.alloc [(.d (.bool false)),.nil,.nil,.nil,(.d (.int .i64 0)),(.d (.int .i64 0))]),oO 2 (.alloc [(.d (.bool false)),.nil,.nil,.nil,(.d (.int .i64 0)),(.d (.int .i64 0))]),oN (.store (.ag 6) (.t 1) (.t 11)),oN (.store (.ag 6) (.t 2) (.t 12))]) (.seq (.reg [oO 14 (.bldSl false 1 1 (.int .i64 0) [(0,(kI 0))]),oO 15 (.bldSl false 1 1 (.int .i64 0) [(0,(kI 15))]),oO 16 (.call 16 [(.t 14),(.t 15)] none),oM 13 16,oO 17 (.extract (.t 13) 0),oO 18 (.extract (.t 13) 1),oM 3 17,oM 4 18]) (.seq (.reg [oO 20 (.call 39 [] none),oO 21 (.call 25 [(kI 1),(kI 0)] none),oO 22 (.load (.ag 6) (.t 2)),oM 23 3,oO 24 (.call 35 [(kI 1),(kI 16)] none),
 oO 25 (.call 35 [(kI 2),(kI 16)] none),oO 26 (.bldSl false 2 1 (.sl []) [(0,(.t 24)),(1,(.t 25))]),oO 27 (.call 28 [(.t 20),(.t 21),(.t 22),(.t 23),(.t 26)] none),oM 19 27,oO 28 (.extract (.t 19) 0),oO 29 (.extract (.t 19) 1),oM 5 28,oM 6 29]) (.seq (.reg [oO 31 (.load (.ag 6) (.t 1)),oM 32 3,oM 33 5,oO 34 (.call 30 [(.t 31),(.t 32),(.t 33)] none),oM 30 34,oO 35 (.extract (.t 30) 0),oO 36 (.extract (.t 30) 1),oO 7 (.alloc [(.d (.int .i64 0)),(.d (.int .i64 0)),.nil,.nil,.nil,(.d (.str ⟨#[]⟩)),(.d (.int .i64 0))]),oN (.store (.ag 7) (.t 7) (.t 35)),oM 8 36]) (.seq (.reg [oM 37 4,oO 38 (.bin .eql (.t 37) (kI 0)),oM 39 38,oG 40 (.mv (.t 6)) 39 true,oG 41 (.bin .eql (.t 40) (kI 0)) 39 true,oO 42 (.pick (.t 39) (.t 41) (.k (.c (.d (.bool false))))),oM 43 42,oG 44 (.mv (.t 8)) 43 true,oG 45 (.bin .eql (.t 44) (kI 0)) 43 true,
 oO 46 (.pick (.t 43) (.t 45) (.k (.c (.d (.bool false))))),oM 47 46,oG 48 (.fieldAddr 1 (.t 7)) 47 true,oG 49 (.load .sc (.t 48)) 47 true,oG 50 (.bin .eql (.t 49) (kI 15)) 47 true,oO 51 (.pick (.t 47) (.t 50) (.k (.c (.d (.bool false))))),oM 52 51,oG 53 (.fieldAddr 4 (.t 7)) 52 true,oG 54 (.load .sc (.t 53)) 52 true,oG 55 (.len (.t 54)) 52 true,oG 56 (.bin .eql (.t 55) (kI 2)) 52 true,oO 57 (.pick (.t 52) (.t 56) (.k (.c (.d (.bool false))))),oM 58 57,oG 59 (.fieldAddr 5 (.t 7)) 58 true,oG 60 (.load .sc (.t 59)) 58 true,oG 61 (.bin .eql (.t 60) (.k (.c (.d (.str ⟨#[116,105,109,101,46,101,120,97,109,112,108,101]⟩))))) 58 true,oO 62 (.pick (.t 58) (.t 61) (.k (.c (.d (.bool false))))),oM 63 62,oG 64 (.fieldAddr 6 (.t 7)) 63 true,oG 65 (.load .sc (.t 64)) 63 true,oG 66 (.bin .eql (.t 65) (kI 123)) 63 true,
 oO 67 (.pick (.t 63) (.t 66) (.k (.c (.d (.bool false))))),oM 0 67]) (.ret)))))),[(0,none)]⟩
theorem NL:aw Tryz.prog { own:=[],comp:=[],frz:=[],nils:=[] } Tryz.f9=some BC:=by kernel_rfl
set_option maxHeartbeats 1600000 in
theorem Pk (G:ah) (hF:G.at 0=some (.ra (cQ.map wD))) (hG:G.at 1=some (.ra (bp.map wD))):aj Tryz.prog G 9 [] (.w (.c (.d (.bool true)))):=by
  refine aB Tryz.func9 NL rfl rfl ?_;have kl:=HS 1;have c1:=LH G 1;have c2:=zT G [0] [15] (show (1:Nat)≤_ by decide) (show (1:Nat)≤_ by decide);have hq:dA [0] [15]=0:=by decide
  have c3:=Ig G;have c4:=zQ G 1 0 (by decide);rw[show (gZ 0 6).toNat=0 from by decide] at c4;have c5:=nG G 1 16 (by decide);have c6:=nG G 2 16 (by decide);have l5:(aS 1 16).length=16:=k8 _ _;have l6:(aS 2 16).length=16:=k8 _ _;have hs:=Ih (s:=1) (K:=aS ((1:Nat):Int) 32) (t:=0) (n:=0) (m:=0) false (by decide) kl;have hn:kW [aS 1 16,aS 2 16] du.ho:=⟨show (1:Nat)≤2 by decide,show (2:Nat)≤8 by decide,by decide,fun n hn=>by
    rcases Yi.1 hn with rfl | hn
    ·exact l5
    ·rw[X9.1 hn]; exact l6⟩
  obtain⟨al,_,ag⟩:=agree (c':=aJ true (eS 1) 0 0) hq hs hn (kM kl (by decide) (by decide)) rfl;obtain⟨a1,a2,_⟩:=ag 0 15 (by decide) (by decide);have bq:(bi [0] [15]).length≤65535:=by
    have e:bi [0] [15]=be (dB [0] [15]):=if_pos hq;rw[e];exact (lC (yS hq).1).2.2
  have rl:=j9 1 (aS ((1:Nat):Int) 32) 0;have c7:=LW G hF hG du (bw 1 (aS ((1:Nat):Int) 32) 0) (aJ false (eS 1) 0 0) (bi [0] [15]) [aS 1 16,aS 2 16] (by decide) (by decide) (by decide) (by omega) (by omega) (show (2:Nat)≤_ by decide) (fun n hn=>by
    rcases Yi.1 hn with rfl | hn
    ·omega
    ·rw[X9.1 hn]; omega)
  have c8:=L0 G hF hG (aJ true (eS 1) 0 0) (bi [0] [15]) (fJ du (bw 1 (aS ((1:Nat):Int) 32) 0) (aJ false (eS 1) 0 0) (bi [0] [15]) [aS 1 16,aS 2 16]) (by omega) (by omega);rw[a1,a2] at c8;rw[hs] at c7;rw[hq] at c2;clear hs hn ag a1 a2 al bq hF hG;have eh:(⟨du.ho.data.toList.toArray⟩:ByteArray)=AA:=rfl;have ep:du.pt=123:=rfl;unfold nc at c8;simp only[Ya,Yo,eh,ep] at c8;generalize fJ du (bw 1 (aS ((1:Nat):Int) 32) 0) (aJ false (eS 1) 0 0) (bi [0] [15]) [aS 1 16,aS 2 16]=R at *
  generalize cG ((bw 1 (aS ((1:Nat):Int) 32) 0).getD 0 default) 15 (a7 (aJ false (eS 1) 0 0) 0 15 0) (a7 (aJ false (eS 1) 0 0) 0 15 1) (aS 1 16)=k1 at *
  generalize cG ((bw 1 (aS ((1:Nat):Int) 32) 0).getD 0 default) 15 (a7 (aJ false (eS 1) 0 0) 0 15 0) (a7 (aJ false (eS 1) 0 0) 0 15 1) (aS 2 16)=k2 at *
  generalize a7 (aJ false (eS 1) 0 0) 0 15 0=k3 at *
  generalize a7 (aJ false (eS 1) 0 0) 0 15 1=k4 at *
  generalize bi [0] [15]=Q at *
  generalize aS 1 16=b1 at *
  generalize aS 2 16=b2 at *
  generalize bw 1 (aS ((1:Nat):Int) 32) 0=ring at *
  generalize aJ true (eS 1) 0 0=A1 at *
  generalize aJ false (eS 1) 0 0=A2 at *
  unfold aT bG fb at *
  simp only[Ya,Yo,zD] at c2 c7;rw[show ((1:Nat):Int)=1 from rfl] at c4;generalize hP1:du.pr.map zD=P1 at *
  generalize hP2:du.al.map zD=P2 at *
  generalize du.ho=P3 at *
  generalize du.pt=P4 at *
  simp only[BC,af,ae,aa,seval,iteOmega,toNatUp];refine sD (c1) ?_;refine sD (c2) ?_;refine sD (c3) ?_;refine sD (c4) ?_;refine sD (c5) ?_;refine sD (c6) ?_;refine sD (c7) ?_;refine sD (c8) ?_;have es:(⟨#[116,105,109,101,46,101,120,97,109,112,108,101]⟩:ByteArray)=AA:=rfl;simp only[ae,aa,seval,iteOmega,toNatUp,es];exact aF
theorem MH (k:Int):(aM [k]).length=2:=dZ [k]
theorem TL {p:dT} {r:List Fd} {c:Ch} {b:List UInt8} {ns:List (List UInt8)}:(fJ p r c b ns).length≤4000:=by
  by_cases h0:eR p r c=0
  ·obtain⟨vC,vR,s1,s2,s3⟩:=Mt h0;have rf:∀ k:Int,(gr k).length≤4000:=fun k=>by
     have:(gr k).length≤2*(2+4):=qm (m:=2) fun e he=>by
       rcases Yi.1 he with rfl | he
       ·show (aM [k]).length≤2; rw[dZ]; exact Ye _
       ·rw[X9.1 he]; exact Yd _
     omega
   unfold fJ;rw[if_neg (not_not_intro h0)];by_cases h1:kV b
   ·rw[if_neg (not_not_intro h1)];split
    ·exact rf 0
    ·by_cases hn:kW ns p.ho
     ·rw[if_neg (not_not_intro hn)];have ok:(∀ e∈eQ p r c (fv (aG b) 1) (fv (aG b) 4) ns,0≤e.ty∧e.ty≤7∧e.bo.length≤255)∧(eQ p r c (fv (aG b) 1) (fv (aG b) 4) ns).length≤10:=by
        unfold eQ;rcases hx:dS (fv (aG b) 1) p.pr with _ | v
        ·exact⟨fun e he=>(by rw[X9.1 he]; exact fw (by decide) (by decide)),show 1≤10 by decide⟩
        ·rcases hy:dS (fv (aG b) 4) p.al with _ | a
         ·refine⟨fun e he=>?_,show 2≤10 by decide⟩;rcases Yi.1 he with rfl | he
          ·exact fw (by decide) (by rw[dZ]; exact (show 2*1≤255 by decide))
          ·rw[X9.1 he]; exact fw (by decide) (by decide)
         ·have v2:=s1 _ (lv hx).2;have b2:=s2 _ (lv hy).2;have:=KS (ns:=ns) vR (lF vC v2 b2) b2 hn.2.2.2;have e:fC r c v a ns ns.length=⟨true,1,aM [v]⟩::⟨true,4,aM [a]⟩::fI r c v a ns:=by unfold fC; rw[Zb]
          rw[e] at this;refine⟨this,?_⟩;have:=x8 r c v a ns ns.length;rw[e] at this;have h8:=hn.2.1
          show (⟨true,1,aM [v]⟩::⟨true,4,aM [a]⟩::fI r c v a ns:List Ek).length≤10
          omega
      have h9:=qm (m:=255) fun e he=>((Yj.1 he).elim (ok.1 e) (zg hn.2.2.1 e)).2.2
      have h3:=x9 p;have h10:=ok.2;rw[X5] at h9;omega
     ·rw[if_pos hn]; exact rf 2
   ·rw[if_pos h1]; exact rf 1
  ·rw[show fJ p r c b ns=[] from if_pos h0]; exact Yd _
theorem L3:dA [0] [15]=0∧bi [0] [15]=be (dB [0] [15])∧(bi [0] [15]).length≤65535∧dP (bi [0] [15])=0∧aG (bi [0] [15])=[⟨true,1,aM [0]⟩,⟨true,4,aM [15]⟩,⟨true,0,[]⟩]:=by
  have h:dA [0] [15]=0:=by decide
  obtain⟨d1,d2,_⟩:=uj h;have e:bi [0] [15]=be (dB [0] [15]):=if_pos h;exact⟨h,e,by rw[e]; exact (lC (yS h).1).2.2,d1,d2⟩
theorem WQ {l:List Fd} {id:Int} {i:Nat} (h:gI l id=some i):kY l id=(i:Int):=by unfold kY; rw[h]
theorem WR {l:List Fd} {id:Int} (h:gI l id=none):kY l id=-1:=by unfold kY; rw[h]
theorem WS {l:List Fd} {id:Int} {i:Nat} (h:gI l id=some i):i<l.length:=by
  unfold gI at h;rw[Zh] at h;exact h.1
def mj:aA:=⟨2,63,.seq (.reg [oO 2 (.box .roBox (.t 0)),oO 4 (.mv (kI 0)),oO 5 (.alloc [.nil,.nil]),oO 6 (.mv (kI 0)),oO 7 (.mv (kI 0))]) (.seq (.seq (.reg [oO 11 (.load (.ag 1) (.t 2)),oO 12 (.call 65 [(.t 11)] none),oO 13 (.un .not (.t 12))]) (.cond (.t 13) (.seq (.reg [oO 14 (.build [.nil,.nil] []),oO 4 (.mv (kI 0)),oN (.store (.ag 2) (.t 5) (.t 14)),oO 6 (.mv (kI 0)),oO 7 (.mv (kI 3))]) (.ret)) (.skip))) (.seq (.reg [oM 16 1,oO 17 (.call 85 [(.t 16)] none),oM 15 17,oO 18 (.extract (.t 15) 0),oO 19 (.extract (.t 15) 1),oO 8 (.alloc [(.d (.int .i64 0))]),oN (.store .sc (.t 8) (.t 18)),oM 7 19]) (.seq (.seq (.reg [oM 20 7,oO 21 (.bin .neq (.t 20) (kI 0))]) (.cond (.t 21) (.seq (.reg [oO 22 (.build [.nil,.nil] []),oM 23 7,oO 4 (.mv (kI 0)),oN (.store (.ag 2) (.t 5) (.t 22)),oO 6 (.mv (kI 0)),
 oM 7 23]) (.ret)) (.skip))) (.seq (.reg [oO 24 (.fieldAddr 0 (.t 2)),oO 25 (.load .sc (.t 24)),oO 26 (.closM 87 [] [(.t 8)]),oO 27 (.call 86 [(.t 25),(.t 26)] none),oM 6 27]) (.seq (.seq (.reg [oM 28 6,oO 29 (.bin .lss (.t 28) (kI 0))]) (.cond (.t 29) (.seq (.reg [oO 30 (.build [.nil,.nil] []),oO 4 (.mv (kI 0)),oN (.store (.ag 2) (.t 5) (.t 30)),oO 6 (.mv (kI 0)),oO 7 (.mv (kI 5))]) (.ret)) (.skip))) (.seq (.reg [oO 32 (.fieldAddr 0 (.t 2)),oO 33 (.load .sc (.t 32)),oM 34 6,oO 35 (.idxSl 2 (.t 33) (.t 34)),oO 36 (.fieldAddr 1 (.t 35)),oO 37 (.load .sc (.t 36)),oM 38 1,oO 39 (.slice 1 (.t 38) none (some (kI 4)) none),oM 40 1,oO 41 (.slice 1 (.t 40) (some (kI 4)) (some (kI 20)) none),oO 42 (.bldSl false 2 1 (.sl []) [(0,(.t 39)),(1,(.t 41))]),oM 43 1,oO 44 (.slice 1 (.t 43) (some (kI 20)) none none),
 oO 45 (.call 88 [(.t 37),(.t 42),(.t 44)] none),oM 31 45,oO 46 (.extract (.t 31) 0),oO 47 (.extract (.t 31) 1),oM 9 46,oM 7 47]) (.seq (.seq (.reg [oM 48 7,oO 49 (.bin .neq (.t 48) (kI 0))]) (.cond (.t 49) (.seq (.reg [oO 50 (.build [.nil,.nil] []),oO 4 (.mv (kI 0)),oN (.store (.ag 2) (.t 5) (.t 50)),oO 6 (.mv (kI 0)),oO 7 (.mv (kI 6))]) (.ret)) (.skip))) (.seq (.reg [oM 52 9,oO 53 (.call 89 [(.t 52)] none),oM 51 53,oO 54 (.extract (.t 51) 0),oO 55 (.extract (.t 51) 1),oO 56 (.extract (.t 51) 2),oM 4 54,oN (.store (.ag 2) (.t 5) (.t 55)),oM 10 56]) (.seq (.seq (.reg [oM 57 10,oO 58 (.un .not (.t 57))]) (.cond (.t 58) (.seq (.reg [oO 59 (.build [.nil,.nil] []),oO 4 (.mv (kI 0)),oN (.store (.ag 2) (.t 5) (.t 59)),oO 6 (.mv (kI 0)),oO 7 (.mv (kI 6))]) (.ret)) (.skip))) (.seq (.reg [oM 60 4,oO 61 (.load (.ag 2) (.t 5)),
 oM 62 6,oM 4 60,oN (.store (.ag 2) (.t 5) (.t 61)),oM 6 62,oO 7 (.mv (kI 0))]) (.ret))))))))))),[(4,none),(5,(some (.ag 2))),(6,none),(7,none)]⟩
theorem TM:aw Tryz.prog { own:=[],comp:=[],frz:=[],nils:=[],mt:=[26] } Tryz.f36=some mj:=by kernel_rfl
set_option maxHeartbeats 3200000 in
theorem WT (G:ah) (l:List Fd) (c:List UInt8) (hl:l.length≤9223372036854775807) (hcl:c.length≤9223372036854775807):aj Tryz.prog G 36 [bG l,.sl (c.map bD)] (.tup [.c (.d (.int .i64 (jl l c).al)),.c (.d (di (jl l c).up (jl l c).dn)),.c (.d (.int .i64 (jl l c).ag)),.c (.d (.int .i64 (fe l c)))]):=by
  refine aB Tryz.func36 TM rfl rfl ?_;have c1:=zh G l hl;by_cases hr:cT l
  ·rw[decide_eq_true hr] at c1;have c2:=Wr G c hcl;by_cases hc:c.length=104
   ·have ci:rh c=0:=if_neg (by omega);rw[ci] at c2;have c3:=Ws G l 87 [.ref [.int .i64 (fW c)]] (fW c) hl (fun x=>Wt G (fW c) x);have haz:=r7 l;rcases hw:gI l (fW c) with _ | i
    ·have e:fe l c=5:=by unfold fe; rw[if_pos hr,if_neg (by omega),hw]
     rw[qo e (by decide),e];rw[WR hw] at c3;generalize fW c=n at *
     unfold bG di at *
     simp only[mj,af,ae,aa,seval,iteOmega,toNatUp];refine sD (c1) ?_;refine sC (c2) ?_;simp only[u5,ae,aa,seval,iteOmega,toNatUp];refine a8 c3 (by simp only[ae,aa,seval,iteOmega,toNatUp] <;> rfl) (.inr rfl) ?_;simp only[ae,aa,seval,iteOmega,toNatUp];exact mL (by simp only[ae,aa,seval,iteOmega,toNatUp] <;> rfl) (by simp only[ae,aa,seval,iteOmega,toNatUp] <;> rfl) (by simp only[ae,aa,seval,iteOmega,toNatUp] <;> rfl) (by simp only[ae,aa,seval,iteOmega,toNatUp] <;> rfl)
    ·have hi:=WS hw;have g:=lU hi;have ce:=Tn hr hc hw;obtain⟨⟨m1,m2,m3⟩,_⟩:=ly hr hi;rw[WQ hw] at c3;have c4:=Lu G (l.getD i default).da [aI c 0 4,aI c 4 16] (c.drop 20) (by omega) (by simp) (fun x hx=>by simp at hx; rcases hx with rfl | rfl <;> (rw[jr (by omega)]; decide)) (by simp; omega);rw[show fo (l.getD i default).da [aI c 0 4,aI c 4 16] (c.drop 20)=jP (l.getD i default) c from rfl,show gj (l.getD i default).da [aI c 0 4,aI c 4 16] (c.drop 20)=fc (l.getD i default) c from rfl] at c4;unfold cx at c4;simp only[Ya,Yo] at c4;have t1:c.take 4=aI c 0 4:=rfl;have t2:(c.drop 4).take (20-4)=aI c 4 16:=rfl;have t3:(c.drop 20).take 84=c.drop 20:=X7 (by simp; omega);have hok:mW (l.getD i default) c↔jP (l.getD i default) c=0∧(fc (l.getD i default) c).getD 2 0=0∧(fc (l.getD i default) c).getD 3 0=0:=Iff.rfl;have hR:fe l c=0→jl l c=⟨(aR (aI (fc (l.getD i default) c) 0 2):Int),aI (fc (l.getD i default) c) 4 32,aI (fc (l.getD i default) c) 36 32,(i:Int)⟩:=fun h=>by
       unfold jl;rw[if_pos h,hw];rfl
     have hVl:=fun h=>Ta (m:=l.getD i default) hc h
     have hi0:0≤(i:Int):=by omega
     generalize fc (l.getD i default) c=V at *
     by_cases x0:jP (l.getD i default) c=0
     ·have hVl:=hVl x0;have c5:=Wq G V hVl;rw[x0] at c4;by_cases y:V.getD 2 0=0∧V.getD 3 0=0
      ·have e0:fe l c=0:=by rw[ce,if_pos (hok.2 ⟨x0,y⟩)]
       rw[hR e0,e0];rw[if_pos y] at c5;clear hR ce e0 hok;generalize aI V 4 32=U1 at *
       generalize aI V 36 32=U2 at *
       generalize aR (aI V 0 2)=al at *
       generalize hx:l.getD i default=x at *
       generalize fW c=n at *
       generalize aI c 0 4=D0 at *
       generalize aI c 4 16=D1 at *
       unfold bG di at *
       simp only[mj,af,ae,aa,seval,iteOmega,toNatUp];refine sD (c1) ?_;refine sC (c2) ?_;simp only[u5,ae,aa,seval,iteOmega,toNatUp];refine a8 c3 (by simp only[ae,aa,seval,iteOmega,toNatUp] <;> rfl) (.inr rfl) ?_;simp only[ae,aa,seval,iteOmega,toNatUp,aL,g,haz,bM,hc,t1,t2,t3];refine a8 c4 (by simp only[ae,aa,seval,iteOmega,toNatUp]) (.inl rfl) ?_;simp only[ae,aa,seval,iteOmega,toNatUp];refine sD (c5) ?_;exact mL (by simp only[ae,aa,seval,iteOmega,toNatUp] <;> rfl) (by simp only[ae,aa,seval,iteOmega,toNatUp] <;> rfl) (by simp only[ae,aa,seval,iteOmega,toNatUp] <;> rfl) (by simp only[ae,aa,seval,iteOmega,toNatUp] <;> rfl)
      ·have e6:fe l c=6:=by rw[ce,if_neg (fun h=>y (hok.1 h).2)]
       rw[qo e6 (by decide),e6];rw[if_neg y] at c5;clear hR ce e6 hok;generalize hx:l.getD i default=x at *
       generalize fW c=n at *
       generalize aI c 0 4=D0 at *
       generalize aI c 4 16=D1 at *
       unfold bG di at *
       simp only[mj,af,ae,aa,seval,iteOmega,toNatUp];refine sD (c1) ?_;refine sC (c2) ?_;simp only[u5,ae,aa,seval,iteOmega,toNatUp];refine a8 c3 (by simp only[ae,aa,seval,iteOmega,toNatUp] <;> rfl) (.inr rfl) ?_;simp only[ae,aa,seval,iteOmega,toNatUp,aL,g,haz,bM,hc,t1,t2,t3];refine a8 c4 (by simp only[ae,aa,seval,iteOmega,toNatUp]) (.inl rfl) ?_;simp only[ae,aa,seval,iteOmega,toNatUp];refine sD (c5) ?_;exact mL (by simp only[ae,aa,seval,iteOmega,toNatUp] <;> rfl) (by simp only[ae,aa,seval,iteOmega,toNatUp] <;> rfl) (by simp only[ae,aa,seval,iteOmega,toNatUp] <;> rfl) (by simp only[ae,aa,seval,iteOmega,toNatUp] <;> rfl)
     ·have g1:(jP (l.getD i default) c=0)=False:=eq_false x0;have e6:fe l c=6:=by rw[ce,if_neg (fun h=>x0 (hok.1 h).1)]
      rw[qo e6 (by decide),e6];clear hR ce e6 hok;generalize jP (l.getD i default) c=xe at *
      generalize hx:l.getD i default=x at *
      generalize fW c=n at *
      generalize aI c 0 4=D0 at *
      generalize aI c 4 16=D1 at *
      unfold bG di at *
      simp only[mj,af,ae,aa,seval,iteOmega,toNatUp];refine sD (c1) ?_;refine sC (c2) ?_;simp only[u5,ae,aa,seval,iteOmega,toNatUp];refine a8 c3 (by simp only[ae,aa,seval,iteOmega,toNatUp] <;> rfl) (.inr rfl) ?_;simp only[ae,aa,seval,iteOmega,toNatUp,aL,g,haz,bM,hc,t1,t2,t3];refine a8 c4 (by simp only[ae,aa,seval,iteOmega,toNatUp]) (.inl rfl) ?_;simp only[ae,aa,seval,iteOmega,toNatUp,g1];exact mL (by simp only[ae,aa,seval,iteOmega,toNatUp] <;> rfl) (by simp only[ae,aa,seval,iteOmega,toNatUp] <;> rfl) (by simp only[ae,aa,seval,iteOmega,toNatUp] <;> rfl) (by simp only[ae,aa,seval,iteOmega,toNatUp] <;> rfl)
   ·have e:fe l c=3:=by unfold fe; rw[if_pos hr,if_pos hc]
    have ci:rh c=3:=if_pos hc;rw[ci] at c2;rw[qo e (by decide),e];unfold bG di at *
    simp only[mj,af,ae,aa,seval,iteOmega,toNatUp];refine sD (c1) ?_;refine sD (c2) ?_;exact mL (by simp only[ae,aa,seval,iteOmega,toNatUp] <;> rfl) (by simp only[ae,aa,seval,iteOmega,toNatUp] <;> rfl) (by simp only[ae,aa,seval,iteOmega,toNatUp] <;> rfl) (by simp only[ae,aa,seval,iteOmega,toNatUp] <;> rfl)
  ·rw[decide_eq_false hr] at c1;have e:fe l c=3:=if_neg hr;rw[qo e (by decide),e];unfold bG di at *
   simp only[mj,af,ae,aa,seval,iteOmega,toNatUp];refine sD (c1) ?_;exact mL (by simp only[ae,aa,seval,iteOmega,toNatUp] <;> rfl) (by simp only[ae,aa,seval,iteOmega,toNatUp] <;> rfl) (by simp only[ae,aa,seval,iteOmega,toNatUp] <;> rfl) (by simp only[ae,aa,seval,iteOmega,toNatUp] <;> rfl)
theorem WV:(bi [0] [15]).length≤100:=by
  rw[L3.2.1];have:(be (dB [0] [15])).length≤3*(2+4):=qm (m:=2) fun e he=>by
    rcases Yi.1 he with rfl | he
    ·show (aM [0]).length≤2; rw[MH]; exact Ye _
    ·rcases Yi.1 he with rfl | he
     ·show (aM [15]).length≤2; rw[MH]; exact Ye _
     ·rw[X9.1 he]; exact Yd _
  omega
theorem qw (cl:Bool) (K:List UInt8) (n m:Int):aT (aJ cl K n m)=.agg [.bool cl,.sl (K.map bD),.sl (((aJ cl K 0 0).sk).map bD),.sl (((aJ cl K 0 0).rk).map bD),.int .i64 n,.int .i64 m]:=rfl
def Ii:aA:=⟨1,218,.seq (.reg [oO 2 (.mv (.k (.c (.d (.bool false)))))]) (.seq (.reg [oM 35 0,oO 36 (.call 24 [(.t 35),(kI 1000)] none),oM 0 36]) (.seq (.reg [oM 38 0,oO 39 (.call 23 [(.t 38)] none),oM 37 39,oO 40 (.extract (.t 37) 0),oO 41 (.extract (.t 37) 1),oO 3 (.alloc [(.d (.bool false)),.nil,.nil,.nil,(.d (.int .i64 0)),(.d (.int .i64 0))]),oO 4 (.alloc [(.d (.bool false)),.nil,.nil,.nil,(.d (.int .i64 0)),(.d (.int .i64 0))]),oN (.store (.ag 6) (.t 3) (.t 40)),oN (.store (.ag 6) (.t 4) (.t 41))]) (.seq (.reg [oO 43 (.bldSl false 1 1 (.int .i64 0) [(0,(kI 0))]),oO 44 (.bldSl false 1 1 (.int .i64 0) [(0,(kI 15))]),oO 45 (.call 16 [(.t 43),(.t 44)] none),oM 42 45,oO 46 (.extract (.t 42) 0),oO 47 (.extract (.t 42) 1),oM 5 46,oM 6 47]) (.seq (.reg [oO 49 (.load (.ag 6) (.t 3)),oM 50 5,
 oO 51 (.call 37 [(.t 49),(kI 1),(.t 50)] none),oM 48 51,oO 52 (.extract (.t 48) 0),oO 53 (.extract (.t 48) 1),oO 54 (.extract (.t 48) 2),oN (.store (.ag 6) (.t 3) (.t 52)),oM 7 53,oM 8 54]) (.seq (.reg [oO 56 (.load (.ag 6) (.t 4)),oM 57 7,oO 58 (.call 38 [(.t 56),(.t 57)] none),oM 55 58,oO 59 (.extract (.t 55) 0),oO 60 (.extract (.t 55) 1),oO 61 (.extract (.t 55) 2),oO 62 (.extract (.t 55) 3),oN (.store (.ag 6) (.t 4) (.t 59)),oM 9 60,oM 10 61,oM 11 62]) (.seq (.reg [oO 64 (.call 39 [] none),oM 65 0,oO 66 (.call 25 [(.t 65),(kI 0)] none),oO 67 (.load (.ag 6) (.t 4)),oM 68 10,oM 69 0,oO 70 (.call 35 [(.t 69),(kI 16)] none),oO 71 (.bldSl false 1 1 (.sl []) [(0,(.t 70))]),oO 72 (.call 28 [(.t 64),(.t 66),(.t 67),(.t 68),(.t 71)] none),oM 63 72,oO 73 (.extract (.t 63) 0),oO 74 (.extract (.t 63) 1),
 oM 12 73,oM 13 74]) (.seq (.reg [oO 76 (.load (.ag 6) (.t 4)),oM 77 12,oO 78 (.call 37 [(.t 76),(kI 1),(.t 77)] none),oM 75 78,oO 79 (.extract (.t 75) 0),oO 80 (.extract (.t 75) 1),oO 81 (.extract (.t 75) 2),oN (.store (.ag 6) (.t 4) (.t 79)),oM 7 80,oM 14 81]) (.seq (.reg [oO 83 (.load (.ag 6) (.t 3)),oM 84 7,oO 85 (.call 38 [(.t 83),(.t 84)] none),oM 82 85,oO 86 (.extract (.t 82) 0),oO 87 (.extract (.t 82) 1),oO 88 (.extract (.t 82) 2),oO 89 (.extract (.t 82) 3),oN (.store (.ag 6) (.t 3) (.t 86)),oM 15 87,oM 16 88,oM 17 89]) (.seq (.reg [oO 91 (.load (.ag 6) (.t 3)),oM 92 5,oM 93 16,oO 94 (.call 30 [(.t 91),(.t 92),(.t 93)] none),oM 90 94,oO 95 (.extract (.t 90) 0),oO 96 (.extract (.t 90) 1),oO 18 (.alloc [(.d (.int .i64 0)),(.d (.int .i64 0)),.nil,.nil,.nil,(.d (.str ⟨#[]⟩)),(.d (.int .i64 0))]),
 oN (.store (.ag 7) (.t 18) (.t 95)),oM 19 96]) (.seq (.seq (.reg [oM 97 6,oO 98 (.bin .neq (.t 97) (kI 0)),oM 99 98,oG 100 (.mv (.t 8)) 99 false,oG 101 (.bin .neq (.t 100) (kI 0)) 99 false,oO 102 (.pick (.t 99) (.k (.c (.d (.bool true)))) (.t 101)),oM 103 102,oG 104 (.mv (.t 11)) 103 false,oG 105 (.bin .neq (.t 104) (kI 0)) 103 false,oO 106 (.pick (.t 103) (.k (.c (.d (.bool true)))) (.t 105)),oM 107 106,oG 108 (.mv (.t 13)) 107 false,oG 109 (.bin .neq (.t 108) (kI 0)) 107 false,oO 110 (.pick (.t 107) (.k (.c (.d (.bool true)))) (.t 109)),oM 111 110,oG 112 (.mv (.t 14)) 111 false,oG 113 (.bin .neq (.t 112) (kI 0)) 111 false,oO 114 (.pick (.t 111) (.k (.c (.d (.bool true)))) (.t 113)),oM 115 114,oG 116 (.mv (.t 17)) 115 false,oG 117 (.bin .neq (.t 116) (kI 0)) 115 false,oO 118 (.pick (.t 115) (.k (.c (.d (.bool true)))) (.t 117)),
 oM 119 118,oG 120 (.mv (.t 19)) 119 false,oG 121 (.bin .neq (.t 120) (kI 0)) 119 false,oO 122 (.pick (.t 119) (.k (.c (.d (.bool true)))) (.t 121)),oM 123 122,oG 124 (.mv (.t 5)) 123 false,oG 125 (.mv (.t 10)) 123 false,oG 126 (.call 20 [(.t 124),(.t 125)] none) 123 false,oG 127 (.un .not (.t 126)) 123 false,oO 128 (.pick (.t 123) (.k (.c (.d (.bool true)))) (.t 127)),oM 129 128,oG 130 (.fieldAddr 4 (.t 18)) 129 false,oG 131 (.load .sc (.t 130)) 129 false,oG 132 (.len (.t 131)) 129 false,oG 133 (.bin .neq (.t 132) (kI 1)) 129 false,oO 134 (.pick (.t 129) (.k (.c (.d (.bool true)))) (.t 133))]) (.cond (.t 134) (.seq (.reg [oO 2 (.mv (.k (.c (.d (.bool false)))))]) (.ret)) (.skip))) (.seq (.reg [oM 135 0,oO 136 (.bin .add (.t 135) (kI 1)),oO 137 (.call 35 [(.t 136),(kI 16)] none),oM 20 137])
 (.seq (.reg [oO 139 (.load (.ag 6) (.t 3)),oM 140 20,oO 141 (.call 40 [(.t 139),(.t 140)] none),oM 138 141,oO 142 (.extract (.t 138) 0),oO 143 (.extract (.t 138) 1),oO 21 (.alloc [(.d (.bool false)),.nil,.nil,.nil,(.d (.int .i64 0)),(.d (.int .i64 0))]),oN (.store (.ag 6) (.t 21) (.t 142)),oM 22 143]) (.seq (.reg [oO 145 (.load (.ag 6) (.t 4)),oM 146 20,oO 147 (.call 40 [(.t 145),(.t 146)] none),oM 144 147,oO 148 (.extract (.t 144) 0),oO 149 (.extract (.t 144) 1),oO 23 (.alloc [(.d (.bool false)),.nil,.nil,.nil,(.d (.int .i64 0)),(.d (.int .i64 0))]),oN (.store (.ag 6) (.t 23) (.t 148)),oM 24 149]) (.seq (.reg [oO 151 (.load (.ag 6) (.t 21)),oO 152 (.call 26 [(.t 151),(kI 0),(kI 15)] none),oM 150 152,oO 153 (.extract (.t 150) 0),oO 154 (.extract (.t 150) 1),oO 25 (.alloc [.nil,.nil]),oN (.store (.ag 2) (.t 25) (.t 153)),
 oM 26 154]) (.seq (.reg [oO 156 (.load (.ag 6) (.t 23)),oO 157 (.call 26 [(.t 156),(kI 0),(kI 15)] none),oM 155 157,oO 158 (.extract (.t 155) 0),oO 159 (.extract (.t 155) 1),oO 27 (.alloc [.nil,.nil]),oN (.store (.ag 2) (.t 27) (.t 158)),oM 28 159]) (.seq (.reg [oO 161 (.load (.ag 6) (.t 21)),oO 162 (.call 27 [(.t 161),(kI 0),(kI 15)] none),oM 160 162,oO 163 (.extract (.t 160) 0),oO 164 (.extract (.t 160) 1),oO 29 (.alloc [.nil,.nil]),oN (.store (.ag 2) (.t 29) (.t 163)),oM 30 164]) (.seq (.reg [oM 166 0,oO 167 (.call 25 [(.t 166),(kI 3)] none),oO 168 (.fieldAddr 4 (.t 18)),oO 169 (.load .sc (.t 168)),oO 170 (.idxSl 1 (.t 169) (kI 0)),oO 171 (.load .sc (.t 170)),oO 172 (.call 36 [(.t 167),(.t 171)] none),oM 165 172,oO 173 (.extract (.t 165) 0),oO 174 (.extract (.t 165) 1),oO 175 (.extract (.t 165) 2),
 oO 176 (.extract (.t 165) 3),oO 32 (.alloc [.nil,.nil]),oM 31 173,oN (.store (.ag 2) (.t 32) (.t 174)),oM 33 175,oM 34 176]) (.seq (.reg [oO 177 (.call 9 [] none),oM 178 177,oG 179 (.mv (.t 22)) 178 true,oG 180 (.bin .eql (.t 179) (kI 0)) 178 true,oO 181 (.pick (.t 178) (.t 180) (.k (.c (.d (.bool false))))),oM 182 181,oG 183 (.mv (.t 24)) 182 true,oG 184 (.bin .eql (.t 183) (kI 0)) 182 true,oO 185 (.pick (.t 182) (.t 184) (.k (.c (.d (.bool false))))),oM 186 185,oG 187 (.mv (.t 26)) 186 true,oG 188 (.bin .eql (.t 187) (kI 0)) 186 true,oO 189 (.pick (.t 186) (.t 188) (.k (.c (.d (.bool false))))),oM 190 189,oG 191 (.mv (.t 28)) 190 true,oG 192 (.bin .eql (.t 191) (kI 0)) 190 true,oO 193 (.pick (.t 190) (.t 192) (.k (.c (.d (.bool false))))),oM 194 193,oG 195 (.mv (.t 34)) 194 true,oG 196 (.bin .eql (.t 195) (kI 0)) 194 true,
 oO 197 (.pick (.t 194) (.t 196) (.k (.c (.d (.bool false))))),oM 198 197,oG 199 (.load (.ag 2) (.t 25)) 198 true,oG 200 (.load (.ag 2) (.t 27)) 198 true,oG 201 (.call 32 [(.t 199),(.t 200)] none) 198 true,oO 202 (.pick (.t 198) (.t 201) (.k (.c (.d (.bool false))))),oM 203 202,oG 204 (.load (.ag 2) (.t 25)) 203 true,oG 205 (.load (.ag 2) (.t 29)) 203 true,oG 206 (.call 32 [(.t 204),(.t 205)] none) 203 true,oO 207 (.pick (.t 203) (.t 206) (.k (.c (.d (.bool false))))),oM 208 207,oG 209 (.load (.ag 2) (.t 32)) 208 true,oG 210 (.fieldAddr 2 (.t 18)) 208 true,oG 211 (.load (.ag 2) (.t 210)) 208 true,oG 212 (.call 32 [(.t 209),(.t 211)] none) 208 true,oO 213 (.pick (.t 208) (.t 212) (.k (.c (.d (.bool false))))),oM 214 213,oG 215 (.load (.ag 6) (.t 21)) 214 true,oG 216 (.call 41 [(.t 215)] none) 214 true,
 oO 217 (.pick (.t 214) (.t 216) (.k (.c (.d (.bool false))))),oM 2 217]) (.ret))))))))))))))))))),[(2,none)]⟩
theorem TO:aw Tryz.prog { own:=[],comp:=[],frz:=[],nils:=[] } Tryz.f6=some Ii:=by kernel_rfl
set_option maxHeartbeats 1600000 in
theorem WW (G:ah) (seed:Int) (hseed1:-9223372036854775808≤seed) (hseed2:seed≤9223372036854775807) (hF:G.at 0=some (.ra (cQ.map wD))) (hG:G.at 1=some (.ra (bp.map wD))):aj Tryz.prog G 6 [.int .i64 seed] (.w (.c (.d (.bool true)))):=by
  refine aB Tryz.func6 TO rfl rfl ?_;have ck:=Pk G hF hG;have c0:=w8 G seed 1000 (by decide);obtain⟨r0,r1⟩:=AG seed 1000 (by decide);obtain⟨s,hs⟩:=YR r0;have hs:gZ seed 1000=(s:Int):=hs;rw[hs] at c0 r0 r1;have kl:=HS (s:Int);have c1:=LH G (s:Int);generalize eS (s:Int)=K at *
  obtain⟨q0,_,_,_,_⟩:=L3;have ql:=WV;have c2:=zT G [0] [15] (show (1:Nat)≤_ by decide) (show (1:Nat)≤_ by decide);rw[q0] at c2;have hz:(0:Int)≤0∧(0:Int)≤1099511627776:=by decide
  have hz1:(0:Int)≤0+1∧(0+1:Int)≤1099511627776:=by decide
  obtain⟨R1,⟨x1,x2,x3,x4⟩,y1,y2,y3,y4⟩:=HL (cl:=true) (K:=K) (b:=bi [0] [15]) (n:=0) (m:=0) (k:=1) kl (by decide) hz (by decide) (by omega);have c3:=LD G hF hG (aJ true K 0 0) 1 (bi [0] [15]) (by omega);rw[x1,x2,x3] at c3;have c4:=LE G hF hG (aJ (!true) K 0 0) R1 (by omega);rw[y1,y2,y3,y4,Bool.not_true] at c4;have cp:=Ig G;have cw:=zQ G s 0 (by omega);rw[show (gZ 0 6).toNat=0 from by decide] at cw;have cb:=nG G (s:Int) 16 (by decide);have bl:(aS (s:Int) 16).length=16:=k8 _ _;have kr:(aS (s:Int) 32).length=32:=k8 _ _;have hR:=Ih (s:=s) (K:=aS (s:Int) 32) (t:=0) (n:=0) (m:=0+1) false (by omega) kl hz hz1;have hn:kW [aS (s:Int) 16] du.ho:=⟨Ye _,show (1:Nat)≤8 by decide,by decide,fun n hn=>by rw[X9.1 hn]; exact bl⟩
  have rl:=j9 s (aS (s:Int) 32) 0;have rl3:=j9 s (aS (s:Int) 32) 3;have hv:=kM (cl:=true) (n:=0+1) (m:=0+1) kl hz1 hz1;obtain⟨_,_,ag⟩:=agree (c':=aJ true K (0+1) (0+1)) q0 hR hn hv rfl;obtain⟨a1,a2,_,_,kz⟩:=ag 0 15 (by decide) (by decide);have sl:=TL (p:=du) (r:=bw s (aS (s:Int) 32) 0) (c:=aJ false K 0 (0+1)) (b:=bi [0] [15]) (ns:=[aS (s:Int) 16]);have c5:=LW G hF hG du (bw s (aS (s:Int) 32) 0) (aJ false K 0 (0+1)) (bi [0] [15]) [aS (s:Int) 16] (by decide) (by decide) (by decide) (by omega) (by omega) (show (1:Nat)≤_ by decide) (fun n hn=>by rw[X9.1 hn]; omega);rw[hR] at c5;obtain⟨R2,⟨z1,z2,z3,z4⟩,v1,v2,v3,v4⟩:=HL (cl:=false) (K:=K) (b:=fJ du (bw s (aS (s:Int) 32) 0) (aJ false K 0 (0+1)) (bi [0] [15]) [aS (s:Int) 16]) (n:=0) (m:=0+1) (k:=1) kl (by decide) hz1 (by decide) (by omega);have c6:=LD G hF hG (aJ false K 0 (0+1)) 1 (fJ du (bw s (aS (s:Int) 32) 0) (aJ false K 0 (0+1)) (bi [0] [15]) [aS (s:Int) 16]) (by omega);rw[z1,z2,z3] at c6;have c7:=LE G hF hG (aJ (!false) K (0+1) 0) R2 (by omega);rw[v1,v2,v3,v4,Bool.not_false] at c7;have c8:=L0 G hF hG (aJ true K (0+1) (0+1)) (bi [0] [15]) (fJ du (bw s (aS (s:Int) 32) 0) (aJ false K 0 (0+1)) (bi [0] [15]) [aS (s:Int) 16]) (by omega) (by omega);rw[a1,a2] at c8;have hh:=Rh s (aS (s:Int) 32) 0;have u32:=lk (z:=0) kz;have w32:=lk (z:=1) kz;rw[hh] at c8;obtain⟨_,o1,_⟩:=TN (s:=s) (t:=3) (k:=0) (seed:=aS (s:Int) 32) (algo:=15) (up:=a7 (aJ false K 0 (0+1)) 0 15 0) (dn:=a7 (aJ false K 0 (0+1)) 0 15 1) (n:=aS (s:Int) 16) (by omega) (by decide) (by decide) (by decide) u32 w32 bl;obtain⟨o2,o3⟩:=o1 (by decide);have cl:=WU (s:=s) (k:=0) (seed:=aS (s:Int) 32) (algo:=15) (up:=a7 (aJ false K 0 (0+1)) 0 15 0) (dn:=a7 (aJ false K 0 (0+1)) 0 15 1) (n:=aS (s:Int) 16) (by omega) (by decide) (by decide) u32 w32 bl;have cw3:=zQ G s 3 (by omega);rw[show (gZ 3 6).toNat=3 from by decide] at cw3;have c9:=WT G (bw s (aS (s:Int) 32) 3) (cG (fS s (aS (s:Int) 32) 0) 15 (a7 (aJ false K 0 (0+1)) 0 15 0) (a7 (aJ false K 0 (0+1)) 0 15 1) (aS (s:Int) 16)) (by rw[rl3]; decide) (by rw[cl]; decide);rw[o2,o3] at c9;dsimp only at c9;have cf:=nG G ((s:Int)+1) 16 (by decide);have fl:(aS ((s:Int)+1) 16).length=16:=k8 _ _;obtain⟨p1,p2⟩:=Mo (cl:=true) (K:=K) (f:=aS ((s:Int)+1) 16) (n:=0+1) (m:=0+1) kl hz1 hz1 (by omega);obtain⟨p3,p4⟩:=Mo (cl:=false) (K:=K) (f:=aS ((s:Int)+1) 16) (n:=0+1) (m:=0+1) kl hz1 hz1 (by omega);have cA:=LA G hF hG (aJ true K (0+1) (0+1)) (aS ((s:Int)+1) 16) (by omega);have cB:=LA G hF hG (aJ false K (0+1) (0+1)) (aS ((s:Int)+1) 16) (by omega);rw[p1,p2] at cA;rw[p3,p4] at cB;have ml:=lc (aS ((s:Int)+1) 16) K;generalize aS ((s:Int)+1) 16=fr at *
  generalize eC fr K=M at *
  have cC:=uq G hF hG (aJ true M 0 0) 0 15;have cD:=uq G hF hG (aJ false M 0 0) 0 15;have cE:=Xq G (aJ true M 0 0) 0 15;have n0:(0:Int)≤0∧(0:Int)≤65535:=by decide
  have n15:(0:Int)≤15∧(15:Int)≤65535:=by decide
  rw[L2 ml hz hz n0 n15,L2 ml hz hz n0 n15,lF (kM ml hz hz) n0 n15] at cC cD cE;have cF:=zO G (aJ true M 0 0);rw[decide_eq_true (kM ml hz hz)] at cF;have s1:=p8 G (bi [0] [15]) (bi [0] [15]);rw[beq_self_eq_true] at s1;have s2:=LJ G (fp M (fq gy oC (eH 0 15 0)) 32) (fp M (fq gy oC (eH 0 15 1)) 32);have s3:=LJ G (a7 (aJ false K 0 (0+1)) 0 15 0) (a7 (aJ false K 0 (0+1)) 0 15 1);clear x1 x2 x3 y1 y2 y3 y4 z1 z2 z3 v1 v2 v3 v4 a1 a2 ag hR hn p1 p2 p3 p4 o1 o2 o3 hh hv u32 w32;unfold nc at c8;simp only[Ya,Yo] at c8;generalize fp M (fq gy oC (eH 0 15 0)) 32=e1 at *
  generalize fp M (fq gy oC (eH 0 15 1)) 32=e2 at *
  generalize fJ du (bw s (aS (s:Int) 32) 0) (aJ false K 0 (0+1)) (bi [0] [15]) [aS (s:Int) 16]=S at *
  generalize cG (fS s (aS (s:Int) 32) 0) 15 (a7 (aJ false K 0 (0+1)) 0 15 0) (a7 (aJ false K 0 (0+1)) 0 15 1) (aS (s:Int) 16)=cook at *
  generalize a7 (aJ false K 0 (0+1)) 0 15 0=U at *
  generalize a7 (aJ false K 0 (0+1)) 0 15 1=W at *
  generalize bi [0] [15]=Q at *
  generalize bw s (aS (s:Int) 32) 0=ring at *
  generalize bw s (aS (s:Int) 32) 3=ring3 at *
  generalize aS (s:Int) 16=N at *
  rw[qw,qw] at c1;rw[qw,qw] at c3 c4 c6 c7 cA cB;rw[qw] at c5 c8 cC cD cE cF;unfold bG fb di at *
  simp only[Ya,Yo,zD] at c2 c5;generalize (aJ true K 0 0).sk=K1 at *
  generalize (aJ true K 0 0).rk=K2 at *
  generalize (aJ false K 0 0).sk=K3 at *
  generalize (aJ false K 0 0).rk=K4 at *
  generalize (aJ true M 0 0).sk=M1 at *
  generalize (aJ true M 0 0).rk=M2 at *
  generalize (aJ false M 0 0).sk=M3 at *
  generalize (aJ false M 0 0).rk=M4 at *
  generalize du.pr.map zD=P1 at *
  generalize du.al.map zD=P2 at *
  generalize du.ho=P3 at *
  generalize du.pt=P4 at *
  simp only[Ii,af,ae,aa,seval,iteOmega,toNatUp];refine sD (c0) ?_;refine sD (c1) ?_;refine sD (c2) ?_;refine sD (c3) ?_;refine sD (c4) ?_;refine sD (cp) ?_;refine sD (cw) ?_;refine sD (cb) ?_;refine sD (c5) ?_;refine sD (c6) ?_;refine sD (c7) ?_;refine sD (c8) ?_;refine sD (s1) ?_;refine sD (cf) ?_;refine sD (cA) ?_;refine sD (cB) ?_;refine sD (cC) ?_;refine sD (cD) ?_;refine sD (cE) ?_;refine sD (cw3) ?_;refine sD (c9) ?_;refine sD (ck) ?_;refine sD (s2) ?_;refine sD (s2) ?_;refine sD (s3) ?_;refine sD (cF) ?_;exact aF
end Go.Proofs.YtlghfnidknfakaaGreatDoor
