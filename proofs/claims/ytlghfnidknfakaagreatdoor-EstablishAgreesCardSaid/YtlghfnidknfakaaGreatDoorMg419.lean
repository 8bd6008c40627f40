/- Texts of one's own, merged: from: Layer 21 on data: the reference: Encode,body,short,Numbers,all,Request,has,Choose,strange. Own work. -/
import Derived.Test.YtlghfnidknfakaaGreatDoorMg417
import Derived.Test.YtlghfnidknfakaaGreatDoorMg410
import Derived.Test.YtlghfnidknfakaaGreatDoorMg418
import Derived.Test.YtlghfnidknfakaaGreatDoorMg416
import Derived.Test.YtlghfnidknfakaaGreatDoorMg47
import Derived.Test.YtlghfnidknfakaaGreatDoorMg414
import Derived.Shelf.Abstract
import Derived.Test.YtlghfnidknfakaaGreatDoorMg415
import Derived.Test.YtlghfnidknfakaaGreatDoorMg49
set_option linter.unusedVariables false
set_option linter.unusedSimpArgs false
namespace Go.Proofs.YtlghfnidknfakaaGreatDoor
open Go.RowKit
open IntWalk
set_option maxHeartbeats 800000
theorem ly {l:List Int} {i:Nat} (h:i<l.length):l[i]?=some (l.getD i 0):=by
  rw[aa0,aaY h]; rfl
theorem tN {l:List Int} {i:Nat} (h:i<l.length):l.getD i 0∈l:=by
  rw[aa0,aaY h];exact aby h
theorem mU {l:List Int} {i:Nat} (h:i<l.length):l.take (i+1)=l.take i++[l.getD i 0]:=by
  rw[acG,ly h]; rfl
def vW (l:List Int) (v:Int) (i:Nat):St:=⟨aT [(0,.w (.c (.d (.sl (l.map zD))))),(1,.w (.c (.d (.int .i64 v)))),(5,.w (.c (.d (.int .i64 (i:Int)))))],hL [],uL []⟩
def tO:aL := .seq (.seq (.reg [oM 6 5,oM 7 0,oO 8 (.len (.t 7)),oO 9 (.bin .lss (.t 6) (.t 8))]) (.cond (.t 9) (.skip) (.exit 0))) (.seq (.block 1 (.seq (.reg [oM 12 0,oM 13 5,oO 14 (.idxSl 1 (.t 12) (.t 13)),oO 15 (.load .sc (.t 14)),oM 16 1,oO 17 (.bin .eql (.t 15) (.t 16))]) (.cond (.t 17) (.seq (.reg [oO 4 (.mv (.k (.c (.d (.bool true)))))]) (.ret)) (.skip)))) (.reg [oM 10 5,oO 11 (.bin .add (.t 10) (kI 1)),oM 5 11]))
def L2:aD:=⟨2,18,.seq (.reg [oO 4 (.mv (.k (.c (.d (.bool false)))))]) (.seq (.seq (.reg [oO 5 (.mv (kI 0))]) (.block 0 (.loop tO))) (.seq (.reg [oO 4 (.mv (.k (.c (.d (.bool false)))))]) (.ret))),[(4,none)]⟩
theorem Xz:aB Tryz.prog { own:=[],comp:=[],frz:=[],nils:=[] } Tryz.f57=some L2:=by kernel_rfl
theorem ZI (G:ah) (l:List Int) (v:Int) (hl:l.length≤9000000000000000000):am Tryz.prog G 57 [.sl (l.map zD),.int .i64 v] (.w (.c (.d (.bool (decide (v∈l)))))):=by
  refine aE Tryz.func57 Xz rfl rfl ?_;simp only[L2,af,ae,aa,seval,iteOmega,toNatUp];refine be (vW l v) (fun i=>l.length-i) (fun i=>i≤l.length∧v∉l.take i) 0 ⟨aa8 _,by rw[ab9]; exact acP⟩ ?_ ?_
  ·refine aA (fun _=>0) ?_ ?_ rfl rfl <;> simp only[wx,aw,aG,aa,seval,iteOmega,toNatUp] <;> first | rfl | exact⟨rfl,rfl⟩ | skip
  ·rintro i ⟨hi,hp⟩;by_cases hlt:i<l.length
   ·have g:=ly hlt;have hm:=tN hlt;have hs:=mU hlt;generalize l.getD i 0=w at *
    by_cases h1:w=v
    ·subst h1;rw[decide_eq_true hm];simp only[tO,vW,ae,aa,seval,iteOmega,toNatUp,aJ,g,zD];exact aF
    ·have g1:=eq_false h1;have hn:v∉l.take (i+1):=by
       rw[hs];intro q;rcases abd.1 q with q | q
       ·exact hp q
       ·exact h1 (aa6.1 q).symm
     simp only[tO,vW,ae,aa,seval,iteOmega,toNatUp,aJ,g,zD,g1];refine aV (i+1) (by omega) ⟨by omega,hn⟩ (aA (fun i=>i) ?_ ?_ rfl rfl) <;> simp only[wx,aw,aG,aa,seval,iteOmega,toNatUp] <;> first | rfl | exact⟨rfl,rfl⟩ | skip
   ·rw[aa2 (by omega)] at hp;rw[decide_eq_false hp];simp only[tO,vW,ae,aa,seval,iteOmega,toNatUp];exact aF
def vX (x y:List Int) (i:Nat):St:=⟨aT [(0,.w (.c (.d (.sl (x.map zD))))),(1,.w (.c (.d (.sl (y.map zD))))),(6,.w (.c (.d (.int .i64 (i:Int)))))],hL [],uL []⟩
theorem L3 {x y:List Int} {i:Nat} (hi:i<x.length) (hn:∀ v∈x.take i,v∉y) (h:x.getD i 0∈y):dj x y=some (x.getD i 0):=by
  have e:x=x.take i++x.getD i 0::x.drop (i+1):=by
    have:=(abE (i+1) x).symm;rw[mU hi,abe] at this;exact this
  have:dj (x.take i++x.getD i 0::x.drop (i+1)) y=some (x.getD i 0):=by
    unfold dj;rw[List.find?_append,List.find?_eq_none.2 (fun v hv q=>hn v hv (of_decide_eq_true q)),List.find?_cons_of_pos (p:=fun v=>decide (v∈y)) (decide_eq_true h)];rfl
  rw[← e] at this;exact this
def tP:aL := .seq (.seq (.reg [oM 7 6,oM 8 0,oO 9 (.len (.t 8)),oO 10 (.bin .lss (.t 7) (.t 9))]) (.cond (.t 10) (.skip) (.exit 0))) (.seq (.block 1 (.seq (.reg [oM 13 1,oM 14 0,oM 15 6,oO 16 (.idxSl 1 (.t 14) (.t 15)),oO 17 (.load .sc (.t 16)),oO 18 (.call 57 [(.t 13),(.t 17)] none)]) (.cond (.t 18) (.seq (.reg [oM 19 0,oM 20 6,oO 21 (.idxSl 1 (.t 19) (.t 20)),oO 22 (.load .sc (.t 21)),oM 4 22,oO 5 (.mv (.k (.c (.d (.bool true)))))]) (.ret)) (.skip)))) (.reg [oM 11 6,oO 12 (.bin .add (.t 11) (kI 1)),oM 6 12]))
def L4:aD:=⟨2,23,.seq (.reg [oO 4 (.mv (kI 0)),oO 5 (.mv (.k (.c (.d (.bool false)))))]) (.seq (.seq (.reg [oO 6 (.mv (kI 0))]) (.block 0 (.loop tP))) (.seq (.reg [oO 4 (.mv (kI 0)),oO 5 (.mv (.k (.c (.d (.bool false)))))]) (.ret))),[(4,none),(5,none)]⟩
theorem XA:aB Tryz.prog { own:=[],comp:=[],frz:=[],nils:=[] } Tryz.f19=some L4:=by kernel_rfl
theorem Ns (G:ah) (x y:List Int) (hx:x.length≤9000000000000000000) (hy:y.length≤9000000000000000000):am Tryz.prog G 19 [.sl (x.map zD),.sl (y.map zD)] (.tup [.c (.d (.int .i64 ((dj x y).getD 0))),.c (.d (.bool (dj x y).isSome))]):=by
  refine aE Tryz.func19 XA rfl rfl ?_;simp only[L4,af,ae,aa,seval,iteOmega,toNatUp];refine be (vX x y) (fun i=>x.length-i) (fun i=>i≤x.length∧∀ v∈x.take i,v∉y) 0 ⟨aa8 _,by rw[ab9]; exact fun v hv=>by cases hv⟩ ?_ ?_
  ·refine aA (fun _=>0) ?_ ?_ rfl rfl <;> simp only[wx,aw,aG,aa,seval,iteOmega,toNatUp] <;> first | rfl | exact⟨rfl,rfl⟩ | skip
  ·rintro i ⟨hi,hp⟩;by_cases hlt:i<x.length
   ·have g:=ly hlt;have hs:=mU hlt;have hat:=L3 hlt hp;have c:=ZI G y (x.getD i 0) hy;generalize x.getD i 0=w at *
    by_cases h1:w∈y
    ·rw[hat h1,abO,ab3];rw[decide_eq_true h1] at c;simp only[tP,vX,ae,aa,seval,iteOmega,toNatUp,aJ,g,zD];refine sC (c) ?_;simp only[aJ,g,zD,ae,aa,seval,iteOmega,toNatUp];exact aY
    ·rw[decide_eq_false h1] at c;have hn:∀ v∈x.take (i+1),v∉y:=by
       rw[hs];intro v q;rcases abd.1 q with q | q
       ·exact hp v q
       ·rw[aa6.1 q]; exact h1
     clear hat;simp only[tP,vX,ae,aa,seval,iteOmega,toNatUp,aJ,g,zD];refine sD (c) ?_;refine aV (i+1) (by omega) ⟨by omega,hn⟩ (aA (fun i=>i) ?_ ?_ rfl rfl) <;> simp only[wx,aw,aG,aa,seval,iteOmega,toNatUp] <;> first | rfl | exact⟨rfl,rfl⟩ | skip
   ·rw[aa2 (by omega)] at hp;have:dj x y=none:=List.find?_eq_none.2 fun v hv q=>hp v hv (of_decide_eq_true q)
    rw[this,abX,acd];simp only[tP,vX,ae,aa,seval,iteOmega,toNatUp];exact aY
theorem ZJ (n:Nat):Int.tmod (n:Int) 2=((n%2:Nat):Int):=rfl
structure Fw where
  p:Nat
  o:List Fd
set_option maxHeartbeats 3200000
theorem uA (key info:List UInt8):i7 key info 32=fa key info 32∧mI 32=0:=⟨lX key info (by decide),nc (by decide)⟩
def qY:aD:=⟨2,31,.seq (.reg [oO 4 (.alloc [.nil]),oO 5 (.mv (kI 0))]) (.seq (.seq (.reg [oM 8 0,oO 9 (.bin .lss (.t 8) (kI 0)),oM 10 9,oG 11 (.mv (.t 0)) 10 false,oG 12 (.bin .gtr (.t 11) (kI 4294967295)) 10 false,oO 13 (.pick (.t 10) (.k (.c (.d (.bool true)))) (.t 12))]) (.cond (.t 13) (.seq (.reg [oO 14 (.build [.nil] []),oN (.store (.ag 1) (.t 4) (.t 14)),oO 5 (.mv (kI 4))]) (.ret)) (.skip))) (.seq (.seq (.reg [oM 15 1,oO 16 (.len (.t 15)),oO 17 (.bin .neq (.t 16) (kI 32))]) (.cond (.t 17) (.seq (.reg [oO 18 (.build [.nil] []),oN (.store (.ag 1) (.t 4) (.t 18)),oO 5 (.mv (kI 5))]) (.ret)) (.skip))) (.seq (.reg [oM 20 1,oO 21 (.bldSl true 13 1 (.int .u8 0) [(0,(.k (.c (.d (.int .u8 115))))),(1,(.k (.c (.d (.int .u8 101))))),(2,(.k (.c (.d (.int .u8 99))))),(3,(.k (.c (.d (.int .u8 116))))),(4,(.k (.c (.d (.int .u8 105))))),(5,(.k (.c (.d (.int .u8 109))))),(6,(.k (.c (.d (.int .u8 101))))),(7,(.k (.c (.d (.int .u8 32))))),(8,(.k (.c (.d (.int .u8 115))))),(9,(.k (.c (.d (.int .u8 116))))),(10,(.k (.c (.d (.int .u8 97))))),(11,(.k (.c (.d (.int .u8 114))))),(12,(.k (.c (.d (.int .u8 116)))))]),
 oO 22 (.markF (.t 21)),oO 23 (.call 101 [(.t 20),(.t 22),(kI 32)] none),oM 19 23,oO 24 (.extract (.t 19) 0),oO 25 (.extract (.t 19) 1),oM 6 24,oM 7 25]) (.seq (.reg [oM 26 0,oM 27 6,oO 28 (.build [(.d (.int .i64 0)),.nil] [(0,1,(.t 26)),(1,1,(.t 27))]),oO 29 (.bldSl false 1 2 (.agg [(.int .i64 0),(.sl [])]) [(0,(.t 28))]),oO 30 (.build [.nil] [(0,1,(.t 29))]),oN (.store (.ag 1) (.t 4) (.t 30)),oO 5 (.mv (kI 0))]) (.ret))))),[(4,(some (.ag 1))),(5,none)]⟩
theorem Vd:aB Tryz.prog { own:=[21],comp:=[],frz:=[22],nils:=[] } Tryz.f60=some qY:=by kernel_rfl
theorem XN (G:ah) (id:Int) (seed:List UInt8) (hs:seed.length≤9223372036854775807):am Tryz.prog G 60 [.int .i64 id,.sl (seed.map bD)] (.tup [.c (.d (bJ (nK id seed))),.c (.d (.int .i64 (jA id seed)))]):=by
  refine aE Tryz.func60 Vd rfl rfl ?_;rcases Int.lt_or_le id 0 with h1 | h1
  ·have e:jA id seed=4:=if_pos (.inl h1);have e2:nK id seed=[]:=if_neg (by rw[e]; decide);rw[e,e2];unfold bJ;simp only[qY,af,ae,aa,seval,iteOmega,toNatUp];exact jr (by simp only[ae,aa,seval,iteOmega,toNatUp] <;> rfl) (by simp only[ae,aa,seval,iteOmega,toNatUp])
  ·rcases Int.lt_or_le 4294967295 id with h2 | h2
   ·have e:jA id seed=4:=if_pos (.inr h2);have e2:nK id seed=[]:=if_neg (by rw[e]; decide);have g:(id>4294967295)=True:=eq_true h2;rw[e,e2];unfold bJ;simp only[qY,af,ae,aa,seval,iteOmega,toNatUp,g];exact jr (by simp only[ae,aa,seval,iteOmega,toNatUp] <;> rfl) (by simp only[ae,aa,seval,iteOmega,toNatUp])
   ·have g:(id>4294967295)=False:=eq_false (by omega);by_cases h3:seed.length=32
    ·have e:jA id seed=0:=by unfold jA; rw[if_neg (by omega),if_neg (by omega)]
     have e2:nK id seed=[⟨id,p7 seed⟩]:=if_pos e;rw[e,e2];have c:=u5 G seed qR (by omega) (by decide) 32 (by decide) (by decide);rw[(uA seed qR).1,(uA seed qR).2,show fa seed qR 32=p7 seed from rfl] at c;generalize p7 seed=K at *
     unfold bJ;simp only[qY,af,ae,aa,seval,iteOmega,toNatUp,g,h3];refine a8 c (by simp only[ae,aa,seval,iteOmega,toNatUp] <;> rfl) (.inl rfl) ?_;simp only[ae,aa,seval,iteOmega,toNatUp];exact jr (by simp only[ae,aa,seval,iteOmega,toNatUp] <;> rfl) (by simp only[ae,aa,seval,iteOmega,toNatUp])
    ·have e:jA id seed=5:=by unfold jA; rw[if_neg (by omega),if_pos h3]
     have e2:nK id seed=[]:=if_neg (by rw[e]; decide);rw[e,e2];unfold bJ;simp only[qY,af,ae,aa,seval,iteOmega,toNatUp,g];exact jr (by simp only[ae,aa,seval,iteOmega,toNatUp] <;> rfl) (by simp only[ae,aa,seval,iteOmega,toNatUp])
theorem XO {l:List Fd} (h:¬ cZ l):iH l=3∧lI l=[]:=by
  have e:iH l=3:=if_neg h;exact⟨e,if_neg (by rw[e]; decide)⟩
theorem XP {l:List Fd} (h:cZ l) {i:Nat} (hi:i<l.length) (h3:i<3) (e:(l.getD i default).ty=fV l):iH l=7∧lI l=[]:=by
  have hc:clash l=true:=by
    unfold clash;rw[ace];refine⟨l.getD i default,?_,decide_eq_true e⟩;rw[aa0,aaY hi];exact List.mem_take_iff_getElem.2 ⟨i,by omega,rfl⟩
  have e7:iH l=7:=by unfold iH; rw[if_pos h,if_pos hc]
  exact⟨e7,if_neg (by rw[e7]; decide)⟩
theorem Mg {l:List Fd} (h:cZ l) {i:Nat} (hi:i≤l.length) (hend:l.length≤i∨3≤i) (hd:∀ j,j<i→(l.getD j default).ty≠fV l) (h3:i≤3):iH l=0∧lI l=lH l::l.take i:=by
  have ht:l.take 3=l.take i:=by
    rcases hend with h | h
    ·rw[aa2 h,aa2 (by omega)]
    ·rw[show i=3 by omega]
  have hc:clash l=false:=by
    unfold clash;rw[ht,ab1];intro f hf;obtain⟨j,hj,rfl⟩:=List.mem_take_iff_getElem.1 hf;have:=hd j (by omega);rw[aa0,aaY (by omega)] at this
    simpa using this
  have e:iH l=0:=by unfold iH; rw[if_pos h,if_neg (by rw[hc]; decide)]
  refine⟨e,?_⟩;unfold lI;rw[if_pos e,ht]
def ft (l:List Fd) (i:Nat):List Fd:=lH l::l.take i
theorem XQ {l:List Fd} {i:Nat} (h:i<l.length):ft l (i+1)=ft l i++[l.getD i default]:=by
  unfold ft;rw[Qv h]; rfl
def Ny (l:List Fd) (i:Nat):St:=⟨aT [(1,.w (.c (.rp [.sl (l.map bY)]))),(2,.w (.c (.ptr 3 1 0 0))),(6,.w (.c (.ptr 1 1 0 0))),(7,.w (.c (.d (.int .i64 (i:Int)))))],hL [(1,.box [.own 2 2 0 (ft l i).length]),(2,.row 2 ((ft l i).map bY)),(3,.box [.nil])],uL [1,2,3]⟩
def qH:aL := .seq (.seq (.reg [oM 34 7,oO 35 (.fieldAddr 0 (.t 1)),oO 36 (.load .sc (.t 35)),oO 37 (.len (.t 36)),oO 38 (.bin .lss (.t 34) (.t 37)),oM 39 38,oG 40 (.mv (.t 7)) 39 true,oG 41 (.bin .lss (.t 40) (kI 3)) 39 true,oO 42 (.pick (.t 39) (.t 41) (.k (.c (.d (.bool false)))))]) (.cond (.t 42) (.skip) (.exit 0))) (.seq (.block 1 (.seq (.seq (.reg [oO 45 (.fieldAddr 0 (.t 1)),oO 46 (.load .sc (.t 45)),oM 47 7,oO 48 (.idxSl 2 (.t 46) (.t 47)),oO 49 (.fieldAddr 0 (.t 48)),oO 50 (.load .sc (.t 49)),oO 51 (.fieldAddr 0 (.t 6)),oO 52 (.load .sc (.t 51)),oO 53 (.idxSl 2 (.t 52) (kI 0)),oO 54 (.fieldAddr 0 (.t 53)),oO 55 (.load .sc (.t 54)),oO 56 (.bin .eql (.t 50) (.t 55))]) (.cond (.t 56) (.seq (.reg [oO 57 (.build [.nil] []),oN (.store (.ag 1) (.t 2) (.t 57)),oO 3 (.mv (kI 7))])
 (.ret)) (.skip))) (.reg [oO 58 (.fieldAddr 0 (.t 6)),oO 59 (.load .sc (.t 58)),oO 60 (.fieldAddr 0 (.t 1)),oO 61 (.load .sc (.t 60)),oM 62 7,oO 63 (.idxSl 2 (.t 61) (.t 62)),oO 64 (.fieldAddr 0 (.t 63)),oO 65 (.load .sc (.t 64)),oO 66 (.fieldAddr 0 (.t 1)),oO 67 (.load .sc (.t 66)),oM 68 7,oO 69 (.idxSl 2 (.t 67) (.t 68)),oO 70 (.fieldAddr 1 (.t 69)),oO 71 (.load .sc (.t 70)),oO 72 (.bldSl false 1 1 (.sl []) [(0,(.t 71))]),oO 73 (.call 43 [(.t 72)] none),oO 74 (.build [(.d (.int .i64 0)),.nil] [(0,1,(.t 65)),(1,1,(.t 73))]),oO 75 (.bldSl false 1 2 (.agg [(.int .i64 0),(.sl [])]) [(0,(.t 74))]),oO 76 (.app false 2 32 (.t 59) (.t 75)),oO 77 (.fieldAddr 0 (.t 6)),oN (.store .sc (.t 77) (.t 76))]))) (.reg [oM 43 7,oO 44 (.bin .add (.t 43) (kI 1)),oM 7 44]))
def zT:aD:=⟨1,79,.seq (.reg [oO 1 (.box .roBox (.t 0)),oO 2 (.alloc [.nil]),oO 3 (.mv (kI 0))]) (.seq (.seq (.reg [oO 8 (.load (.ag 1) (.t 1)),oO 9 (.call 73 [(.t 8)] none),oO 10 (.un .not (.t 9))]) (.cond (.t 10) (.seq (.reg [oO 11 (.build [.nil] []),oN (.store (.ag 1) (.t 2) (.t 11)),oO 3 (.mv (kI 3))]) (.ret)) (.skip))) (.seq (.reg [oO 13 (.fieldAddr 0 (.t 1)),oO 14 (.load .sc (.t 13)),oO 15 (.idxSl 2 (.t 14) (kI 0)),oO 16 (.fieldAddr 1 (.t 15)),oO 17 (.load .sc (.t 16)),oO 18 (.bldSl true 12 1 (.int .u8 0) [(0,(.k (.c (.d (.int .u8 115))))),(1,(.k (.c (.d (.int .u8 101))))),(2,(.k (.c (.d (.int .u8 99))))),(3,(.k (.c (.d (.int .u8 116))))),(4,(.k (.c (.d (.int .u8 105))))),(5,(.k (.c (.d (.int .u8 109))))),(6,(.k (.c (.d (.int .u8 101))))),(7,(.k (.c (.d (.int .u8 32))))),(8,(.k (.c (.d (.int .u8 110))))),(9,(.k (.c (.d (.int .u8 101))))),(10,(.k (.c (.d (.int .u8 120))))),(11,(.k (.c (.d (.int .u8 116)))))]),
 oO 19 (.markF (.t 18)),oO 20 (.call 101 [(.t 17),(.t 19),(kI 32)] none),oM 12 20,oO 21 (.extract (.t 12) 0),oO 22 (.extract (.t 12) 1),oM 4 21,oM 5 22]) (.seq (.reg [oO 23 (.fieldAddr 0 (.t 1)),oO 24 (.load .sc (.t 23)),oO 25 (.idxSl 2 (.t 24) (kI 0)),oO 26 (.fieldAddr 0 (.t 25)),oO 27 (.load .sc (.t 26)),oO 28 (.bin .add (.t 27) (kI 1)),oO 29 (.bin .and (.t 28) (kI 4294967295)),oM 30 4,oO 31 (.build [(.d (.int .i64 0)),.nil] [(0,1,(.t 29)),(1,1,(.t 30))]),oO 32 (.bldSl true 1 2 (.agg [(.int .i64 0),(.sl [])]) [(0,(.t 31))]),oO 33 (.build [.nil] [(0,1,(.t 32))]),oO 6 (.alloc [.nil]),oN (.store (.ag 1) (.t 6) (.t 33))]) (.seq (.seq (.reg [oO 7 (.mv (kI 0))]) (.block 0 (.loop qH))) (.seq (.reg [oO 78 (.load (.ag 1) (.t 6)),oN (.store (.ag 1) (.t 2) (.t 78)),oO 3 (.mv (kI 0))]) (.ret)))))),
 [(2,(some (.ag 1))),(3,none)]⟩
theorem Ve:aB Tryz.prog { own:=[18,32],comp:=[],frz:=[19],nils:=[] } Tryz.f61=some zT:=by kernel_rfl
theorem XR (G:ah) (l:List Fd) (hl:l.length≤9223372036854775807):am Tryz.prog G 61 [bJ l] (.tup [.c (.d (bJ (lI l))),.c (.d (.int .i64 (iH l)))]):=by
  refine aE Tryz.func61 Ve rfl rfl ?_;have c1:=XL G l hl;by_cases hr:cZ l
  ·rw[decide_eq_true hr] at c1;have r1:=hr.1;have r2:=hr.2.1;have g0:=mK (l:=l) (i:=0) (by omega);obtain⟨⟨m1,m2,m3⟩,_⟩:=mh hr (i:=0) (by omega);have c2:=u5 G (l.getD 0 default).da uw (by omega) (by decide) 32 (by decide) (by decide);rw[(uA _ uw).1,(uA [] []).2,show fa (l.getD 0 default).da uw 32=p8 (l.getD 0 default).da from rfl] at c2;have ha:=Q3 ((l.getD 0 default).ty+1);rw[show ((l.getD 0 default).ty+1)%4294967296=fV l from rfl] at ha;have hO0:ft l 0=[⟨fV l,p8 (l.getD 0 default).da⟩]:=rfl;have hOh:∀ i,(ft l i).map bY=.agg [.int .i64 (fV l),.sl ((p8 (l.getD 0 default).da).map bD)]::(l.take i).map bY:=fun i=>rfl
   unfold bJ at *
   generalize hk0:l.getD 0 default=k0 at *
   simp only[zT,af,ae,aa,seval,iteOmega,toNatUp];refine sC (c1) ?_;simp only[aJ,g0,bY,ha,ae,aa,seval,iteOmega,toNatUp];refine sC c2 ?_;simp only[aJ,g0,bY,ha,ae,aa,seval,iteOmega,toNatUp];refine be (Ny l) (fun i=>4-i) (fun i=>i≤l.length∧i≤3∧∀ j,j<i→(l.getD j default).ty≠fV l) 0 ⟨aa8 _,aa8 _,fun j hj=>by omega⟩ ?_ ?_
   ·refine aA (fun i=>if i=1 then 48 else if i=2 then 256 else 16) ?_ ?_ rfl rfl <;> simp only[wx,aw,aG,aa,seval,iteOmega,toNatUp,hO0] <;> first | exact⟨rfl,rfl⟩ | rfl | skip
   ·rintro i ⟨hi,hi3,hd⟩;clear c1 c2;have hOl:(ft l i).length=i+1:=by simp[ft]; omega
    have az:=tD (ft l i);have hhd:(ft l i)[0]?=some (lH l):=rfl;have hty:(lH l).ty=fV l:=rfl;have est:Ny l i=⟨aT [(1,.w (.c (.rp [.sl (l.map bY)]))),(2,.w (.c (.ptr 3 1 0 0))),(6,.w (.c (.ptr 1 1 0 0))),(7,.w (.c (.d (.int .i64 (i:Int)))))],hL [(1,.box [.own 2 2 0 (ft l i).length]),(2,.row 2 ((ft l i).map bY)),(3,.box [.nil])],uL [1,2,3]⟩:=rfl;by_cases hlt:i<l.length
    ·by_cases h3:i<3
     ·have g:=mK hlt;have hs:=XQ hlt;obtain⟨⟨_,_,x3⟩,_⟩:=mh hr hlt;have cj:=oR G [(l.getD i default).da] (by simp) (by rw[acH,acn,abj,x3]; decide);simp only[aa5,abr,acH,acn,abj] at cj;by_cases he:(l.getD i default).ty=fV l
      ·obtain⟨e1,e2⟩:=XP hr hlt h3 he;have ge:((l.getD i default).ty=fV l)=True:=eq_true he;rw[e1,e2,est];clear hd hs hOh hO0 est;generalize ft l i=O at *
       generalize l.getD i default=x at *
       generalize lH l=nf at *
       generalize fV l=ni at *
       simp only[qH,ae,aa,seval,iteOmega,toNatUp,aJ,g,hhd,bY,hty,ge];exact jr (by simp only[ae,aa,seval,iteOmega,toNatUp] <;> rfl) (by simp only[ae,aa,seval,iteOmega,toNatUp])
      ·have ge:((l.getD i default).ty=fV l)=False:=eq_false he;have hd':∀ j,j<i+1→(l.getD j default).ty≠fV l:=fun j hj=>by
         rcases abD j i with h | h
         ·exact hd j h
         ·obtain rfl:j=i:=by omega
          exact he
       rw[est];clear hd hOh hO0 est;generalize hO:ft l i=O at *
       generalize l.getD i default=x at *
       generalize hnf:lH l=nf at *
       generalize hni:fV l=ni at *
       simp only[qH,ae,aa,seval,iteOmega,toNatUp,aJ,g,hhd,bY,hty,ge];refine sC (cj) ?_;simp only[bP,Qu,bY,ae,aa,seval,iteOmega,toNatUp];refine aV (i+1) (by omega) ⟨by omega,by omega,hd'⟩ (aA (fun i=>if i=1 then 1 else if i=2 then 608 else 3) ?_ ?_ rfl rfl) <;> simp only[hs,abn,bY,wx,aw,aG,aa,seval,iteOmega,toNatUp]
     ·obtain⟨e1,e2⟩:=Mg hr hi (.inr (by omega)) hd hi3;have e2:lI l=ft l i:=e2;have g3:((i:Int)<3)=False:=eq_false (by omega);rw[e1,e2,est];clear hd hOh hO0 est;generalize ft l i=O at *
      simp only[qH,ae,aa,seval,iteOmega,toNatUp,g3];exact jr (by simp only[ae,aa,seval,iteOmega,toNatUp] <;> rfl) (by simp only[ae,aa,seval,iteOmega,toNatUp])
    ·obtain⟨e1,e2⟩:=Mg hr hi (.inl (by omega)) hd hi3;have e2:lI l=ft l i:=e2;rw[e1,e2,est];clear hd hOh hO0 est;generalize ft l i=O at *
     simp only[qH,ae,aa,seval,iteOmega,toNatUp];exact jr (by simp only[ae,aa,seval,iteOmega,toNatUp] <;> rfl) (by simp only[ae,aa,seval,iteOmega,toNatUp])
  ·rw[decide_eq_false hr] at c1;obtain⟨e1,e2⟩:=XO hr;rw[e1,e2];unfold bJ at *
   simp only[zT,af,ae,aa,seval,iteOmega,toNatUp];refine sD (c1) ?_;exact jr (by simp only[ae,aa,seval,iteOmega,toNatUp] <;> rfl) (by simp only[ae,aa,seval,iteOmega,toNatUp])
def d8 (a b:List UInt8):D:=.agg [.sl (a.map bD),.sl (b.map bD)]
theorem Vf (m:Fd) (algo:Int) (up dn nonce:List UInt8):[eR m,nonce,im m.da [eR m,nonce] (fF algo up dn)].flatten=bZ m algo up dn nonce:=by
  unfold bZ;simp only[acH,acn,abj]
theorem HD (algo:Int) (up dn:List UInt8):[aO algo.toNat 2,[0,0],up,dn].flatten=fF algo up dn:=by
  unfold fF;simp only[acH,acn,abj]
theorem pg {l:List Fd} {algo:Int} {up dn nonce:List UInt8} {e:Int} (h:jc l algo up dn nonce=e) (he:e≠0):nP l algo up dn nonce=[]:=if_neg (by rw[h]; exact he)
theorem Vg {l:List Fd} {id:Int} {i:Nat} (h:i<l.length) (e:(l.getD i default).ty=id) (hn:∀ j,j<i→(l.getD j default).ty≠id):gN l id=some i:=by
  unfold gN;rw[aci];have eg:∀ k (hk:k<l.length),l[k]=l.getD k default:=fun k hk=>by rw[aa0,aaY hk]; rfl
  refine⟨h,by rw[eg i h]; exact decide_eq_true e,fun j hj=>?_⟩;rw[eg j (by omega),decide_eq_false (hn j hj)];decide
theorem Ti {l:List Fd} {id:Int} (hn:∀ j,j<l.length→(l.getD j default).ty≠id):gN l id=none:=by
  unfold gN;rw[List.findIdx?_eq_none_iff];intro x hx;obtain⟨j,hj,rfl⟩:=abB hx;have:=hn j hj;rw[aa0,aaY hj] at this;exact decide_eq_false this
theorem rx {l:List Fd} {c:List UInt8} {e:Int} (h:fe l c=e) (he:e≠0):jF l c=⟨0,[],[],0⟩:=if_neg (by rw[h]; exact he)
theorem Vh {l:List Fd} {c:List UInt8} {i:Nat} (h:cZ l) (hc:c.length=104) (w:gN l (fW c)=some i):fe l c=if nL (l.getD i default) c then 0 else 6:=by
  unfold fe;rw[if_pos h,if_neg (by omega),w]
def BA (t:Int) (s:Nat) (K:List UInt8) (i:Nat):St:=⟨aT [(1,.w (.c (.d (.int .i64 t)))),(4,.w (.c (.ptr 2 1 0 0))),(5,.w (.c (.ptr 1 1 0 0))),(7,.w (.c (.d (.int .i64 (i:Int)))))],hL [(1,.box [.d (.sl ((bH s K i).map bY))]),(2,.box [.nil])],uL [1,2]⟩
def y7:aL := .seq (.seq (.reg [oM 16 7,oM 17 1,oO 18 (.call 24 [(.t 17),(kI 6)] none),oO 19 (.bin .lss (.t 16) (.t 18))]) (.cond (.t 19) (.skip) (.exit 0))) (.seq (.block 1 (.reg [oO 23 (.load (.ag 1) (.t 5)),oO 24 (.call 61 [(.t 23)] none),oM 22 24,oO 25 (.extract (.t 22) 0),oO 26 (.extract (.t 22) 1),oN (.store (.ag 1) (.t 5) (.t 25))])) (.reg [oM 20 7,oO 21 (.bin .add (.t 20) (kI 1)),oM 7 21]))
def Mh:aD:=⟨2,28,.seq (.reg [oO 4 (.alloc [.nil])]) (.seq (.reg [oM 9 0,oO 10 (.call 24 [(.t 9),(kI 4294967296)] none),oM 11 0,oO 12 (.call 59 [(.t 11)] none),oO 13 (.call 60 [(.t 10),(.t 12)] none),oM 8 13,oO 14 (.extract (.t 8) 0),oO 15 (.extract (.t 8) 1),oO 5 (.alloc [.nil]),oN (.store (.ag 1) (.t 5) (.t 14)),oM 6 15]) (.seq (.seq (.reg [oO 7 (.mv (kI 0))]) (.block 0 (.loop y7))) (.seq (.reg [oO 27 (.load (.ag 1) (.t 5)),oN (.store (.ag 1) (.t 4) (.t 27))]) (.ret)))),[(4,(some (.ag 1)))]⟩
theorem XS:aB Tryz.prog { own:=[],comp:=[],frz:=[],nils:=[] } Tryz.f25=some Mh:=by kernel_rfl
set_option maxHeartbeats 1600000 in
theorem BB (G:ah) (s:Nat) (t:Int) (hs:s≤1000000):am Tryz.prog G 25 [.int .i64 (s:Int),.int .i64 t] (.w (.c (.d (bJ (bH s (aQ s 32) (fw t 6).toNat))))):=by
  refine aE Tryz.func25 XS rfl rfl ?_;have c1:=qP G (s:Int) 4294967296 (by decide);have e1:fw (s:Int) 4294967296=(s:Int):=by unfold fw; rw[if_neg (by decide)]; omega
  rw[e1] at c1;have c2:=Mc G (s:Int);have kl:(aQ s 32).length=32:=lS _ _;have c3:=XN G (s:Int) (aQ s 32) (by omega);obtain⟨q1,q2⟩:=Q2 s (aQ s 32) (by omega) kl;rw[q1,q2] at c3;have c4:=qP G t 6 (by decide);obtain⟨r1,r2⟩:=sK t 6 (by decide);have hstep:∀ i,i<6→am Tryz.prog G _ [bJ (bH s (aQ s 32) i)] (.tup [.c (.d (bJ (bH s (aQ s 32) (i+1)))),.c (.d (.int .i64 0))]):=fun i hi=>by
    have c:=XR G (bH s (aQ s 32) i) (by rw[kP]; omega);obtain⟨a,b⟩:=Tb (s:=s) (seed:=aQ s 32) (t:=i) (by omega);rw[a,b] at c;exact c
  generalize aQ s 32=K at *
  generalize fw t 6=n at *
  unfold bJ at *
  simp only[Mh,af,ae,aa,seval,iteOmega,toNatUp];refine sD (c1) ?_;refine sD (c2) ?_;refine sD (c3) ?_;refine be (BA t s K) (fun i=>n.toNat-i) (fun i=>i≤n.toNat) 0 (aa8 _) ?_ ?_
  ·refine aA (fun i=>if i=1 then 40 else 32) ?_ ?_ rfl rfl <;> simp only[wx,aw,aG,aa,seval,iteOmega,toNatUp]
  ·intro i hi;by_cases hlt:i<n.toNat
   ·have c:=hstep i (by omega);have g:(i:Int)<n:=by omega
    simp only[y7,BA,ae,aa,seval,iteOmega,toNatUp];refine sC (c4) ?_;simp only[g,ae,aa,seval,iteOmega,toNatUp];refine sD (c) ?_;refine aV (i+1) (by omega) (by omega) (aA (fun i=>i) ?_ ?_ rfl rfl) <;> simp only[wx,aw,aG,aa,seval,iteOmega,toNatUp] <;> try rfl
   ·have g:((i:Int)<n)=False:=eq_false (by omega);have e:n.toNat=i:=by omega
    rw[e];simp only[y7,BA,ae,aa,seval,iteOmega,toNatUp];refine sC (c4) ?_;simp only[g,ae,aa,seval,iteOmega,toNatUp];exact aF
def Cy:ByteArray:=⟨#[115,101,99,116,105,109,101,32,107,101,121,115]⟩
def BC (l:List Int) (i:Nat):St:=⟨aT [(3,.w (.c (.own 1 1 0 (aW (l.take i)).length))),(6,.w (.c (.d (.sl (l.map zD))))),(7,.w (.c (.d (.int .i64 (l.length:Int))))),(8,.w (.c (.d (.int .i64 (i:Int)))))],hL [(1,.row 1 ((aW (l.take i)).map bD))],uL [1]⟩
def y8:aL := .seq (.reg [oO 9 (.bin .lss (.t 8) (.t 7))]) (.seq (.cond (.t 9) (.skip) (.exit 0)) (.seq (.block 1 (.seq (.reg [oO 10 (.idxSl 1 (.t 6) (.t 8)),oO 11 (.load .sc (.t 10)),oM 5 11]) (.reg [oM 12 3,oM 13 5,oO 14 (.conv .u64 (.t 13)),oO 15 (.call 91 [(.t 14),(kI 2)] none),oO 16 (.app false 1 1 (.t 12) (.t 15)),oM 3 16]))) (.reg [oO 17 (.bin .add (.t 8) (kI 1)),oM 8 17])))
def Mi:aD:=⟨1,19,.seq (.reg [oO 2 (.mv (.k (.c .nil)))]) (.seq (.reg [oO 3 (.nilOwn 1)]) (.seq (.seq (.reg [oM 6 0,oO 7 (.len (.t 6)),oO 8 (.mv (kI 0))]) (.block 0 (.loop y8))) (.seq (.reg [oM 18 3,oM 2 18]) (.ret)))),[(2,none)]⟩
theorem XT:aB Tryz.prog { own:=[3],comp:=[],frz:=[],nils:=[] } Tryz.f53=some Mi:=by kernel_rfl
theorem ZO (G:ah) (l:List Int) (hl:l.length≤1000000000) (hs:bQ l):am Tryz.prog G 53 [.sl (l.map zD)] (.w (.c (.fr 1 ((aW l).map bD)))):=by
  refine aE Tryz.func53 XT rfl rfl ?_;simp only[Mi,af,ae,aa,seval,iteOmega,toNatUp];refine be (BC l) (fun i=>l.length-i) (fun i=>i≤l.length) 0 (aa8 _) ?_ ?_
  ·refine aA (fun _=>24) ?_ ?_ rfl rfl <;> simp only[wx,aw,aG,aa,seval,iteOmega,toNatUp] <;> first | rfl | exact⟨rfl,rfl⟩ | skip
  ·intro i hi;by_cases hlt:i<l.length
   ·have g:=ly hlt;obtain⟨n1,n2⟩:=hs _ (tN hlt);have e:aW (l.take (i+1))=aW (l.take i)++aO (l.getD i 0).toNat 2:=by
      rw[mU hlt,U5,y6]
      show _++(_++[])=_
      rw[abj]
    have hb:(aW (l.take i)).length≤2000000000:=by rw[fJ,aa4]; omega
    generalize l.getD i 0=v at *
    obtain⟨a,rfl⟩:=abW n1;rw[show ((a:Nat):Int).toNat=a from rfl] at e;have c:=pd G a 2 (by decide);rw[show (2:Int).toNat=2 from rfl] at c;have pl:=cF a 2;generalize aO a 2=P at *
    simp only[y8,BC,ae,aa,seval,iteOmega,toNatUp,aJ,g,zD];refine sC (c) ?_;simp only[pl,bP,ae,aa,seval,iteOmega,toNatUp];refine aV (i+1) (by omega) (by omega) (aA (fun _=>128) ?_ ?_ rfl rfl) <;> simp only[e,pl,wx,aw,aG,aa,seval,iteOmega,toNatUp] <;> first | rfl | exact⟨rfl,rfl⟩ | skip
   ·have:l.take i=l:=aa2 (by omega);simp only[y8,BC,ae,aa,seval,iteOmega,toNatUp,this];exact eH
theorem nD (G:ah) (l:List Int) (hl:l.length≤1000000000) (hs:bQ l):am Tryz.prog G 53 [.sl (l.map zD)] (.w (.c (.d (.sl ((aW l).map bD))))):=mb (ZO G l hl hs)
def rO (l:List Int) (i:Nat):St:=⟨aT [(5,.w (.c (.d (.sl (l.map zD))))),(6,.w (.c (.d (.int .i64 (l.length:Int))))),(7,.w (.c (.d (.int .i64 (i:Int)))))],hL [],uL []⟩
def qT:aL := .seq (.reg [oO 8 (.bin .lss (.t 7) (.t 6))]) (.seq (.cond (.t 8) (.skip) (.exit 0)) (.seq (.block 1 (.seq (.reg [oO 9 (.idxSl 1 (.t 5) (.t 7)),oO 10 (.load .sc (.t 9)),oM 4 10]) (.seq (.reg [oM 11 4,oO 12 (.bin .lss (.t 11) (kI 0)),oM 13 12,oG 14 (.mv (.t 4)) 13 false,oG 15 (.bin .geq (.t 14) (kI 65536)) 13 false,oO 16 (.pick (.t 13) (.k (.c (.d (.bool true)))) (.t 15))]) (.cond (.t 16) (.seq (.reg [oO 2 (.mv (.k (.c (.d (.bool false)))))]) (.ret)) (.skip))))) (.reg [oO 17 (.bin .add (.t 7) (kI 1)),oM 7 17])))
def Mj:aD:=⟨1,18,.seq (.reg [oO 2 (.mv (.k (.c (.d (.bool false)))))]) (.seq (.seq (.reg [oM 5 0,oO 6 (.len (.t 5)),oO 7 (.mv (kI 0))]) (.block 0 (.loop qT))) (.seq (.reg [oO 2 (.mv (.k (.c (.d (.bool true)))))]) (.ret))),[(2,none)]⟩
theorem XU:aB Tryz.prog { own:=[],comp:=[],frz:=[],nils:=[] } Tryz.f50=some Mj:=by kernel_rfl
theorem pI (G:ah) (l:List Int) (hl:l.length≤9000000000000000000):am Tryz.prog G 50 [.sl (l.map zD)] (.w (.c (.d (.bool (decide (bQ l)))))):=by
  refine aE Tryz.func50 XU rfl rfl ?_;simp only[Mj,af,ae,aa,seval,iteOmega,toNatUp];refine be (rO l) (fun i=>l.length-i) (fun i=>i≤l.length∧bQ (l.take i)) 0 ⟨aa8 _,by rw[ab9]; exact fun n hn=>by cases hn⟩ ?_ ?_
  ·refine aA (fun _=>0) ?_ ?_ rfl rfl <;> simp only[wx,aw,aG,aa,seval,iteOmega,toNatUp] <;> first | rfl | exact⟨rfl,rfl⟩ | skip
  ·rintro i ⟨hi,hp⟩;by_cases hlt:i<l.length
   ·have g:=ly hlt;have hm:=tN hlt;have hs:=mU hlt;generalize l.getD i 0=v at *
    by_cases h1:v<0
    ·rw[decide_eq_false (fun q:bQ l=>by have:=q v hm; omega)];have g1:=eq_true h1;simp only[qT,rO,ae,aa,seval,iteOmega,toNatUp,aJ,g,zD,g1];exact aF
    ·have g1:=eq_false h1;by_cases h2:v≥65536
     ·rw[decide_eq_false (fun q:bQ l=>by have:=q v hm; omega)];have g2:=eq_true h2;simp only[qT,rO,ae,aa,seval,iteOmega,toNatUp,aJ,g,zD,g1,g2];exact aF
     ·have g2:=eq_false h2;have hn:bQ (l.take (i+1)):=by
        rw[hs];intro n hn;rcases abd.1 hn with hn | hn
        ·exact hp n hn
        ·rw[aa6.1 hn]; omega
      simp only[qT,rO,ae,aa,seval,iteOmega,toNatUp,aJ,g,zD,g1,g2];refine aV (i+1) (by omega) ⟨by omega,hn⟩ (aA (fun i=>i) ?_ ?_ rfl rfl) <;> simp only[wx,aw,aG,aa,seval,iteOmega,toNatUp] <;> first | rfl | exact⟨rfl,rfl⟩ | skip
   ·rw[aa2 (by omega)] at hp;rw[decide_eq_true hp];simp only[qT,rO,ae,aa,seval,iteOmega,toNatUp];exact aF
def BD (b:List UInt8) (k:Nat):St:=⟨aT [(0,.w (.c (.d (.sl (b.map bD))))),(4,.w (.c (.own 1 1 0 (jG b k).length))),(5,.w (.c (.d (.int .i64 ((2*k:Nat):Int)))))],hL [(1,.row 1 ((jG b k).map zD))],uL [1]⟩
theorem ZP (n:Nat):Int.tdiv (n:Int) 2=((n / 2:Nat):Int):=rfl
def y9:aL := .seq (.seq (.reg [oM 14 5,oM 15 0,oO 16 (.len (.t 15)),oO 17 (.bin .lss (.t 14) (.t 16))]) (.cond (.t 17) (.skip) (.exit 0))) (.seq (.block 1 (.reg [oM 20 4,oM 21 0,oM 22 5,oM 23 5,oO 24 (.bin .add (.t 23) (kI 2)),oO 25 (.slice 1 (.t 21) (some (.t 22)) (some (.t 24)) none),oO 26 (.call 48 [(.t 25)] none),oO 27 (.conv .i64 (.t 26)),oO 28 (.bldSl false 1 1 (.int .i64 0) [(0,(.t 27))]),oO 29 (.app false 1 8 (.t 20) (.t 28)),oM 4 29])) (.reg [oM 18 5,oO 19 (.bin .add (.t 18) (kI 2)),oM 5 19]))
def AH:aD:=⟨1,31,.seq (.reg [oO 2 (.mv (.k (.c .nil))),oO 3 (.mv (.k (.c (.d (.bool false)))))]) (.seq (.seq (.reg [oM 6 0,oO 7 (.len (.t 6)),oO 8 (.bin .rem (.t 7) (kI 2)),oO 9 (.bin .neq (.t 8) (kI 0))]) (.cond (.t 9) (.seq (.reg [oO 2 (.mv (.k (.c .nil))),oO 3 (.mv (.k (.c (.d (.bool false)))))]) (.ret)) (.skip))) (.seq (.reg [oM 10 0,oO 11 (.len (.t 10)),oO 12 (.bin .quo (.t 11) (kI 2)),oO 13 (.make true 1 8 (.int .i64 0) (kI 0) (.t 12)),oM 4 13]) (.seq (.seq (.reg [oO 5 (.mv (kI 0))]) (.block 0 (.loop y9))) (.seq (.reg [oM 30 4,oM 2 30,oO 3 (.mv (.k (.c (.d (.bool true)))))]) (.ret))))),[(2,none),(3,none)]⟩
theorem XV:aB Tryz.prog { own:=[],comp:=[],frz:=[],nils:=[] } Tryz.f14=some AH:=by kernel_rfl
theorem Nz (G:ah) (b:List UInt8) (hb:b.length≤1000000000):am Tryz.prog G 14 [.sl (b.map bD)] (.tup [.c (.d (.sl ((eS b).map zD))),.c (.d (.bool (decide (b.length%2=0))))]):=by
  refine aE Tryz.func14 XV rfl rfl ?_;have t2:=ZJ b.length;have t5:=ZP b.length;have t6:b.length / 2≤500000000:=by omega
  by_cases he:b.length%2=0
  ·have g0:(((b.length%2:Nat):Int)=0)=True:=eq_true (by omega);rw[decide_eq_true he,show eS b=lJ b from if_pos he];have r0:List.replicate (Int.toNat 0) (D.int .i64 0)=([]:List D):=rfl;simp only[AH,af,ae,aa,seval,iteOmega,toNatUp,t2,g0,t5];refine be (BD b) (fun k=>b.length / 2-k) (fun k=>2*k≤b.length) 0 (aa8 _) ?_ ?_
   ·refine aA (fun _=>104) ?_ ?_ rfl rfl <;> simp only[wx,aw,aG,aa,seval,iteOmega,toNatUp] <;> first | rfl | exact⟨rfl,rfl⟩ | skip
   ·intro k hk;have az:=tC (jG b k);have nl:=JG b k;by_cases hlt:2*k<b.length
    ·have l1:(aN b (2*k) 2).length=2:=kG (by omega);have c:=mj G (aN b (2*k) 2) (by omega);have b2:=(jK 2 (aN b (2*k) 2) l1 (by decide)).1;have hs:=Td b k;have hA:nQ b k=(aZ (aN b (2*k) 2):Int):=rfl;have t1:(b.drop (2*k)).take 2=aN b (2*k) 2:=rfl;have t3:(b.drop (2*k)).take (2*k+2-2*k)=aN b (2*k) 2:=by rw[ab8]; rfl
     have e5:2*((k:Int)+1)=2*(k:Int)+2:=by omega
     have g1:(((2*k:Nat):Int)<(b.length:Int))=True:=eq_true (by omega);generalize aZ (aN b (2*k) 2)=N at *
     rw[hA] at hs;simp only[y9,BD,ae,aa,seval,iteOmega,toNatUp,g1,t1,t3];refine sC (c) ?_;simp only[bP,ae,aa,seval,iteOmega,toNatUp];refine aV (k+1) (by omega) (by omega) (aA (fun _=>232) ?_ ?_ rfl rfl) <;> simp only[hs,abn,zD,e5,wx,aw,aG,aa,seval,iteOmega,toNatUp] <;> first | rfl | exact⟨rfl,rfl⟩ | skip
    ·have hk2:k=b.length / 2:=by omega
     have g1:(((2*k:Nat):Int)<(b.length:Int))=False:=eq_false (by omega);subst hk2;unfold lJ;simp only[y9,BD,ae,aa,seval,iteOmega,toNatUp,g1];exact aY
  ·have g0:(((b.length%2:Nat):Int)=0)=False:=eq_false (by omega);rw[decide_eq_false he,show eS b=[] from if_neg he];simp only[AH,af,ae,aa,seval,iteOmega,toNatUp,t2,g0];exact aY
def Mk:aD:=⟨2,8,.seq (.reg [oO 4 (.alloc [(.d (.bool false)),(.d (.int .i64 0)),.nil])]) (.seq (.reg [oM 5 0,oM 6 1,oO 7 (.build [(.d (.bool false)),(.d (.int .i64 0)),.nil] [(0,1,(.k (.c (.d (.bool true))))),(1,1,(.t 5)),(2,1,(.t 6))]),oN (.store (.ag 3) (.t 4) (.t 7))]) (.ret)),[(4,(some (.ag 3)))]⟩
theorem XW:aB Tryz.prog { own:=[],comp:=[],frz:=[],nils:=[] } Tryz.f52=some Mk:=by kernel_rfl
theorem iV (G:ah) (k:Int) (b:List UInt8):am Tryz.prog G 52 [.int .i64 k,.sl (b.map bD)] (.w (.c (.d (.agg [.bool true,.int .i64 k,.sl (b.map bD)])))):=by
  refine aE Tryz.func52 XW rfl rfl ?_;simp only[Mk,af,ae,aa,seval,iteOmega,toNatUp];exact aF
def AJ:aD:=⟨1,22,.seq (.reg [oO 1 (.box .roBox (.t 0)),oO 2 (.mv (.k (.c .nil)))]) (.seq (.reg [oO 4 (.fieldAddr 1 (.t 1)),oO 5 (.load .sc (.t 4)),oM 3 5]) (.seq (.seq (.reg [oO 6 (.fieldAddr 0 (.t 1)),oO 7 (.load .sc (.t 6))]) (.cond (.t 7) (.reg [oM 8 3,oO 9 (.bin .add (.t 8) (kI 32768)),oM 3 9]) (.skip))) (.seq (.reg [oM 10 3,oO 11 (.conv .u64 (.t 10)),oO 12 (.call 91 [(.t 11),(kI 2)] none),oO 13 (.fieldAddr 2 (.t 1)),oO 14 (.load .sc (.t 13)),oO 15 (.len (.t 14)),oO 16 (.conv .u64 (.t 15)),oO 17 (.call 91 [(.t 16),(kI 2)] none),oO 18 (.fieldAddr 2 (.t 1)),oO 19 (.load .sc (.t 18)),oO 20 (.bldSl false 3 1 (.sl []) [(0,(.t 12)),(1,(.t 17)),(2,(.t 19))]),oO 21 (.call 90 [(.t 20)] none),oM 2 21]) (.ret)))),[(2,none)]⟩
theorem XX:aB Tryz.prog { own:=[],comp:=[],frz:=[],nils:=[] } Tryz.f42=some AJ:=by kernel_rfl
theorem ZQ (G:ah) (r:Ek) (h:cS r=0):am Tryz.prog G 42 [aM r] (.w (.c (.d (.sl ((eI r).map bD))))):=by
  refine aE Tryz.func42 XX rfl rfl ?_;obtain⟨h1,h2,h3⟩:=ml h;have hT:iD r=r.ty.toNat+if r.cr=true then 32768 else 0:=rfl
  have hB:eI r=aO (iD r) 2++(aO r.bo.length 2++r.bo):=rfl;generalize eI r=B at *
  generalize iD r=T at *
  obtain⟨cr,ty,bo⟩:=r;dsimp only at *
  obtain⟨a,rfl⟩:=abW h1;rw[show ((a:Nat):Int).toNat=a from rfl] at hT;have c2:=pd G bo.length 2 (by decide);have c1:=pd G T 2 (by decide);rw[show (2:Int).toNat=2 from rfl] at c1 c2;have c3:=fj G [aO T 2,aO bo.length 2,bo] (by simp) (by simp[cF]; omega);rw[show [aO T 2,aO bo.length 2,bo].flatten=B from by rw[hB]; simp] at c3;simp only[aa5,abr] at c3;have hBl:B.length≤70000:=by rw[hB]; simp[cF]; omega
  clear hB;generalize aO T 2=P1 at *
  generalize aO bo.length 2=P2 at *
  unfold aM;cases cr
  ·rw[if_neg Bool.false_ne_true,acg] at hT;subst hT;simp only[AJ,af,ae,aa,seval,iteOmega,toNatUp];refine sD (c1) ?_;refine sD (c2) ?_;refine sD (c3) ?_;exact aF
  ·rw[if_pos rfl] at hT;subst hT;simp only[acv,acA] at c1;simp only[AJ,af,ae,aa,seval,iteOmega,toNatUp];refine sD (c1) ?_;refine sD (c2) ?_;refine sD (c3) ?_;exact aF
def mL (l:List Ek) (i:Nat):St:=⟨aT [(0,.w (.c (.d (.sl (l.map aM))))),(4,.w (.c (.d (.int .i64 ((bh (l.take i)).length:Int))))),(10,.w (.c (.d (.sl (l.map aM))))),(11,.w (.c (.d (.int .i64 (l.length:Int))))),(12,.w (.c (.d (.int .i64 (i:Int)))))],hL [],uL []⟩
def Ce (l:List Ek) (i:Nat):St:=⟨aT [(7,.w (.c (.own 1 1 0 (bh (l.take i)).length))),(42,.w (.c (.d (.sl (l.map aM))))),(43,.w (.c (.d (.int .i64 (l.length:Int))))),(44,.w (.c (.d (.int .i64 (i:Int)))))],hL [(1,.row 1 ((bh (l.take i)).map bD))],uL [1]⟩
theorem HE {l:List Ek} {i:Nat} (h:i<l.length):bh (l.take (i+1))=bh (l.take i)++eI (l.getD i default):=by
  rw[sQ h,Jb,oC,Ja,abj]
theorem XY (l:List Ek) (h:∀ r∈l,r.bo.length≤65535):(bh l).length≤65539*l.length:=by
  induction l with
  | nil=>exact aba _
  | cons r l ih =>
    have:=ih fun x hx=>h x (abq _ hx)
    have:=h r abC;rw[oC,aa1,oS,abR];omega
theorem Vi (l:List Ek) (i:Nat):(bh (l.take i)).length≤(bh l).length:=by
  have:=congrArg List.length (show bh (l.take i++l.drop i)=_ from Jb _ _);rw[abE,aa1] at this;omega
def lV:aL := .seq (.reg [oO 13 (.bin .lss (.t 12) (.t 11))]) (.seq (.cond (.t 13) (.skip) (.exit 0)) (.seq (.block 1 (.seq (.reg [oO 14 (.idxSl 3 (.t 10) (.t 12)),oO 15 (.load (.ag 3) (.t 14)),oO 6 (.alloc [(.d (.bool false)),(.d (.int .i64 0)),.nil]),oN (.store (.ag 3) (.t 6) (.t 15))]) (.seq (.seq (.reg [oO 16 (.fieldAddr 1 (.t 6)),oO 17 (.load .sc (.t 16)),oO 18 (.bin .lss (.t 17) (kI 0)),oM 19 18,oG 20 (.fieldAddr 1 (.t 6)) 19 false,oG 21 (.load .sc (.t 20)) 19 false,oG 22 (.bin .geq (.t 21) (kI 32768)) 19 false,oO 23 (.pick (.t 19) (.k (.c (.d (.bool true)))) (.t 22))]) (.cond (.t 23) (.seq (.reg [oO 2 (.mv (.k (.c .nil))),oO 3 (.mv (kI 4))]) (.ret)) (.skip))) (.seq (.seq (.reg [oO 24 (.fieldAddr 2 (.t 6)),oO 25 (.load .sc (.t 24)),oO 26 (.len (.t 25)),oO 27 (.bin .gtr (.t 26) (kI 65535))])
 (.cond (.t 27) (.seq (.reg [oO 2 (.mv (.k (.c .nil))),oO 3 (.mv (kI 2))]) (.ret)) (.skip))) (.reg [oM 28 4,oO 29 (.fieldAddr 2 (.t 6)),oO 30 (.load .sc (.t 29)),oO 31 (.len (.t 30)),oO 32 (.bin .add (kI 4) (.t 31)),oO 33 (.bin .add (.t 28) (.t 32)),oM 4 33]))))) (.reg [oO 34 (.bin .add (.t 12) (kI 1)),oM 12 34])))
def za:aL := .seq (.reg [oO 45 (.bin .lss (.t 44) (.t 43))]) (.seq (.cond (.t 45) (.skip) (.exit 2)) (.seq (.block 3 (.seq (.reg [oO 46 (.idxSl 3 (.t 42) (.t 44)),oO 47 (.load (.ag 3) (.t 46)),oO 9 (.alloc [(.d (.bool false)),(.d (.int .i64 0)),.nil]),oN (.store (.ag 3) (.t 9) (.t 47))]) (.reg [oM 48 7,oO 49 (.load (.ag 3) (.t 9)),oO 50 (.call 42 [(.t 49)] none),oO 51 (.app false 1 1 (.t 48) (.t 50)),oM 7 51]))) (.reg [oO 52 (.bin .add (.t 44) (kI 1)),oM 44 52])))
def Ml:aD:=⟨1,54,.seq (.reg [oO 2 (.mv (.k (.c .nil))),oO 3 (.mv (kI 0))]) (.seq (.reg [oO 4 (.mv (kI 0))]) (.seq (.seq (.reg [oM 10 0,oO 11 (.len (.t 10)),oO 12 (.mv (kI 0))]) (.block 0 (.loop lV))) (.seq (.seq (.reg [oM 35 0,oO 36 (.len (.t 35)),oO 37 (.bin .gtr (.t 36) (kI 64))]) (.cond (.t 37) (.seq (.reg [oO 2 (.mv (.k (.c .nil))),oO 3 (.mv (kI 8))]) (.ret)) (.skip))) (.seq (.seq (.reg [oM 38 4,oO 39 (.bin .gtr (.t 38) (kI 65535))]) (.cond (.t 39) (.seq (.reg [oO 2 (.mv (.k (.c .nil))),oO 3 (.mv (kI 2))]) (.ret)) (.skip))) (.seq (.reg [oM 40 4,oO 41 (.make true 1 1 (.int .u8 0) (kI 0) (.t 40)),oM 7 41]) (.seq (.seq (.reg [oM 42 0,oO 43 (.len (.t 42)),oO 44 (.mv (kI 0))]) (.block 2 (.loop za))) (.seq (.reg [oM 53 7,oM 2 53,oO 3 (.mv (kI 0))]) (.ret)))))))),[(2,none),(3,none)]⟩
theorem XZ:aB Tryz.prog { own:=[],comp:=[],frz:=[],nils:=[] } Tryz.f10=some Ml:=by kernel_rfl
theorem NA (G:ah) (l:List Ek) (hl:l.length≤1000000) (hb:∀ r∈l,r.bo.length≤1000000000000):am Tryz.prog G 10 [.sl (l.map aM)] (.tup [.c (.fr 1 ((kw l).map bD)),.c (.d (.int .i64 (dX l)))]):=by
  refine aE Tryz.func10 XZ rfl rfl ?_;simp only[Ml,af,ae,aa,seval,iteOmega,toNatUp];refine be (mL l) (fun i=>l.length-i) (fun i=>i≤l.length∧eJ (l.take i)=0) 0 ⟨aa8 _,by rw[ab9]; rfl⟩ ?_ ?_
  ·refine aA (fun _=>0) ?_ ?_ rfl rfl <;> simp only[wx,aw,aG,aa,seval,iteOmega,toNatUp] <;> first | rfl | exact⟨rfl,rfl⟩ | skip
  ·rintro i ⟨hi,hW⟩;have hA:=XY (l.take i) fun r hr=>(ml (vI.1 hW r hr)).2.2
   rw[aa4,acV hi] at hA;by_cases hlt:i<l.length
   ·have g:=ll hlt;have hm:=hb _ (jP hlt);have hst:=R5 hlt hW;have hnx:=G3 hlt hW;have hno:∀ e,cS (l.getD i default)=e→e≠0→dX l=e∧kw l=[]:=fun e h1 h2=>by
      have h3:=hst (by rw[h1]; exact h2);have h4:dX l=e:=by unfold dX; rw[if_neg (by rw[h3,h1]; exact h2),h3,h1]
      exact⟨h4,if_neg (by rw[h4]; exact h2)⟩
    have hF:cS (l.getD i default)=if (l.getD i default).ty<0∨32767<(l.getD i default).ty then 4 else if 65535<(l.getD i default).bo.length then 2 else 0:=rfl
    have eA:((bh (l.take (i+1))).length:Int)=((bh (l.take i)).length:Int)+(4+((l.getD i default).bo.length:Int)):=by
      rw[HE hlt,aa1,oS]; omega
    generalize hx:l.getD i default=x at *
    generalize cS x=f at *
    generalize hAq:(bh (l.take i)).length=A at *
    obtain⟨cr,ty,bo⟩:=x;dsimp only at *
    by_cases h1:ty<0
    ·have g1:=eq_true h1;obtain⟨q1,q2⟩:=hno 4 (by rw[hF,if_pos (.inl h1)]) (by decide);rw[q1,q2];clear hst hnx hno eA;simp only[lV,mL,hAq,ae,aa,seval,iteOmega,toNatUp,aJ,g,aM,g1];exact dQ
    ·have g1:=eq_false h1;by_cases h2:ty≥32768
     ·have g2:=eq_true h2;obtain⟨q1,q2⟩:=hno 4 (by rw[hF,if_pos (.inr (by omega))]) (by decide);rw[q1,q2];clear hst hnx hno eA;simp only[lV,mL,hAq,ae,aa,seval,iteOmega,toNatUp,aJ,g,aM,g1,g2];exact dQ
     ·have g2:=eq_false h2;rw[if_neg (by omega)] at hF;by_cases h3:65535<bo.length
      ·have g3:((bo.length:Int)>65535)=True:=eq_true (by omega);obtain⟨q1,q2⟩:=hno 2 (by rw[hF,if_pos h3]) (by decide);rw[q1,q2];clear hst hnx hno eA;simp only[lV,mL,hAq,ae,aa,seval,iteOmega,toNatUp,aJ,g,aM,g1,g2,g3];exact dQ
      ·have g3:((bo.length:Int)>65535)=False:=eq_false (by omega);rw[if_neg h3] at hF;subst hF;clear hst hno;simp only[lV,mL,hAq,ae,aa,seval,iteOmega,toNatUp,aJ,g,aM,g1,g2,g3];refine aV (i+1) (by omega) ⟨by omega,by rw[hnx]⟩ (aA (fun i=>i) ?_ ?_ rfl rfl) <;> simp only[eA,wx,aw,aG,aa,seval,iteOmega,toNatUp] <;> first | rfl | exact⟨rfl,rfl⟩ | skip
   ·obtain rfl:i=l.length:=by omega
    rw[acm] at hW hA;by_cases h4:64<l.length
    ·have e:dX l=8:=by unfold dX; rw[if_pos hW,if_pos h4]
     rw[show kw l=[] from if_neg (by rw[e]; decide),e];have g4:((l.length:Int)>64)=True:=eq_true (by omega);simp only[lV,mL,ae,aa,seval,iteOmega,toNatUp,g4];exact dQ
    ·have g4:((l.length:Int)>64)=False:=eq_false (by omega);by_cases h5:(bh l).length≤65535
     ·have e:dX l=0:=by unfold dX; rw[if_pos hW,if_neg h4,if_neg (by omega)]
      rw[show kw l=bh l from if_pos e,e];have g5:(((bh l).length:Int)>65535)=False:=eq_false (by omega);have r0:List.replicate (Int.toNat 0) (D.int .u8 0)=([]:List D):=rfl;simp only[lV,mL,ae,aa,seval,iteOmega,toNatUp,g4,g5,r0];refine be (Ce l) (fun i=>l.length-i) (fun i=>i≤l.length) 0 (aa8 _) ?_ ?_
      ·refine aA (fun _=>328) ?_ ?_ rfl rfl <;> simp only[wx,aw,aG,aa,seval,iteOmega,toNatUp] <;> first | rfl | exact⟨rfl,rfl⟩ | skip
      ·intro i hi;by_cases hlt:i<l.length
       ·have g:=ll hlt;have c:=ZQ G (l.getD i default) (vI.1 hW _ (jP hlt));have ha:=HE hlt;have h1:=Vi l (i+1);rw[ha,aa1] at h1;unfold aM at c;generalize l.getD i default=x at *
        generalize eI x=B at *
        generalize hAq:bh (l.take i)=A at *
        simp only[za,Ce,hAq,ae,aa,seval,iteOmega,toNatUp,aJ,g,aM];refine sC (c) ?_;simp only[bP,ae,aa,seval,iteOmega,toNatUp];refine aV (i+1) (by omega) (by omega) (aA (fun _=>408) ?_ ?_ rfl rfl) <;> simp only[ha,wx,aw,aG,aa,seval,iteOmega,toNatUp] <;> first | rfl | exact⟨rfl,rfl⟩ | skip
       ·have hil:l.take i=l:=aa2 (by omega);simp only[za,Ce,ae,aa,seval,iteOmega,toNatUp,hil];exact dQ
     ·have e:dX l=2:=by unfold dX; rw[if_pos hW,if_neg h4,if_pos (by omega)]
      rw[show kw l=[] from if_neg (by rw[e]; decide),e];have g5:(((bh l).length:Int)>65535)=True:=eq_true (by omega);simp only[lV,mL,ae,aa,seval,iteOmega,toNatUp,g4,g5];exact dQ
theorem NB (G:ah) (l:List Ek) (hl:l.length≤1000000) (hb:∀ r∈l,r.bo.length≤1000000000000):am Tryz.prog G 10 [.sl (l.map aM)] (.tup [.c (.d (.sl ((kw l).map bD))),.c (.d (.int .i64 (dX l)))]):=qW (NA G l hl hb)
def va:aD:=⟨1,18,.seq (.reg [oO 2 (.mv (kI 0)),oO 3 (.mv (.k (.c (.d (.bool false)))))]) (.seq (.seq (.reg [oM 5 0,oO 6 (.len (.t 5)),oO 7 (.bin .lss (.t 6) (kI 4))]) (.cond (.t 7) (.seq (.reg [oO 2 (.mv (kI 0)),oO 3 (.mv (.k (.c (.d (.bool false)))))]) (.ret)) (.skip))) (.seq (.reg [oM 8 0,oO 9 (.slice 1 (.t 8) (some (kI 2)) (some (kI 4)) none),oO 10 (.call 48 [(.t 9)] none),oO 11 (.conv .i64 (.t 10)),oO 12 (.bin .add (kI 4) (.t 11)),oM 4 12]) (.seq (.reg [oM 13 4,oM 14 4,oM 15 0,oO 16 (.len (.t 15)),oO 17 (.bin .leq (.t 14) (.t 16)),oM 2 13,oM 3 17]) (.ret)))),[(2,none),(3,none)]⟩
theorem X0:aB Tryz.prog { own:=[],comp:=[],frz:=[],nils:=[] } Tryz.f45=some va:=by kernel_rfl
theorem ZR (G:ah) (b:List UInt8) (hb:b.length≤1000000000000):am Tryz.prog G 45 [.sl (b.map bD)] (.tup [.c (.d (.int .i64 (if b.length<4 then 0 else ((4+cN b:Nat):Int)))),.c (.d (.bool (decide (4≤b.length∧4+cN b≤b.length))))]):=by
  refine aE Tryz.func45 X0 rfl rfl ?_;by_cases h:b.length<4
  ·rw[if_pos h,decide_eq_false (by omega)];have g:((b.length:Int)<4)=True:=eq_true (by omega);simp only[va,af,ae,aa,seval,iteOmega,toNatUp,g];exact aY
  ·rw[if_neg h];have g:((b.length:Int)<4)=False:=eq_false (by omega);have l3:(aN b 2 2).length=2:=kG (by omega);have b3:=(jK 2 (aN b 2 2) l3 (by decide)).1;have c:=mj G (aN b 2 2) (by omega);have hN:cN b=aZ (aN b 2 2):=rfl;have t1:(b.drop 2).take 2=aN b 2 2:=rfl;have t2:(b.drop 2).take (4-2)=aN b 2 2:=rfl;generalize aZ (aN b 2 2)=N at *
   rw[hN];by_cases h2:4+N≤b.length
   ·rw[decide_eq_true (by omega)];have g2:((4:Int)+(N:Int)≤(b.length:Int))=True:=eq_true (by omega);simp only[va,af,ae,aa,seval,iteOmega,toNatUp,g,t1,t2];refine sC (c) ?_;simp only[g2,ae,aa,seval,iteOmega,toNatUp];exact aY
   ·rw[decide_eq_false (by omega)];have g2:((4:Int)+(N:Int)≤(b.length:Int))=False:=eq_false (by omega);simp only[va,af,ae,aa,seval,iteOmega,toNatUp,g,t1,t2];refine sC (c) ?_;simp only[g2,ae,aa,seval,iteOmega,toNatUp];exact aY
def xi (b:List UInt8):Ek:=⟨decide (32768≤(aZ (b.take 2):Int)),(aZ (b.take 2):Int)%32768,b.drop 4⟩
theorem ZS (n:Nat):Int.tmod (n:Int) 32768=(n:Int)%32768:=rfl
def AK:aD:=⟨1,17,.seq (.reg [oO 2 (.alloc [(.d (.bool false)),(.d (.int .i64 0)),.nil])]) (.seq (.reg [oM 4 0,oO 5 (.slice 1 (.t 4) none (some (kI 2)) none),oO 6 (.call 48 [(.t 5)] none),oO 7 (.conv .i64 (.t 6)),oM 3 7]) (.seq (.reg [oM 8 3,oO 9 (.bin .geq (.t 8) (kI 32768)),oM 10 3,oO 11 (.bin .rem (.t 10) (kI 32768)),oM 12 0,oO 13 (.slice 1 (.t 12) (some (kI 4)) none none),oO 14 (.bldSl false 1 1 (.sl []) [(0,(.t 13))]),oO 15 (.call 90 [(.t 14)] none),oO 16 (.build [(.d (.bool false)),(.d (.int .i64 0)),.nil] [(0,1,(.t 9)),(1,1,(.t 11)),(2,1,(.t 15))]),oN (.store (.ag 3) (.t 2) (.t 16))]) (.ret))),[(2,(some (.ag 3)))]⟩
theorem X1:aB Tryz.prog { own:=[],comp:=[],frz:=[],nils:=[] } Tryz.f46=some AK:=by kernel_rfl
theorem ZT (G:ah) (b:List UInt8) (hb:b.length≤1000000000000) (h4:4≤b.length):am Tryz.prog G 46 [.sl (b.map bD)] (.w (.c (.d (aM (xi b))))):=by
  refine aE Tryz.func46 X1 rfl rfl ?_;have l3:(b.take 2).length=2:=by rw[aa4]; omega
  have b3:=(jK 2 (b.take 2) l3 (by decide)).1;have c:=mj G (b.take 2) (by omega);have cj:=fj G [b.drop 4] (by simp) (by simp; omega);rw[show [b.drop 4].flatten=b.drop 4 from by simp] at cj;simp only[aa5,abr] at cj;have dl:(b.drop 4).length=b.length-4:=aa9;have t1:(b.drop 4).take (b.length-4)=b.drop 4:=aa2 (by omega);unfold xi aM;generalize aZ (b.take 2)=K at *
  have hm:=ZS K;generalize hB:b.drop 4=B at *
  generalize hA:b.take 2=A at *
  by_cases hk:(K:Int)≥32768
  ·have gk:=eq_true hk;rw[decide_eq_true (show (32768:Int)≤K from hk)];simp only[AK,af,ae,aa,seval,iteOmega,toNatUp,hA];refine sC (c) ?_;simp only[hm,hB,t1,gk,ae,aa,seval,iteOmega,toNatUp];refine sC (cj) ?_;simp only[hm,hB,t1,gk,ae,aa,seval,iteOmega,toNatUp];exact aF
  ·have gk:=eq_false hk;rw[decide_eq_false (show ¬ (32768:Int)≤K from hk)];simp only[AK,af,ae,aa,seval,iteOmega,toNatUp,hA];refine sC (c) ?_;simp only[hm,hB,t1,gk,ae,aa,seval,iteOmega,toNatUp];refine sC (cj) ?_;simp only[hm,hB,t1,gk,ae,aa,seval,iteOmega,toNatUp];exact aF
structure Dw where
  r:List UInt8
  o:List Fd
def pJ (t:Dw):St:=⟨aT [(0,.w (.c (.d (.sl (t.r.map bD))))),(4,.w (.c (.own 1 3 0 t.o.length)))],hL [(1,.row 3 ((t.o.map eC).map aM))],uL [1]⟩
theorem X2 {r:List UInt8} (h1:¬ r.length<4) (h2:¬ r.length-4<cN r):xi (r.take (4+cN r))=eC (fT r):=by
  have e1:(r.take (4+cN r)).take 2=r.take 2:=by rw[List.take_take,acV (by omega)]
  have e2:(r.take (4+cN r)).drop 4=aN r 4 (cN r):=by rw[List.drop_take,ab8]; rfl
  unfold xi eC fT;rw[e1,e2]
theorem Vj {b r:List UInt8} {o:List Fd} (hd:dR b=(dR r).map (o++·)) (h1:¬ r.length<4) (h2:¬ r.length-4<cN r):dR b=(dR (r.drop (4+cN r))).map ((o++[fT r])++·):=by
  rw[hd,Am h1 h2,Option.map_map]
  congr 1
  funext x
  simp
def oH:aL := .seq (.seq (.reg [oM 10 0,oO 11 (.len (.t 10)),oO 12 (.bin .gtr (.t 11) (kI 0))]) (.cond (.t 12) (.skip) (.exit 0))) (.block 1 (.seq (.reg [oM 14 0,oO 15 (.call 45 [(.t 14)] none),oM 13 15,oO 16 (.extract (.t 13) 0),oO 17 (.extract (.t 13) 1),oM 5 16,oM 6 17]) (.seq (.seq (.reg [oM 18 6,oO 19 (.un .not (.t 18))]) (.cond (.t 19) (.seq (.reg [oO 2 (.mv (.k (.c .nil))),oO 3 (.mv (kI 1))]) (.ret)) (.skip))) (.seq (.reg [oM 20 4,oM 21 0,oM 22 5,oO 23 (.slice 1 (.t 21) none (some (.t 22)) none),oO 24 (.call 46 [(.t 23)] none),oO 25 (.bldSl false 1 3 (.agg [(.bool false),(.int .i64 0),(.sl [])]) [(0,(.t 24))]),oO 26 (.app false 3 40 (.t 20) (.t 25)),oM 4 26]) (.reg [oM 27 0,oM 28 5,oO 29 (.slice 1 (.t 27) (some (.t 28)) none none),oM 0 29])))))
def AL:aD:=⟨1,34,.seq (.reg [oO 2 (.mv (.k (.c .nil))),oO 3 (.mv (kI 0))]) (.seq (.seq (.reg [oM 7 0,oO 8 (.len (.t 7)),oO 9 (.bin .gtr (.t 8) (kI 65535))]) (.cond (.t 9) (.seq (.reg [oO 2 (.mv (.k (.c .nil))),oO 3 (.mv (kI 2))]) (.ret)) (.skip))) (.seq (.reg [oO 4 (.nilOwn 3)]) (.seq (.block 0 (.loop oH)) (.seq (.seq (.reg [oM 30 4,oO 31 (.len (.t 30)),oO 32 (.bin .gtr (.t 31) (kI 64))]) (.cond (.t 32) (.seq (.reg [oO 2 (.mv (.k (.c .nil))),oO 3 (.mv (kI 8))]) (.ret)) (.skip))) (.seq (.reg [oM 33 4,oM 2 33,oO 3 (.mv (kI 0))]) (.ret)))))),[(2,none),(3,none)]⟩
theorem X3:aB Tryz.prog { own:=[4],comp:=[],frz:=[],nils:=[] } Tryz.f12=some AL:=by kernel_rfl
theorem ZU (G:ah) (b:List UInt8) (hb:b.length≤1000000000):am Tryz.prog G 12 [.sl (b.map bD)] (.tup [.c (.d (.sl ((aI b).map aM))),.c (.d (.int .i64 (dY b)))]):=by
  refine aE Tryz.func12 X3 rfl rfl ?_;by_cases h0:65535<b.length
  ·have g0:((b.length:Int)>65535)=True:=eq_true (by omega);have e1:iE b=2:=if_pos h0;have e2:dY b=2:=by unfold dY; rw[e1]; rfl
   rw[e2,show aI b=[] from if_neg (by rw[e2]; decide)];simp only[AL,af,ae,aa,seval,iteOmega,toNatUp,g0];exact aY
  ·have g0:((b.length:Int)>65535)=False:=eq_false (by omega);simp only[AL,af,ae,aa,seval,iteOmega,toNatUp,g0];refine be pJ (fun t=>t.r.length) (fun t=>t.r.length+t.o.length≤b.length∧dR b=(dR t.r).map (t.o++·)) ⟨b,[]⟩ ⟨aba _,by cases dR b <;> rfl⟩ ?_ ?_
   ·refine aA (fun _=>32) ?_ ?_ rfl rfl <;> simp only[wx,aw,aG,aa,seval,iteOmega,toNatUp] <;> first | rfl | exact⟨rfl,rfl⟩ | skip
   ·rintro⟨r,o⟩ ⟨hol,hd⟩;dsimp only at hol hd;have az:=oB (o.map eC);have ol:(o.map eC).length=o.length:=aa7 ..;by_cases hlt:0<r.length
    ·have g1:((r.length:Int)>0)=True:=eq_true (by omega);have c:=ZR G r (by omega);by_cases h1:r.length<4
     ·rw[if_pos h1,decide_eq_false (by omega)] at c;rw[Jd (by omega) h1] at hd;have e1:iE b=1:=by unfold iE; rw[if_neg h0,hd]; rfl
      have e2:dY b=1:=by unfold dY; rw[e1]; rfl
      rw[e2,show aI b=[] from if_neg (by rw[e2]; decide)];simp only[oH,pJ,ae,aa,seval,iteOmega,toNatUp,g1];refine sD (c) ?_;exact aY
     ·rw[if_neg h1] at c;by_cases h2:r.length-4<cN r
      ·rw[decide_eq_false (by omega)] at c;rw[EG h1 h2] at hd;have e1:iE b=1:=by unfold iE; rw[if_neg h0,hd]; rfl
       have e2:dY b=1:=by unfold dY; rw[e1]; rfl
       rw[e2,show aI b=[] from if_neg (by rw[e2]; decide)];simp only[oH,pJ,ae,aa,seval,iteOmega,toNatUp,g1];refine sD (c) ?_;exact aY
      ·rw[decide_eq_true (by omega)] at c;have hd2:=Vj hd h1 h2;have hr:=X2 h1 h2;have tl:(r.take (4+cN r)).length=4+cN r:=by rw[aa4]; omega
       have dl:(r.drop (4+cN r)).length=r.length-(4+cN r):=aa9;have c2:=ZT G (r.take (4+cN r)) (by omega) (by omega);rw[hr] at c2;have eo:((o++[fT r]).map eC).map aM=(o.map eC).map aM++[aM (eC (fT r))]:=by simp
       have lo:(o++[fT r]).length=o.length+1:=by simp
       have cz:(aM (eC (fT r))).cells.length=3:=rfl;have t3:(r.drop (4+cN r)).take (r.length-(4+cN r))=r.drop (4+cN r):=aa2 (by omega);generalize hR:o++[fT r]=O at *
       generalize aM (eC (fT r))=E at *
       generalize hK:4+cN r=K at *
       simp only[oH,pJ,ae,aa,seval,iteOmega,toNatUp,g1];refine sC (c) ?_;simp only[bP,ae,aa,seval,iteOmega,toNatUp];refine sC (c2) ?_;simp only[bP,cz,t3,ae,aa,seval,iteOmega,toNatUp];refine aV (⟨r.drop K,O⟩:Dw) (by dsimp only; omega) ⟨by dsimp only; omega,by dsimp only; exact hd2⟩ (aA (fun _=>208) ?_ ?_ rfl rfl) <;> simp only[eo,lo,wx,aw,aG,aa,seval,iteOmega,toNatUp] <;> first | rfl | exact⟨rfl,rfl⟩ | skip
    ·have g1:((r.length:Int)>0)=False:=eq_false (by omega);obtain rfl:r=[]:=abz.1 (by omega);rw[um] at hd;have hd:dR b=some o:=by rw[hd]; simp
     have e1:iE b=0:=by unfold iE; rw[if_neg h0,hd]; rfl
     have e2:lE b=o:=by unfold lE; rw[if_neg h0,hd]; rfl
     by_cases h64:64<o.length
     ·have e3:dY b=8:=by unfold dY; rw[if_pos e1,e2,if_pos h64]
      rw[e3,show aI b=[] from if_neg (by rw[e3]; decide)];have g2:((o.length:Int)>64)=True:=eq_true (by omega);simp only[oH,pJ,ae,aa,seval,iteOmega,toNatUp,g1,g2,ol];exact aY
     ·have e3:dY b=0:=by unfold dY; rw[if_pos e1,e2,if_neg h64]
      rw[e3,show aI b=o.map eC from by unfold aI; rw[if_pos e3,e2]];have g2:((o.length:Int)>64)=False:=eq_false (by omega);simp only[oH,pJ,ae,aa,seval,iteOmega,toNatUp,g1,g2,ol];exact aY
def vf:aD:=⟨1,11,.seq (.reg [oO 2 (.mv (.k (.c (.d (.bool false)))))]) (.seq (.reg [oM 3 0,oO 4 (.len (.t 3)),oO 5 (.bin .geq (.t 4) (kI 1)),oM 6 5,oG 7 (.mv (.t 0)) 6 true,oG 8 (.len (.t 7)) 6 true,oG 9 (.bin .leq (.t 8) (kI 16)) 6 true,oO 10 (.pick (.t 6) (.t 9) (.k (.c (.d (.bool false))))),oM 2 10]) (.ret)),[(2,none)]⟩
theorem X4:aB Tryz.prog { own:=[],comp:=[],frz:=[],nils:=[] } Tryz.f51=some vf:=by kernel_rfl
theorem NC (G:ah) (l:List Int) (hl:l.length≤9000000000000000000):am Tryz.prog G 51 [.sl (l.map zD)] (.w (.c (.d (.bool (decide (1≤l.length∧l.length≤16)))))):=by
  refine aE Tryz.func51 X4 rfl rfl ?_;by_cases h1:1≤l.length
  ·have g1:((l.length:Int)≥1)=True:=eq_true (by omega);by_cases h2:l.length≤16
   ·have g2:((l.length:Int)≤16)=True:=eq_true (by omega);rw[decide_eq_true ⟨h1,h2⟩];simp only[vf,af,ae,aa,seval,iteOmega,toNatUp,g1,g2];exact aF
   ·have g2:((l.length:Int)≤16)=False:=eq_false (by omega);rw[decide_eq_false (by omega)];simp only[vf,af,ae,aa,seval,iteOmega,toNatUp,g1,g2];exact aF
  ·have g1:((l.length:Int)≥1)=False:=eq_false (by omega);rw[decide_eq_false (by omega)];simp only[vf,af,ae,aa,seval,iteOmega,toNatUp,g1];exact aF
def pj:aD:=⟨2,33,.seq (.reg [oO 4 (.mv (.k (.c .nil))),oO 5 (.mv (kI 0))]) (.seq (.seq (.reg [oM 6 0,oO 7 (.call 50 [(.t 6)] none),oO 8 (.un .not (.t 7)),oM 9 8,oG 10 (.mv (.t 1)) 9 false,oG 11 (.call 50 [(.t 10)] none) 9 false,oG 12 (.un .not (.t 11)) 9 false,oO 13 (.pick (.t 9) (.k (.c (.d (.bool true)))) (.t 12))]) (.cond (.t 13) (.seq (.reg [oO 4 (.mv (.k (.c .nil))),oO 5 (.mv (kI 4))]) (.ret)) (.skip))) (.seq (.seq (.reg [oM 14 0,oO 15 (.call 51 [(.t 14)] none),oO 16 (.un .not (.t 15)),oM 17 16,oG 18 (.mv (.t 1)) 17 false,oG 19 (.call 51 [(.t 18)] none) 17 false,oG 20 (.un .not (.t 19)) 17 false,oO 21 (.pick (.t 17) (.k (.c (.d (.bool true)))) (.t 20))]) (.cond (.t 21) (.seq (.reg [oO 4 (.mv (.k (.c .nil))),oO 5 (.mv (kI 8))]) (.ret)) (.skip))) (.seq (.reg [oM 22 0,oO 23 (.call 53 [(.t 22)] none),
 oO 24 (.call 52 [(kI 1),(.t 23)] none),oM 25 1,oO 26 (.call 53 [(.t 25)] none),oO 27 (.call 52 [(kI 4),(.t 26)] none),oO 28 (.call 52 [(kI 0),(.k (.c .nil))] none),oO 29 (.bldSl false 3 3 (.agg [(.bool false),(.int .i64 0),(.sl [])]) [(0,(.t 24)),(1,(.t 27)),(2,(.t 28))]),oO 30 (.call 10 [(.t 29)] none),oO 31 (.extract (.t 30) 0),oO 32 (.extract (.t 30) 1),oM 4 31,oM 5 32]) (.ret)))),[(4,none),(5,none)]⟩
theorem X5:aB Tryz.prog { own:=[],comp:=[],frz:=[],nils:=[] } Tryz.f16=some pj:=by kernel_rfl
theorem BE (G:ah) (x y:List Int) (hx:x.length≤1000000) (hy:y.length≤1000000):am Tryz.prog G 16 [.sl (x.map zD),.sl (y.map zD)] (.tup [.c (.d (.sl ((bF x y).map bD))),.c (.d (.int .i64 (dD x y)))]):=by
  refine aE Tryz.func16 X5 rfl rfl ?_;have c1:=pI G x (by omega);have c2:=pI G y (by omega);have c3:=NC G x (by omega);have c4:=NC G y (by omega);by_cases h1:bQ x
  ·rw[decide_eq_true h1] at c1;by_cases h2:bQ y
   ·rw[decide_eq_true h2] at c2;by_cases h3:1≤x.length∧x.length≤16
    ·rw[decide_eq_true h3] at c3;by_cases h4:1≤y.length∧y.length≤16
     ·rw[decide_eq_true h4] at c4;have e:dD x y=0:=by unfold dD; rw[if_neg (not_not_intro ⟨h1,h2⟩),if_neg (by omega)]
      have c5:=nD G x (by omega) h1;have c6:=nD G y (by omega) h2;have c7:=iV G 1 (aW x);have c8:=iV G 4 (aW y);have c9:=iV G 0 [];have l1:=fJ x;have l2:=fJ y;have hf:∀ r∈dT x y,cS r=0:=by
        intro r hr;simp only[dT,abk,acP,or_false] at hr;rcases hr with rfl | rfl | rfl <;> exact Ak (by dsimp only; omega) (by dsimp only; omega) (by first | (dsimp only; omega) | simp)
      have ht:(bh (dT x y)).length≤65535:=by
        simp only[dT,oC,Ja,aa1,oS,acu]; omega
      obtain⟨q1,q2⟩:=Al hf (by simp[dT]) ht;have c10:=NB G (dT x y) (by simp[dT]) (fun r hr=>by have:=(ml (hf r hr)).2.2; omega);rw[q1,q2] at c10;rw[e,show bF x y=bh (dT x y) from if_pos e];have hL:(dT x y).map aM=[D.agg [.bool true,.int .i64 1,.sl ((aW x).map bD)],D.agg [.bool true,.int .i64 4,.sl ((aW y).map bD)],D.agg [.bool true,.int .i64 0,.sl []]]:=rfl;rw[hL] at c10;generalize bh (dT x y)=R at *
      clear hf ht q1 q2 hL;simp only[abr] at c9;generalize aW x=X at *
      generalize aW y=Y at *
      simp only[pj,af,ae,aa,seval,iteOmega,toNatUp];refine sD (c1) ?_;refine sD (c2) ?_;refine sD (c3) ?_;refine sD (c4) ?_;refine sD (c5) ?_;refine sD (c7) ?_;refine sD (c6) ?_;refine sD (c8) ?_;refine sD (c9) ?_;refine sD (c10) ?_;exact aY
     ·rw[decide_eq_false h4] at c4;have e:dD x y=8:=by unfold dD; rw[if_neg (not_not_intro ⟨h1,h2⟩),if_pos (by omega)]
      rw[e,show bF x y=[] from if_neg (by rw[e]; decide)];simp only[pj,af,ae,aa,seval,iteOmega,toNatUp];refine sD (c1) ?_;refine sD (c2) ?_;refine sD (c3) ?_;refine sD (c4) ?_;exact aY
    ·rw[decide_eq_false h3] at c3;have e:dD x y=8:=by unfold dD; rw[if_neg (not_not_intro ⟨h1,h2⟩),if_pos (by omega)]
     rw[e,show bF x y=[] from if_neg (by rw[e]; decide)];simp only[pj,af,ae,aa,seval,iteOmega,toNatUp];refine sD (c1) ?_;refine sD (c2) ?_;refine sD (c3) ?_;exact aY
   ·rw[decide_eq_false h2] at c2;have e:dD x y=4:=by unfold dD; rw[if_pos (fun h=>h2 h.2)]
    rw[e,show bF x y=[] from if_neg (by rw[e]; decide)];simp only[pj,af,ae,aa,seval,iteOmega,toNatUp];refine sD (c1) ?_;refine sD (c2) ?_;exact aY
  ·rw[decide_eq_false h1] at c1;have e:dD x y=4:=by unfold dD; rw[if_pos (fun h=>h1 h.1)]
   rw[e,show bF x y=[] from if_neg (by rw[e]; decide)];simp only[pj,af,ae,aa,seval,iteOmega,toNatUp];refine sD (c1) ?_;exact aY
def v5 (l:List Int) (v:Int) (i:Nat):St:=⟨aT [(0,.w (.c (.d (.sl (l.map zD))))),(1,.w (.c (.d (.int .i64 v)))),(7,.w (.c (.d (.int .i64 (l.length:Int))))),(8,.w (.c (.d (.int .i64 (i:Int)))))],hL [],uL []⟩
def inP (l:List Int) (v n:Int):Prop:=(v∈l∧0≤n)∨(v∉l∧n=-1)
def tQ:aL := .seq (.reg [oO 9 (.bin .lss (.t 8) (.t 7))]) (.seq (.cond (.t 9) (.skip) (.exit 0)) (.seq (.block 1 (.seq (.reg [oM 10 8,oM 5 10]) (.seq (.reg [oM 11 1,oM 12 0,oM 13 5,oO 14 (.idxSl 1 (.t 12) (.t 13)),oO 15 (.load .sc (.t 14)),oO 16 (.bin .eql (.t 11) (.t 15))]) (.cond (.t 16) (.seq (.reg [oM 17 5,oM 4 17]) (.ret)) (.skip))))) (.reg [oO 18 (.bin .add (.t 8) (kI 1)),oM 8 18])))
def Mm:aD:=⟨2,19,.seq (.reg [oO 4 (.mv (kI 0))]) (.seq (.seq (.reg [oM 6 0,oO 7 (.len (.t 6)),oO 8 (.mv (kI 0))]) (.block 0 (.loop tQ))) (.seq (.reg [oO 4 (.mv (.k (.c (.d (.int .i64 (-1))))))]) (.ret))),[(4,none)]⟩
theorem X6:aB Tryz.prog { own:=[],comp:=[],frz:=[],nils:=[] } Tryz.f99=some Mm:=by kernel_rfl
theorem ZV (G:ah) (l:List Int) (v:Int) (hl:l.length≤9000000000000000000):∃ n,inP l v n∧am Tryz.prog G 99 [.sl (l.map zD),.int .i64 v] (.w (.c (.d (.int .i64 n)))):=by
  have key:∀ n,(∀ k,n=((l.idxOf v:Nat):Int)∧v∈l∨n=-1∧v∉l→k=n→k=n)→(n=((l.idxOf v:Nat):Int)∧v∈l∨n=-1∧v∉l)→am Tryz.prog G 99 [.sl (l.map zD),.int .i64 v] (.w (.c (.d (.int .i64 n)))):=by
    intro n _ hn;refine aE Tryz.func99 X6 rfl rfl ?_;simp only[Mm,af,ae,aa,seval,iteOmega,toNatUp];refine be (v5 l v) (fun i=>l.length-i) (fun i=>i≤l.length∧v∉l.take i) 0 ⟨aa8 _,by rw[ab9]; exact acP⟩ ?_ ?_
    ·refine aA (fun _=>0) ?_ ?_ rfl rfl <;> simp only[wx,aw,aG,aa,seval,iteOmega,toNatUp] <;> first | rfl | exact⟨rfl,rfl⟩ | skip
    ·rintro i ⟨hi,hp⟩;by_cases hlt:i<l.length
     ·have g:=ly hlt;have hm:=tN hlt;have hs:=mU hlt;by_cases h1:v=l.getD i 0
      ·have hv:v∈l:=h1 ▸ hm;have hi2:l.idxOf v=i:=by
         have e:l=l.take i++l.getD i 0::l.drop (i+1):=by
           have:=(abE (i+1) l).symm;rw[hs,abe] at this;exact this
         have:(l.take i++l.getD i 0::l.drop (i+1)).idxOf v=i:=by
           rw[List.idxOf_append,if_neg hp,← h1,List.idxOf_cons_self,aa4]; omega
         rw[← e] at this;exact this
       obtain⟨rfl,_⟩:=hn.resolve_right fun h=>h.2 hv
       rw[hi2];have g1:(v=l.getD i 0)=True:=eq_true h1;generalize l.getD i 0=w at *
       simp only[tQ,v5,ae,aa,seval,iteOmega,toNatUp,aJ,g,zD,g1];exact aF
      ·have g1:(v=l.getD i 0)=False:=eq_false h1;have hn:v∉l.take (i+1):=by
         rw[hs];intro q;rcases abd.1 q with q | q
         ·exact hp q
         ·exact h1 (aa6.1 q)
       generalize l.getD i 0=w at *
       simp only[tQ,v5,ae,aa,seval,iteOmega,toNatUp,aJ,g,zD,g1];refine aV (i+1) (by omega) ⟨by omega,hn⟩ (aA (fun i=>i) ?_ ?_ rfl rfl) <;> simp only[wx,aw,aG,aa,seval,iteOmega,toNatUp] <;> first | rfl | exact⟨rfl,rfl⟩ | skip
     ·rw[aa2 (by omega)] at hp;obtain⟨rfl,_⟩:=hn.resolve_left fun h=>hp h.2
      simp only[tQ,v5,ae,aa,seval,iteOmega,toNatUp];exact aF
  by_cases hv:v∈l
  ·exact⟨_,.inl ⟨hv,acU _⟩,key _ (fun _ _ h=>h) (.inl ⟨rfl,hv⟩)⟩
  ·exact⟨_,.inr ⟨hv,rfl⟩,key _ (fun _ _ h=>h) (.inr ⟨rfl,hv⟩)⟩
def AM:aD:=⟨2,9,.seq (.reg [oO 4 (.mv (.k (.c (.d (.bool false)))))]) (.seq (.reg [oM 5 0,oM 6 1,oO 7 (.call 99 [(.t 5),(.t 6)] none),oO 8 (.bin .geq (.t 7) (kI 0)),oM 4 8]) (.ret)),[(4,none)]⟩
theorem X7:aB Tryz.prog { own:=[],comp:=[],frz:=[],nils:=[] } Tryz.f56=some AM:=by kernel_rfl
theorem ND (G:ah) (l:List Int) (v:Int) (hl:l.length≤9000000000000000000):am Tryz.prog G 56 [.sl (l.map zD),.int .i64 v] (.w (.c (.d (.bool (decide (v∈l)))))):=by
  refine aE Tryz.func56 X7 rfl rfl ?_;obtain⟨n,hn,c⟩:=ZV G l v hl;rcases hn with ⟨h1,h2⟩ | ⟨h1,rfl⟩
  ·rw[decide_eq_true h1];have g:(n≥0)=True:=eq_true h2;simp only[AM,af,ae,aa,seval,iteOmega,toNatUp];refine sC (c) ?_;simp only[g,ae,aa,seval,iteOmega,toNatUp];exact aF
  ·rw[decide_eq_false h1];simp only[AM,af,ae,aa,seval,iteOmega,toNatUp];refine sD (c) ?_;exact aF
def v7 (x y:List Int) (i:Nat):St:=⟨aT [(1,.w (.c (.d (.sl (y.map zD))))),(8,.w (.c (.d (.sl (x.map zD))))),(9,.w (.c (.d (.int .i64 (x.length:Int))))),(10,.w (.c (.d (.int .i64 (i:Int)))))],hL [],uL []⟩
def tR:aL := .seq (.reg [oO 11 (.bin .lss (.t 10) (.t 9))]) (.seq (.cond (.t 11) (.skip) (.exit 0)) (.seq (.block 1 (.seq (.reg [oO 12 (.idxSl 1 (.t 8) (.t 10)),oO 13 (.load .sc (.t 12)),oM 7 13]) (.seq (.reg [oM 14 1,oM 15 7,oO 16 (.call 56 [(.t 14),(.t 15)] none)]) (.cond (.t 16) (.seq (.reg [oM 17 7,oM 4 17,oO 5 (.mv (.k (.c (.d (.bool true)))))]) (.ret)) (.skip))))) (.reg [oO 18 (.bin .add (.t 10) (kI 1)),oM 10 18])))
def Mn:aD:=⟨2,19,.seq (.reg [oO 4 (.mv (kI 0)),oO 5 (.mv (.k (.c (.d (.bool false)))))]) (.seq (.seq (.reg [oM 8 0,oO 9 (.len (.t 8)),oO 10 (.mv (kI 0))]) (.block 0 (.loop tR))) (.seq (.reg [oO 4 (.mv (kI 0)),oO 5 (.mv (.k (.c (.d (.bool false)))))]) (.ret))),[(4,none),(5,none)]⟩
theorem X8:aB Tryz.prog { own:=[],comp:=[],frz:=[],nils:=[] } Tryz.f18=some Mn:=by kernel_rfl
theorem NE (G:ah) (x y:List Int) (hx:x.length≤1000000) (hy:y.length≤1000000):am Tryz.prog G 18 [.sl (x.map zD),.sl (y.map zD)] (.tup [.c (.d (.int .i64 ((dj x y).getD 0))),.c (.d (.bool (dj x y).isSome))]):=by
  refine aE Tryz.func18 X8 rfl rfl ?_;simp only[Mn,af,ae,aa,seval,iteOmega,toNatUp];refine be (v7 x y) (fun i=>x.length-i) (fun i=>i≤x.length∧∀ v∈x.take i,v∉y) 0 ⟨aa8 _,by rw[ab9]; exact fun v hv=>by cases hv⟩ ?_ ?_
  ·refine aA (fun _=>0) ?_ ?_ rfl rfl <;> simp only[wx,aw,aG,aa,seval,iteOmega,toNatUp] <;> first | rfl | exact⟨rfl,rfl⟩ | skip
  ·rintro i ⟨hi,hp⟩;by_cases hlt:i<x.length
   ·have g:=ly hlt;have hs:=mU hlt;have hat:=L3 hlt hp;have c:=ND G y (x.getD i 0) (by omega);generalize x.getD i 0=w at *
    by_cases h1:w∈y
    ·rw[hat h1,abO,ab3];rw[decide_eq_true h1] at c;simp only[tR,v7,ae,aa,seval,iteOmega,toNatUp,aJ,g,zD];refine sD (c) ?_;exact aY
    ·rw[decide_eq_false h1] at c;have hn:∀ v∈x.take (i+1),v∉y:=by
       rw[hs];intro v q;rcases abd.1 q with q | q
       ·exact hp v q
       ·rw[aa6.1 q]; exact h1
     clear hat;simp only[tR,v7,ae,aa,seval,iteOmega,toNatUp,aJ,g,zD];refine sD (c) ?_;refine aV (i+1) (by omega) ⟨by omega,hn⟩ (aA (fun i=>i) ?_ ?_ rfl rfl) <;> simp only[wx,aw,aG,aa,seval,iteOmega,toNatUp] <;> first | rfl | exact⟨rfl,rfl⟩ | skip
   ·rw[aa2 (by omega)] at hp;have:dj x y=none:=List.find?_eq_none.2 fun v hv q=>hp v hv (of_decide_eq_true q)
    rw[this,abX,acd];simp only[tR,v7,ae,aa,seval,iteOmega,toNatUp];exact aY
def Mo:aD:=⟨3,20,.seq (.reg [oO 3 (.box .roBox (.t 0)),oO 6 (.mv (.k (.c .nil)))]) (.seq (.reg [oO 10 (.load (.ag 6) (.t 3)),oM 11 1,oM 12 2,oO 13 (.bldSl false 1 1 (.int .u8 0) [(0,(.t 12))]),oO 14 (.bldSl false 2 1 (.sl []) [(0,(.t 11)),(1,(.t 13))]),oO 15 (.call 90 [(.t 14)] none),oO 16 (.call 105 [(.t 10),(.k (.c (.d (.str ⟨#[115,101,99,116,105,109,101,32,107,101,121,115]⟩)))),(.t 15),(kI 32)] none),oM 9 16,oO 17 (.extract (.t 9) 0),oO 18 (.extract (.t 9) 1),oM 7 17,oM 8 18]) (.seq (.reg [oM 19 7,oM 6 19]) (.ret))),[(6,none)]⟩
theorem X9:aB Tryz.prog { own:=[],comp:=[],frz:=[],nils:=[] } Tryz.f63=some Mo:=by kernel_rfl
theorem NF (G:ah) (hF:G.at 0=some (.ra (bA.map wD))) (hG:G.at 1=some (.ra (bw.map wD))) (c:Ch) (p a:Int) (z:UInt8) (h:gO c p a=0):am Tryz.prog G 63 [bG c,.sl ((aW [p,a]).map bD),bD z] (.w (.c (.d (.sl ((bp c p a z).map bD))))):=by
  refine aE Tryz.func63 X9 rfl rfl ?_;have hv:dK c:=by
    unfold gO at h;by_cases g:dK c
    ·exact g
    ·rw[if_pos g] at h; exact absurd h (by decide)
  have bl:(aW [p,a]).length=4:=fJ _;have cj:=fj G [aW [p,a],[z]] (by simp) (by simp[bl]);rw[show [aW [p,a],[z]].flatten=gu p a z from by unfold gu; simp] at cj;simp only[aa5,abr] at cj;have hl:(gu p a z).length=5:=by unfold gu; rw[aa1,bl]; rfl
  have c4:=ZL G hF hG c Cy (gu p a z) 32 (by decide) (by omega) (by decide) (by decide);have hX:wJ c Cy.data.toList (gu p a z) 32=bp c p a z:=by
    unfold wJ bp;rw[if_pos hv,if_pos h,lX _ _ (by decide)];rfl
  rw[hX] at c4;unfold Cy at c4;unfold bG at *
  generalize gu p a z=X at *
  generalize bp c p a z=K at *
  generalize aW [p,a]=B at *
  simp only[Mo,af,ae,aa,seval,iteOmega,toNatUp];refine sD (cj) ?_;refine sD (c4) ?_;exact aF
def vg:aD:=⟨3,30,.seq (.reg [oO 3 (.box .roBox (.t 0)),oO 6 (.alloc [.nil,.nil]),oO 7 (.mv (kI 0))]) (.seq (.seq (.reg [oO 9 (.load (.ag 6) (.t 3)),oO 10 (.call 62 [(.t 9)] none),oO 11 (.un .not (.t 10))]) (.cond (.t 11) (.seq (.reg [oO 12 (.build [.nil,.nil] []),oN (.store (.ag 2) (.t 6) (.t 12)),oO 7 (.mv (kI 3))]) (.ret)) (.skip))) (.seq (.seq (.reg [oM 13 1,oM 14 2,oO 15 (.bldSl false 2 1 (.int .i64 0) [(0,(.t 13)),(1,(.t 14))]),oO 16 (.call 50 [(.t 15)] none),oO 17 (.un .not (.t 16))]) (.cond (.t 17) (.seq (.reg [oO 18 (.build [.nil,.nil] []),oN (.store (.ag 2) (.t 6) (.t 18)),oO 7 (.mv (kI 4))]) (.ret)) (.skip))) (.seq (.reg [oM 19 1,oM 20 2,oO 21 (.bldSl false 2 1 (.int .i64 0) [(0,(.t 19)),(1,(.t 20))]),oO 22 (.call 53 [(.t 21)] none),oM 8 22]) (.seq (.reg [oO 23 (.load (.ag 6) (.t 3)),
 oM 24 8,oO 25 (.call 63 [(.t 23),(.t 24),(.k (.c (.d (.int .u8 0))))] none),oO 26 (.load (.ag 6) (.t 3)),oM 27 8,oO 28 (.call 63 [(.t 26),(.t 27),(.k (.c (.d (.int .u8 1))))] none),oO 29 (.build [.nil,.nil] [(0,1,(.t 25)),(1,1,(.t 28))]),oN (.store (.ag 2) (.t 6) (.t 29)),oO 7 (.mv (kI 0))]) (.ret))))),[(6,(some (.ag 2))),(7,none)]⟩
theorem Ya:aB Tryz.prog { own:=[],comp:=[],frz:=[],nils:=[] } Tryz.f26=some vg:=by kernel_rfl
theorem NG (G:ah) (hF:G.at 0=some (.ra (bA.map wD))) (hG:G.at 1=some (.ra (bw.map wD))) (c:Ch) (p a:Int):am Tryz.prog G 26 [bG c,.int .i64 p,.int .i64 a] (.tup [.c (.d (d8 (bp c p a 0) (bp c p a 1))),.c (.d (.int .i64 (gO c p a)))]):=by
  refine aE Tryz.func26 Ya rfl rfl ?_;have c1:=v4 G hF hG c;have c2:=pI G [p,a] (by simp);by_cases h:dK c
  ·rw[decide_eq_true h] at c1;by_cases hs:bQ [p,a]
   ·rw[decide_eq_true hs] at c2;have e:gO c p a=0:=by unfold gO; rw[if_neg (not_not_intro h),if_neg (not_not_intro hs)]
    have c3:=nD G [p,a] (by simp) hs;have c4:=NF G hF hG c p a 0 e;have c5:=NF G hF hG c p a 1 e;rw[e];unfold bG d8 at *
    simp only[aa5,abr,zD] at c2 c3 c4 c5;generalize aW [p,a]=B at *
    generalize bp c p a 0=U at *
    generalize bp c p a 1=W at *
    simp only[vg,af,ae,aa,seval,iteOmega,toNatUp];refine sD (c1) ?_;refine sD (c2) ?_;refine sD (c3) ?_;refine sD (c4) ?_;refine sD (c5) ?_;exact aY
   ·rw[decide_eq_false hs] at c2;have e:gO c p a=4:=by unfold gO; rw[if_neg (not_not_intro h),if_pos hs]
    rw[e,show bp c p a 0=[] from if_neg (by rw[e]; decide),show bp c p a 1=[] from if_neg (by rw[e]; decide)];unfold bG d8 at *
    simp only[aa5,abr,zD] at c2;simp only[vg,af,ae,aa,seval,iteOmega,toNatUp];refine sD (c1) ?_;refine sD (c2) ?_;exact aY
  ·rw[decide_eq_false h] at c1;have e:gO c p a=3:=by unfold gO; rw[if_pos h]
   rw[e,show bp c p a 0=[] from if_neg (by rw[e]; decide),show bp c p a 1=[] from if_neg (by rw[e]; decide)];unfold bG d8 at *
   simp only[vg,af,ae,aa,seval,iteOmega,toNatUp];refine sD (c1) ?_;exact aY
def wa (l:List Ek) (g:Nat) (caps:List D) (i:Nat):St:=⟨aT [(0,.w (.c (.d (.sl (l.map aM))))),(1,.w (.c (.d (.fn g caps)))),(7,.w (.c (.d (.int .i64 (l.length:Int))))),(8,.w (.c (.d (.int .i64 (i:Int)))))],hL [],uL []⟩
def inK (p:Ek→Bool) (l:List Ek) (n:Int):Prop:=(l.any p=true∧0≤n)∨(l.any p=false∧n=-1)
def tS:aL := .seq (.reg [oO 9 (.bin .lss (.t 8) (.t 7))]) (.seq (.cond (.t 9) (.skip) (.exit 0)) (.seq (.block 1 (.seq (.reg [oM 10 8,oM 5 10]) (.seq (.reg [oM 11 1,oM 12 0,oM 13 5,oO 14 (.idxSl 3 (.t 12) (.t 13)),oO 15 (.load (.ag 3) (.t 14)),oO 16 (.call 1000000007 [(.t 11),(.t 15)] none)]) (.cond (.t 16) (.seq (.reg [oM 17 5,oM 4 17]) (.ret)) (.skip))))) (.reg [oO 18 (.bin .add (.t 8) (kI 1)),oM 8 18])))
def MD:aD:=⟨2,19,.seq (.reg [oO 4 (.mv (kI 0))]) (.seq (.seq (.reg [oM 6 0,oO 7 (.len (.t 6)),oO 8 (.mv (kI 0))]) (.block 0 (.loop tS))) (.seq (.reg [oO 4 (.mv (.k (.c (.d (.int .i64 (-1))))))]) (.ret))),[(4,none)]⟩
theorem Yd:aB Tryz.prog { own:=[],comp:=[],frz:=[],nils:=[] } Tryz.f131=some MD:=by kernel_rfl
theorem ZW (G:ah) (l:List Ek) (g:Nat) (caps:List D) (p:Ek→Bool) (hl:l.length≤9223372036854775807) (hp:∀ x∈l,ka Tryz.prog G g caps [aM x] (.w (.c (.d (.bool (p x)))))):∃ n,inK p l n∧am Tryz.prog G 131 [.sl (l.map aM),.fn g caps] (.w (.c (.d (.int .i64 n)))):=by
  have key:∀ n:Int,(l.any p=true∧(∃ i:Nat,n=(i:Int)∧i<l.length∧p (l.getD i default)=true∧∀ j,j<i→p (l.getD j default)=false))∨(l.any p=false∧n=-1)→am Tryz.prog G 131 [.sl (l.map aM),.fn g caps] (.w (.c (.d (.int .i64 n)))):=by
    intro n hn;refine aE Tryz.func131 Yd rfl rfl ?_;simp only[MD,af,ae,aa,seval,iteOmega,toNatUp];refine be (wa l g caps) (fun i=>l.length-i) (fun i=>i≤l.length∧∀ j,j<i→p (l.getD j default)=false) 0 ⟨aa8 _,fun j hj=>by omega⟩ ?_ ?_
    ·refine aA (fun i=>0) ?_ ?_ rfl rfl <;> simp only[wx,aw,aG,aa,seval,iteOmega,toNatUp] <;> rfl
    ·rintro i ⟨hi,hno⟩;by_cases hlt:i<l.length
     ·have g1:=ll hlt;have hd:=hp _ (jP hlt);unfold aM at hd;cases hpi:p (l.getD i default)
      ·rw[hpi] at hd;simp only[tS,wa,ae,aa,seval,iteOmega,toNatUp,aJ,g1,aM];refine oz hd rfl (.inl rfl) ?_;simp only[ae,aa,seval,iteOmega,toNatUp];refine aV (i+1) (by omega) ⟨by omega,fun j hj=>?_⟩ (aA (fun i=>0) ?_ ?_ rfl rfl)
       ·rcases abD j i with h | h
        ·exact hno j h
        ·obtain rfl:j=i:=by omega
         exact hpi
       all_goals simp only[wx,aw,aG,aa,seval,iteOmega,toNatUp]
      ·rw[hpi] at hd;have hni:n=(i:Int):=by
         rcases hn with ⟨_,k,rfl,hk,h1,h2⟩ | ⟨h1,_⟩
         ·rcases Nat.lt_trichotomy k i with h | h | h
          ·rw[hno k h] at h1; cases h1
          ·rw[h]
          ·rw[h2 i h] at hpi; cases hpi
         ·have:=ace.2 ⟨_,jP hlt,hpi⟩;rw[h1] at this; cases this
       subst hni;simp only[tS,wa,ae,aa,seval,iteOmega,toNatUp,aJ,g1,aM];refine oz hd rfl (.inl rfl) ?_;simp only[ae,aa,seval,iteOmega,toNatUp];exact aF
     ·have hni:n=-1:=by
        rcases hn with ⟨_,k,rfl,hk,h1,h2⟩ | ⟨_,h⟩
        ·rw[hno k (by omega)] at h1; cases h1
        ·exact h
      subst hni;simp only[tS,wa,ae,aa,seval,iteOmega,toNatUp];exact aF
  cases ha:l.any p
  ·exact⟨_,.inr ⟨ha,rfl⟩,key _ (.inr ⟨ha,rfl⟩)⟩
  ·have:∃ i,i<l.length∧p (l.getD i default)=true:=by
     obtain⟨x,hx,h1⟩:=ace.1 ha;obtain⟨i,hi,rfl⟩:=abB hx;exact⟨i,hi,by rw[aa0,aaY hi]; exact h1⟩
   obtain⟨i,⟨h1,h2⟩,h3⟩:=FE this;exact⟨_,.inl ⟨ha,acU _⟩,key (i:Int) (.inl ⟨ha,i,rfl,h1,h2,fun j hj=>by
     cases hq:p (l.getD j default)
     ·rfl
     ·have:=h3 j ⟨by omega,hq⟩; omega⟩)⟩
def AU:aD:=⟨2,9,.seq (.reg [oO 4 (.mv (.k (.c (.d (.bool false)))))]) (.seq (.reg [oM 5 0,oM 6 1,oO 7 (.call 131 [(.t 5),(.t 6)] none),oO 8 (.bin .geq (.t 7) (kI 0)),oM 4 8]) (.ret)),[(4,none)]⟩
theorem Ye:aB Tryz.prog { own:=[],comp:=[],frz:=[],nils:=[] } Tryz.f109=some AU:=by kernel_rfl
theorem ZX (G:ah) (l:List Ek) (g:Nat) (caps:List D) (p:Ek→Bool) (hl:l.length≤9223372036854775807) (hp:∀ x∈l,ka Tryz.prog G g caps [aM x] (.w (.c (.d (.bool (p x)))))):am Tryz.prog G 109 [.sl (l.map aM),.fn g caps] (.w (.c (.d (.bool (l.any p))))):=by
  refine aE Tryz.func109 Ye rfl rfl ?_;obtain⟨n,hn,c⟩:=ZW G l g caps p hl hp;rcases hn with ⟨h1,h2⟩ | ⟨h1,rfl⟩
  ·rw[h1];have g1:(n≥0)=True:=eq_true h2;simp only[AU,af,ae,aa,seval,iteOmega,toNatUp];refine sC (c) ?_;simp only[g1,ae,aa,seval,iteOmega,toNatUp];exact aF
  ·rw[h1];simp only[AU,af,ae,aa,seval,iteOmega,toNatUp];refine sD (c) ?_;exact aF
def ME:aD:=⟨1,5,.seq (.reg [oO 1 (.box .roBox (.t 0)),oO 2 (.mv (.k (.c (.d (.bool false)))))]) (.seq (.reg [oO 3 (.fieldAddr 0 (.t 1)),oO 4 (.load .sc (.t 3)),oM 2 4]) (.ret)),[(2,none)]⟩
theorem Yf:aB Tryz.prog { own:=[],comp:=[],frz:=[],nils:=[] } Tryz.f110=some ME:=by kernel_rfl
theorem ZY (G:ah) (r:Ek):ka Tryz.prog G 110 [] [aM r] (.w (.c (.d (.bool r.cr)))):=by
  refine⟨enters_of Tryz.func110 (by kernel_rfl) rfl,?_⟩;refine aE Tryz.func110 Yf rfl rfl ?_;obtain⟨cr,ty,bo⟩:=r;unfold aM;simp only[ME,af,ae,aa,seval,iteOmega,toNatUp];exact aF
def AV:aD:=⟨2,10,.seq (.reg [oO 4 (.mv (.k (.c (.d (.bool false)))))]) (.seq (.reg [oM 5 0,oM 6 1,oO 7 (.mpGet .i64 (.sl []) false (.t 5) (.t 6)),oO 8 (.len (.t 7)),oO 9 (.bin .gtr (.t 8) (kI 0)),oM 4 9]) (.ret)),[(4,none)]⟩
theorem Yg:aB Tryz.prog { own:=[],comp:=[],frz:=[],nils:=[] } Tryz.f80=some AV:=by kernel_rfl
theorem mo (G:ah) (l:List Ek) (k:Int):am Tryz.prog G 80 [cE l,.int .i64 k] (.w (.c (.d (.bool (decide (0<(ar l k).length)))))):=by
  refine aE Tryz.func80 Yg rfl rfl ?_;have hk:=AQ l k;unfold cE;generalize cV l=E at *
  generalize ar l k=x at *
  by_cases h:0<x.length
  ·rw[decide_eq_true h];have g1:((x.length:Int)>0)=True:=eq_true (by omega);simp only[AV,af,ae,aa,seval,iteOmega,toNatUp,dk,hk,g1];exact aF
  ·rw[decide_eq_false h];have g1:((x.length:Int)>0)=False:=eq_false (by omega);simp only[AV,af,ae,aa,seval,iteOmega,toNatUp,dk,hk,g1];exact aF
def du (l:List Ek) (k:Int):List UInt8:=((ar l k).getD 0 default).bo
def br (l:List Ek) (k:Int):List Int:=eS (du l k)
def AW:aD:=⟨2,15,.seq (.reg [oO 4 (.mv (.k (.c .nil)))]) (.seq (.seq (.reg [oM 5 0,oM 6 1,oO 7 (.call 80 [(.t 5),(.t 6)] none),oO 8 (.un .not (.t 7))]) (.cond (.t 8) (.seq (.reg [oO 4 (.mv (.k (.c .nil)))]) (.ret)) (.skip))) (.seq (.reg [oM 9 0,oM 10 1,oO 11 (.mpGet .i64 (.sl []) false (.t 9) (.t 10)),oO 12 (.idxSl 3 (.t 11) (kI 0)),oO 13 (.fieldAddr 2 (.t 12)),oO 14 (.load .sc (.t 13)),oM 4 14]) (.ret))),[(4,none)]⟩
theorem Yh:aB Tryz.prog { own:=[],comp:=[],frz:=[],nils:=[] } Tryz.f116=some AW:=by kernel_rfl
theorem BF (G:ah) (l:List Ek) (k:Int):am Tryz.prog G 116 [cE l,.int .i64 k] (.w (.c (.d (.sl ((du l k).map bD))))):=by
  refine aE Tryz.func116 Yh rfl rfl ?_;have c:=mo G l k;have hk:=AQ l k;unfold cE du at *
  generalize cV l=E at *
  generalize ar l k=x at *
  by_cases h:0<x.length
  ·rw[decide_eq_true h] at c;have g:=ll h;generalize x.getD 0 default=r at *
   simp only[AW,af,ae,aa,seval,iteOmega,toNatUp,dk,hk,aJ];refine sC (c) ?_;simp only[dk,hk,aJ,g,aM,ae,aa,seval,iteOmega,toNatUp];exact aF
  ·rw[decide_eq_false h] at c;obtain rfl:x=[]:=abz.1 (by omega);rw[show (([]:List Ek).getD 0 default).bo=[] from rfl];simp only[AW,af,ae,aa,seval,iteOmega,toNatUp];refine sD (c) ?_;exact aF
theorem oW {l:List Ek} {n:Nat} (h:∀ r∈l,r.bo.length≤n) (k:Int):(du l k).length≤n:=by
  unfold du;rcases abD 0 (ar l k).length with h1 | h1
  ·exact h _ (acw.1 (jP h1)).1
  ·obtain h2:ar l k=[]:=abz.1 (by omega);rw[h2]; exact aa8 _
def MF:aD:=⟨2,15,.seq (.reg [oO 4 (.mv (.k (.c .nil)))]) (.seq (.reg [oM 8 0,oM 9 1,oO 10 (.call 116 [(.t 8),(.t 9)] none),oO 11 (.call 14 [(.t 10)] none),oM 7 11,oO 12 (.extract (.t 7) 0),oO 13 (.extract (.t 7) 1),oM 5 12,oM 6 13]) (.seq (.reg [oM 14 5,oM 4 14]) (.ret))),[(4,none)]⟩
theorem Yi:aB Tryz.prog { own:=[],comp:=[],frz:=[],nils:=[] } Tryz.f111=some MF:=by kernel_rfl
theorem pK (G:ah) (l:List Ek) (k:Int) (h:∀ r∈l,r.bo.length≤1000000000):am Tryz.prog G 111 [cE l,.int .i64 k] (.w (.c (.d (.sl ((br l k).map zD))))):=by
  refine aE Tryz.func111 Yi rfl rfl ?_;have c1:=BF G l k;have c2:=Nz G (du l k) (oW h k);unfold br cE at *
  generalize cV l=E at *
  generalize du l k=B at *
  generalize eS B=N at *
  simp only[MF,af,ae,aa,seval,iteOmega,toNatUp];refine sD (c1) ?_;refine sD (c2) ?_;exact aF
def nU (l:List Ek):Bool:=decide (0<(ar l 1).length)&&(decide (0<(ar l 4).length)&&(!decide (0<(ar l 2).length)&&(!decide (0<(ar l 3).length)&&!decide (0<(ar l 5).length))))
def pm:aD:=⟨1,24,.seq (.reg [oO 2 (.mv (.k (.c (.d (.bool false)))))]) (.seq (.reg [oM 3 0,oO 4 (.call 80 [(.t 3),(kI 1)] none),oM 5 4,oG 6 (.mv (.t 0)) 5 true,oG 7 (.call 80 [(.t 6),(kI 4)] none) 5 true,oO 8 (.pick (.t 5) (.t 7) (.k (.c (.d (.bool false))))),oM 9 8,oG 10 (.mv (.t 0)) 9 true,oG 11 (.call 80 [(.t 10),(kI 2)] none) 9 true,oG 12 (.un .not (.t 11)) 9 true,oO 13 (.pick (.t 9) (.t 12) (.k (.c (.d (.bool false))))),oM 14 13,oG 15 (.mv (.t 0)) 14 true,oG 16 (.call 80 [(.t 15),(kI 3)] none) 14 true,oG 17 (.un .not (.t 16)) 14 true,oO 18 (.pick (.t 14) (.t 17) (.k (.c (.d (.bool false))))),oM 19 18,oG 20 (.mv (.t 0)) 19 true,oG 21 (.call 80 [(.t 20),(kI 5)] none) 19 true,oG 22 (.un .not (.t 21)) 19 true,oO 23 (.pick (.t 19) (.t 22) (.k (.c (.d (.bool false))))),oM 2 23]) (.ret)),
 [(2,none)]⟩
theorem Yj:aB Tryz.prog { own:=[],comp:=[],frz:=[],nils:=[] } Tryz.f67=some pm:=by kernel_rfl
theorem ZZ (G:ah) (l:List Ek):am Tryz.prog G 67 [cE l] (.w (.c (.d (.bool (nU l))))):=by
  refine aE Tryz.func67 Yj rfl rfl ?_;have c1:=mo G l 1;have c4:=mo G l 4;have c2:=mo G l 2;have c3:=mo G l 3;have c5:=mo G l 5;unfold nU;unfold cE at *
  generalize cV l=E at *
  generalize decide (0<(ar l 1).length)=b1 at *
  generalize decide (0<(ar l 4).length)=b4 at *
  generalize decide (0<(ar l 2).length)=b2 at *
  generalize decide (0<(ar l 3).length)=b3 at *
  generalize decide (0<(ar l 5).length)=b5 at *
  cases b1
  ·simp only[pm,af,ae,aa,seval,iteOmega,toNatUp];refine sD (c1) ?_;exact aF
  cases b4
  ·simp only[pm,af,ae,aa,seval,iteOmega,toNatUp];refine sD (c1) ?_;refine sD (c4) ?_;exact aF
  cases b2
  case true =>
    simp only[pm,af,ae,aa,seval,iteOmega,toNatUp];refine sD (c1) ?_;refine sD (c4) ?_;refine sD (c2) ?_;exact aF
  cases b3
  case true =>
    simp only[pm,af,ae,aa,seval,iteOmega,toNatUp];refine sD (c1) ?_;refine sD (c4) ?_;refine sD (c2) ?_;refine sD (c3) ?_;exact aF
  cases b5 <;> (
    simp only[pm,af,ae,aa,seval,iteOmega,toNatUp];refine sD (c1) ?_;refine sD (c4) ?_;refine sD (c2) ?_;refine sD (c3) ?_;refine sD (c5) ?_;exact aF
    skip)
def nV (k:Int) (x:List Ek):Bool :=
  if k=0 then decide (x.length=1∧(x.getD 0 default).bo.length=0)
  else if k=1∨k=4 then decide (x.length=1∧(x.getD 0 default).bo.length%2=0)
  else if k=6 then decide (x.length=1)
  else if k=7 then decide (x.length=1∧(x.getD 0 default).bo.length=2)
  else true
def gd:aD:=⟨2,52,.seq (.reg [oO 4 (.mv (.k (.c (.d (.bool false)))))]) (.seq (.reg [oM 8 1,oO 9 (.idxSl 3 (.t 8) (kI 0)),oO 10 (.fieldAddr 2 (.t 9)),oO 11 (.load .sc (.t 10)),oM 5 11]) (.seq (.seq (.reg [oM 12 0]) (.block 0 (.seq (.reg [oO 14 (.bin .eql (.t 12) (kI 0)),oM 13 14]) (.cond (.t 13) (.seq (.reg [oM 15 1,oO 16 (.len (.t 15)),oO 17 (.bin .eql (.t 16) (kI 1)),oM 18 17,oG 19 (.mv (.t 5)) 18 true,oG 20 (.len (.t 19)) 18 true,oG 21 (.bin .eql (.t 20) (kI 0)) 18 true,oO 22 (.pick (.t 18) (.t 21) (.k (.c (.d (.bool false))))),oM 4 22]) (.ret)) (.seq (.seq (.reg [oO 24 (.bin .eql (.t 12) (kI 1)),oM 23 24]) (.cond (.t 23) (.skip) (.reg [oO 25 (.bin .eql (.t 12) (kI 4)),oM 23 25]))) (.cond (.t 23) (.seq (.reg [oM 27 5,oO 28 (.call 14 [(.t 27)] none),oM 26 28,oO 29 (.extract (.t 26) 0),
 oO 30 (.extract (.t 26) 1),oM 6 29,oM 7 30]) (.seq (.reg [oM 31 1,oO 32 (.len (.t 31)),oO 33 (.bin .eql (.t 32) (kI 1)),oM 34 33,oG 35 (.mv (.t 7)) 34 true,oO 36 (.pick (.t 34) (.t 35) (.k (.c (.d (.bool false))))),oM 4 36]) (.ret))) (.seq (.reg [oO 38 (.bin .eql (.t 12) (kI 6)),oM 37 38]) (.cond (.t 37) (.seq (.reg [oM 39 1,oO 40 (.len (.t 39)),oO 41 (.bin .eql (.t 40) (kI 1)),oM 4 41]) (.ret)) (.seq (.reg [oO 43 (.bin .eql (.t 12) (kI 7)),oM 42 43]) (.cond (.t 42) (.seq (.reg [oM 44 1,oO 45 (.len (.t 44)),oO 46 (.bin .eql (.t 45) (kI 1)),oM 47 46,oG 48 (.mv (.t 5)) 47 true,oG 49 (.len (.t 48)) 47 true,oG 50 (.bin .eql (.t 49) (kI 2)) 47 true,oO 51 (.pick (.t 47) (.t 50) (.k (.c (.d (.bool false))))),oM 4 51]) (.ret)) (.skip))))))))))) (.seq (.reg [oO 4 (.mv (.k (.c (.d (.bool true)))))])
 (.ret)))),[(4,none)]⟩
theorem Yk:aB Tryz.prog { own:=[],comp:=[],frz:=[],nils:=[] } Tryz.f108=some gd:=by kernel_rfl
theorem Z0 (G:ah) (k:Int) (x:List Ek) (hx:0<x.length) (hl:x.length≤1000000) (hb:(x.getD 0 default).bo.length≤1000000000):am Tryz.prog G 108 [.int .i64 k,.sl (x.map aM)] (.w (.c (.d (.bool (nV k x))))):=by
  refine aE Tryz.func108 Yk rfl rfl ?_;have g:=ll hx;have c:=Nz G (x.getD 0 default).bo hb;unfold nV;generalize x.getD 0 default=r at *
  obtain⟨cr,ty,bo⟩:=r;dsimp only at *
  generalize eS bo=nn at *
  by_cases k0:k=0
  ·rw[if_pos k0];subst k0;by_cases h1:x.length=1
   ·have g1:((x.length:Int)=1)=True:=eq_true (by omega);by_cases h2:bo.length=0
    ·rw[decide_eq_true ⟨h1,h2⟩];have g2:((bo.length:Int)=0)=True:=eq_true (by omega);simp only[gd,af,ae,aa,seval,iteOmega,toNatUp,aJ,g,aM,g1,g2];exact aF
    ·rw[decide_eq_false (fun h=>h2 h.2)];have g2:((bo.length:Int)=0)=False:=eq_false (by omega);simp only[gd,af,ae,aa,seval,iteOmega,toNatUp,aJ,g,aM,g1,g2];exact aF
   ·have g1:((x.length:Int)=1)=False:=eq_false (by omega);rw[decide_eq_false (fun h=>h1 h.1)];simp only[gd,af,ae,aa,seval,iteOmega,toNatUp,aJ,g,aM,g1];exact aF
  ·rw[if_neg k0];have g0:=eq_false k0;by_cases k1:k=1
   ·rw[if_pos (.inl k1)];subst k1;by_cases h1:x.length=1
    ·have g1:((x.length:Int)=1)=True:=eq_true (by omega);by_cases h2:bo.length%2=0
     ·rw[decide_eq_true ⟨h1,h2⟩];rw[decide_eq_true h2] at c;simp only[gd,af,ae,aa,seval,iteOmega,toNatUp,aJ,g,aM];refine sC (c) ?_;simp only[g1,ae,aa,seval,iteOmega,toNatUp];exact aF
     ·rw[decide_eq_false (fun h=>h2 h.2)];rw[decide_eq_false h2] at c;simp only[gd,af,ae,aa,seval,iteOmega,toNatUp,aJ,g,aM];refine sC (c) ?_;simp only[g1,ae,aa,seval,iteOmega,toNatUp];exact aF
    ·have g1:((x.length:Int)=1)=False:=eq_false (by omega);rw[decide_eq_false (fun h=>h1 h.1)];generalize decide (bo.length%2=0)=d at *
     simp only[gd,af,ae,aa,seval,iteOmega,toNatUp,aJ,g,aM];refine sC (c) ?_;simp only[g1,ae,aa,seval,iteOmega,toNatUp];exact aF
   ·have g1':=eq_false k1;by_cases k4:k=4
    ·rw[if_pos (.inr k4)];subst k4;by_cases h1:x.length=1
     ·have g1:((x.length:Int)=1)=True:=eq_true (by omega);by_cases h2:bo.length%2=0
      ·rw[decide_eq_true ⟨h1,h2⟩];rw[decide_eq_true h2] at c;simp only[gd,af,ae,aa,seval,iteOmega,toNatUp,aJ,g,aM];refine sC (c) ?_;simp only[g1,ae,aa,seval,iteOmega,toNatUp];exact aF
      ·rw[decide_eq_false (fun h=>h2 h.2)];rw[decide_eq_false h2] at c;simp only[gd,af,ae,aa,seval,iteOmega,toNatUp,aJ,g,aM];refine sC (c) ?_;simp only[g1,ae,aa,seval,iteOmega,toNatUp];exact aF
     ·have g1:((x.length:Int)=1)=False:=eq_false (by omega);rw[decide_eq_false (fun h=>h1 h.1)];generalize decide (bo.length%2=0)=d at *
      simp only[gd,af,ae,aa,seval,iteOmega,toNatUp,aJ,g,aM];refine sC (c) ?_;simp only[g1,ae,aa,seval,iteOmega,toNatUp];exact aF
    ·have g4':=eq_false k4;rw[if_neg (fun h=>h.elim k1 k4)];by_cases k6:k=6
     ·rw[if_pos k6];subst k6;by_cases h1:x.length=1
      ·have g1:((x.length:Int)=1)=True:=eq_true (by omega);rw[decide_eq_true h1];simp only[gd,af,ae,aa,seval,iteOmega,toNatUp,aJ,g,aM,g1];exact aF
      ·have g1:((x.length:Int)=1)=False:=eq_false (by omega);rw[decide_eq_false h1];simp only[gd,af,ae,aa,seval,iteOmega,toNatUp,aJ,g,aM,g1];exact aF
     ·have g6':=eq_false k6;rw[if_neg k6];by_cases k7:k=7
      ·rw[if_pos k7];subst k7;by_cases h1:x.length=1
       ·have g1:((x.length:Int)=1)=True:=eq_true (by omega);by_cases h2:bo.length=2
        ·rw[decide_eq_true ⟨h1,h2⟩];have g2:((bo.length:Int)=2)=True:=eq_true (by omega);simp only[gd,af,ae,aa,seval,iteOmega,toNatUp,aJ,g,aM,g1,g2];exact aF
        ·rw[decide_eq_false (fun h=>h2 h.2)];have g2:((bo.length:Int)=2)=False:=eq_false (by omega);simp only[gd,af,ae,aa,seval,iteOmega,toNatUp,aJ,g,aM,g1,g2];exact aF
       ·have g1:((x.length:Int)=1)=False:=eq_false (by omega);rw[decide_eq_false (fun h=>h1 h.1)];simp only[gd,af,ae,aa,seval,iteOmega,toNatUp,aJ,g,aM,g1];exact aF
      ·have g7':=eq_false k7;rw[if_neg k7];simp only[gd,af,ae,aa,seval,iteOmega,toNatUp,aJ,g,aM,g0,g1',g4',g6',g7'];exact aF
structure Wk where
  left:List (Int×D)
  last:Option (Int×D)
theorem CO {α:Type}:∀ (l:List α) (j:Nat) (p:α),l[j]?=some p→∀ x∈l,x∈l.eraseIdx j∨x=p
  | [],_,_,h,_,_=>by simp at h
  | a::l,0,p,h,x,hx=>by
    simp only[ack,aa3] at h;subst h;rcases abk.1 hx with rfl | hx
    ·exact .inr rfl
    ·exact .inl hx
  | a::l,j+1,p,h,x,hx=>by
    rw[abI] at h;rw[List.eraseIdx_cons_succ];rcases abk.1 hx with rfl | hx
    ·exact .inl abC
    ·rcases CO l j p h x hx with h | h
     ·exact .inl (abq _ h)
     ·exact .inr h
theorem HM {α:Type} {l:List α} {j:Nat} {p:α} (h:l[j]?=some p):(l.eraseIdx j).length<l.length:=by
  obtain⟨h1,_⟩:=abf.1 h;rw[List.length_eraseIdx,if_pos h1]; omega
def jB (l:List Ek) (P:Int→Prop) (t:Wk):Prop:=(∀ p∈t.left,p∈cV l)∧∀ p∈cV l,p∈t.left∨P p.1
theorem jB.start (l:List Ek) (P:Int→Prop):jB l P ⟨cV l,none⟩:=⟨fun _ h=>h,fun _ h=>.inl h⟩
theorem jB.next {l:List Ek} {P:Int→Prop} {t:Wk} (h:jB l P t) {j:Nat} {p:Int×D} (hj:t.left[j]?=some p) (hP:P p.1):jB l P ⟨t.left.eraseIdx j,some p⟩ :=
  ⟨fun x hx=>h.1 x (List.mem_of_mem_eraseIdx hx),fun x hx=>(h.2 x hx).elim (fun h1=>(CO _ _ _ hj x h1).imp id (fun e:x=p=>by rw[e]; exact hP)) .inr⟩
theorem jB.done {l:List Ek} {P:Int→Prop} {t:Wk} (h:jB l P t) (he:t.left=[]) {k:Int} (hk:ar l k≠[]):P k:=by
  rcases h.2 _ (Vn hk) with h1 | h1
  ·rw[he] at h1; cases h1
  ·exact h1
theorem Vp {l:List Ek} {k:Int} (h:7<k) (ha:(ar l k).any (fun r=>r.cr)=true):ic l=true:=by
  obtain⟨r,h1,h2⟩:=ace.1 ha;obtain⟨h3,h4⟩:=acw.1 h1;have h4:r.ty=k:=of_decide_eq_true h4;exact ace.2 ⟨r,h3,by rw[h2,acN,h4]; exact decide_eq_true h⟩
theorem Yl {l:List Ek} (h:∀ k,ar l k≠[]→¬ (7<k∧(ar l k).any (fun r=>r.cr)=true)):ic l=false:=by
  refine ab1.2 fun r hr hq=>?_
  rw[abu,decide_eq_true_eq] at hq;have hm:r∈ar l r.ty:=acw.2 ⟨hr,decide_eq_true rfl⟩;exact h r.ty (fun e=>by rw[e] at hm; cases hm) ⟨hq.2,ace.2 ⟨r,hm,hq.1⟩⟩
def NH (t:Wk):St:=⟨aT [(6,.w (.c (.ptr 1 1 0 0)))],hL [(1,.it .i64 t.left t.last)],uL [1]⟩
def HN:aL := .seq (.nextM 7 (.t 6) [oO 8 (.extract (.t 7) 0)]) (.seq (.cond (.t 8) (.skip) (.exit 0)) (.block 1 (.seq (.reg [oO 9 (.mpEnt (.t 6)),oO 10 (.extract (.t 9) 0),oO 11 (.extract (.t 9) 1),oM 3 10,oM 4 11]) (.seq (.reg [oM 12 3,oO 13 (.bin .gtr (.t 12) (kI 7)),oM 14 13,oG 15 (.mv (.t 4)) 14 true,oG 16 (.call 109 [(.t 15),(.k (.c (.d (.fn 110 []))))] none) 14 true,oO 17 (.pick (.t 14) (.t 16) (.k (.c (.d (.bool false)))))]) (.cond (.t 17) (.seq (.reg [oO 2 (.mv (.k (.c (.d (.bool true)))))]) (.ret)) (.skip))))))
def MG:aD:=⟨1,18,.seq (.reg [oO 2 (.mv (.k (.c (.d (.bool false)))))]) (.seq (.seq (.reg [oM 5 0,oO 6 (.mpIter (.t 5))]) (.block 0 (.loop HN))) (.seq (.reg [oO 2 (.mv (.k (.c (.d (.bool false)))))]) (.ret))),[(2,none)]⟩
theorem Ym:aB Tryz.prog { own:=[],comp:=[],frz:=[],nils:=[] } Tryz.f69=some MG:=by kernel_rfl
theorem NI (G:ah) (l:List Ek) (hl:l.length≤1000000):am Tryz.prog G 69 [cE l] (.w (.c (.d (.bool (ic l))))):=by
  refine aE Tryz.func69 Ym rfl rfl ?_;unfold cE;have hst:=jB.start l fun k=>¬ (7<k∧(ar l k).any (fun r=>r.cr)=true)
  simp only[MG,af,ae,aa,seval,iteOmega,toNatUp,dk];refine be NH (fun t=>t.left.length) (jB l fun k=>¬ (7<k∧(ar l k).any (fun r=>r.cr)=true)) ⟨cV l,none⟩ hst ?_ ?_
  ·refine aA (fun _=>48) ?_ ?_ rfl rfl <;> simp only[wx,aw,aG,aa,seval,iteOmega,toNatUp] <;> first | rfl | exact⟨rfl,rfl⟩ | skip
  ·rintro⟨left,last⟩ hI;simp only[HN,NH,ae,aa,seval,iteOmega,toNatUp];refine Mz (id:=1) (s:=1) (q:=.i64) (left:=left) (last:=last) rfl rfl ?_ ?_
   ·intro he;rw[Yl fun k hk=>hI.done he hk];simp only[ae,aa,seval,iteOmega,toNatUp];exact aF
   ·intro j p hj;obtain⟨e1,e2⟩:=J0 (hI.1 p (ab2 hj));have hnx:=fun h=>hI.next hj h
    have hlt:=HM hj;generalize left.eraseIdx j=left' at *
    clear hj hI;obtain⟨k,d⟩:=p;dsimp only at *
    obtain rfl:d=D.sl ((ar l k).map aM):=congrArg Prod.snd e1;clear e1;have c:=ZX G (ar l k) 110 [] (fun r=>r.cr) (by have:=List.length_filter_le (fun r:Ek=>decide (r.ty=k)) l; unfold ar; omega) fun x _=>ZY G x
    by_cases hk:k>7
    ·have g1:=eq_true hk;cases hc:(ar l k).any fun r=>r.cr
     ·rw[hc] at c;have hn:=hnx (fun h=>by rw[hc] at h; cases h.2);simp only[ae,aa,seval,iteOmega,toNatUp,dk,g1];refine sD (c) ?_;refine aV (⟨left',some (k,D.sl ((ar l k).map aM))⟩:Wk) hlt hn (aA (fun _=>1) ?_ ?_ rfl rfl) <;> simp only[wx,aw,aG,aa,seval,iteOmega,toNatUp] <;> first | rfl | exact⟨rfl,rfl⟩ | skip
     ·rw[Vp hk hc];rw[hc] at c;simp only[ae,aa,seval,iteOmega,toNatUp,dk,g1];refine sD (c) ?_;exact aF
    ·have g1:=eq_false hk;have hn:=hnx (fun h=>hk h.1);simp only[ae,aa,seval,iteOmega,toNatUp,dk,g1];refine aV (⟨left',some (k,D.sl ((ar l k).map aM))⟩:Wk) hlt hn (aA (fun _=>1) ?_ ?_ rfl rfl) <;> simp only[wx,aw,aG,aa,seval,iteOmega,toNatUp] <;> first | rfl | exact⟨rfl,rfl⟩ | skip
theorem J2 {l:List Ek} {k:Int} (h:(ar l k).length=1) {r:Ek} (hr:r∈l) (hk:r.ty=k):(ar l k).getD 0 default=r:=by
  have hm:r∈ar l k:=acw.2 ⟨hr,decide_eq_true hk⟩
  match hx:ar l k,h with
  | [x],_ =>
    rw[hx] at hm;rw[aa6.1 hm]; rfl
theorem AY {l:List Ek} {r:Ek} (hr:r∈l):ar l r.ty≠[]:=fun e=>by
  have hm:r∈ar l r.ty:=acw.2 ⟨hr,decide_eq_true rfl⟩;rw[e] at hm; cases hm
theorem J3 {l:List Ek} {k:Int} (h:ar l k≠[]):0<(ar l k).length:=Nat.pos_of_ne_zero fun e=>h (abz.1 e)
theorem Yn (l:List Ek):lK l↔(0<l.length∧(l.getD (l.length-1) default).ty=0∧∀ k,ar l k≠[]→nV k (ar l k)=true):=by
  constructor
  ·rintro⟨⟨h1,h2,h3,h4,h5,h6,h7⟩,hb⟩;obtain⟨i1,i2⟩:=Xy (l:=l) (k:=0) (j:=0) (by omega);have hg:=lZ (l:=l) (k:=0) (j:=0) (by omega);rw[h2] at i1 i2;refine⟨by omega,i2,fun k hk=>?_⟩;have hp:=J3 hk;have hm:=acw.1 (jP hp);have hty:((ar l k).getD 0 default).ty=k:=of_decide_eq_true hm.2;have hb1:qj ((ar l k).getD 0 default):=hb _ hm.1;unfold nV;split
   ·rename_i e;subst e;rw[← cx,← hg];exact decide_eq_true ⟨h1,h3⟩
   ·split
    ·rename_i e;refine decide_eq_true ⟨?_,hb1.1 (by rw[hty]; exact e)⟩;rw[cx] at h4 h5;rcases e with rfl | rfl <;> omega
    ·split
     ·rename_i e;subst e;rw[cx] at h6;exact decide_eq_true (by omega)
     ·split
      ·rename_i e;subst e;rw[cx] at h7;exact decide_eq_true ⟨by omega,hb1.2 hty⟩
      ·rfl
  ·rintro⟨hl,h0,hf⟩;have hlast:l.getD (l.length-1) default∈l:=jP (by omega);have f0:=hf 0 (h0 ▸ AY hlast);have f0:(ar l 0).length=1∧((ar l 0).getD 0 default).bo.length=0:=of_decide_eq_true f0;have few:∀ k,(k=1∨k=4∨k=6∨k=7)→(bS l k).length≤1:=by
     intro k hk;rw[cx];by_cases he:ar l k=[]
     ·rw[he]; exact aa8 _
     ·have:=hf k he;rcases hk with rfl | rfl | rfl | rfl
      ·exact Nat.le_of_eq (of_decide_eq_true this:_∧_).1
      ·exact Nat.le_of_eq (of_decide_eq_true this:_∧_).1
      ·exact Nat.le_of_eq (of_decide_eq_true this:_=1)
      ·exact Nat.le_of_eq (of_decide_eq_true this:_∧_).1
   have n0:(bS l 0).length=1:=by rw[cx]; exact f0.1
   have hidx:(bS l 0).getD 0 0=l.length-1:=by
     have hm:l.length-1∈bS l 0:=acw.2 ⟨acD.2 (by omega),decide_eq_true h0⟩
     match hx:bS l 0,n0 with
     | [x],_ =>
       rw[hx] at hm;rw[aa6.1 hm]; rfl
   refine⟨⟨n0,hidx,?_,few 1 (by simp),few 4 (by simp),few 6 (by simp),few 7 (by simp)⟩,fun r hr=>⟨fun hk=>?_,fun hk=>?_⟩⟩
   ·rw[lZ (by omega)]; exact f0.2
   ·have h1:=hf r.ty (AY hr);have h2:(ar l r.ty).length=1∧((ar l r.ty).getD 0 default).bo.length%2=0:=by
      rcases hk with hk | hk <;> (rw[hk] at h1 ⊢; exact of_decide_eq_true h1)
    rw[J2 h2.1 hr rfl] at h2;exact h2.2
   ·have h1:=hf r.ty (AY hr);have h2:(ar l r.ty).length=1∧((ar l r.ty).getD 0 default).bo.length=2:=by
      rw[hk] at h1 ⊢; exact of_decide_eq_true h1
    rw[J2 h2.1 hr rfl] at h2;exact h2.2
theorem Tk {es:List (Int×List Ek)} {g:Nat→Nat} (h:∀ j,j<es.length→g (8*j+3)=8*j+3):(cJ es 0).map (fun p=>(p.1,p.2.ren g))=cJ es 0:=by
  refine ab6 fun j=>?_
  rw[abK,q0];cases hj:es[j]? with
  | none=>rfl
  | some p =>
    have:=h j (abf.1 hj).1;simp only[aca,C.ren,abQ,this]
theorem Tl (es:List (Int×List Ek)) (p:Int×List Ek):cJ (es++[p]) 0=cJ es 0++[(p.1,.own (8*es.length+3) 3 0 p.2.length)]:=by
  have key:∀ (es:List (Int×List Ek)) (b:Nat),cJ (es++[p]) b=cJ es b++[(p.1,.own (8*(b+es.length)+3) 3 0 p.2.length)]:=by
    intro es
    induction es with
    | nil=>intro b; rfl
    | cons q r ih=>intro b; rw[abT,cJ,ih,cJ,abR,show b+1+r.length=b+(r.length+1) by omega,abT]
  rw[key,abQ]
theorem Vq {es:List (Int×List Ek)} {j k:Nat} (hj:j<es.length) (p:Int×List Ek) {g:Nat→Nat} (h:∀ i,i≠j→g (8*i+3)=8*i+3) (hk:g (8*j+3)=k):(cJ (es.set j p) 0).map (fun q=>(q.1,q.2.ren g))=(cJ es 0).set j (p.1,.own k 3 0 p.2.length):=by
  refine ab6 fun i=>?_
  rw[abK,q0,ac4,ac4,J1];by_cases e:j=i
  ·subst e;rw[if_pos rfl,if_pos rfl,if_pos hj,if_pos hj];simp only[aca,C.ren,abQ,hk]
  ·rw[if_neg e,if_neg e,q0];cases hi:es[i]? with
   | none=>rfl
   | some q=>simp only[aca,C.ren,abQ,h i (fun q=>e q.symm)]
def jC (n:Nat):Nat→Nat:=fun i=>if i=8*n+3 then 392 else i
theorem ry (n:Nat):jC n 1=1:=if_neg (by omega)
theorem nu (n:Nat):jC n (8*n+3)=392:=if_pos rfl
theorem kR {n j:Nat} (h:j≠n):jC n (8*j+3)=8*j+3:=if_neg (by omega)
theorem J4 (n j:Nat):jC n 1≠jC n (8*j+3):=by
  rw[ry];by_cases h:j=n
  ·rw[h,nu]; decide
  ·rw[kR h]; omega
theorem HO {n i j:Nat} (h:jC n (8*i+3)=jC n (8*j+3)):i=j:=by
  by_cases h1:i=n <;> by_cases h2:j=n
  ·omega
  ·rw[h1,nu,kR h2] at h; omega
  ·rw[h2,nu,kR h1] at h; omega
  ·rw[kR h1,kR h2] at h; omega
theorem Vr {σ:St} {fl:List (Nat×V)} {es:List (Int×List Ek)} {k:Int} {x:Ek} (h1:lD σ.f (jC es.length) fl) (hm:σ.h 1=some (.mp .i64 (cJ es 0++[(k,.own 392 3 0 1)]))) (hw:σ.h 392=some (.row 3 [aM x]))
    (hr:∀ j,σ.h (8*j+3)=fu es (8*j+3)) (hf:(fl.flatMap fun p=>p.2.ids).all (fun i=>gj i)=true):dP σ ⟨aT fl,fu (es++[(k,[x])]),gj⟩:=by
  refine zW (jC es.length) h1 ?_ (fun j p hp=>?_) (J4 _) (fun i j _ _=>HO) hf
  ·rw[ry,hm,Tl,abn,Tk fun j hj=>kR (by omega)];simp only[aa5,abr,C.ren,nu,acf]
  ·by_cases h:j=es.length
   ·subst h;rw[abh (aba _),ac7] at hp;cases hp;rw[nu,hw]; rfl
   ·rw[kR h,hr,vh];rcases abD j es.length with h2 | h2
    ·rw[abt h2] at hp;rw[hp]; rfl
    ·rw[abh h2,abM (by simp; omega)] at hp;cases hp
theorem Vs {σ:St} {fl:List (Nat×V)} {es:List (Int×List Ek)} {j0:Nat} {k:Int} {y:List Ek} {x:Ek} (hj:es[j0]?=some (k,y)) (h1:lD σ.f (jC j0) fl) (hm:σ.h 1=some (.mp .i64 ((cJ es 0).set j0 (k,.own 392 3 0 (y.length+1))))) (hw:σ.h 392=some (.row 3 (y.map aM++[aM x])))
    (hr:∀ j,j≠j0→σ.h (8*j+3)=fu es (8*j+3)) (hf:(fl.flatMap fun p=>p.2.ids).all (fun i=>gj i)=true):dP σ ⟨aT fl,fu (es.set j0 (k,y++[x])),gj⟩:=by
  have hlt:=(abf.1 hj).1;refine zW (jC j0) h1 ?_ (fun j p hp=>?_) (J4 _) (fun i j _ _=>HO) hf
  ·rw[ry,hm,Vq hlt (k,y++[x]) (k:=392) (fun i hi=>kR hi) (nu _),aa1]; rfl
  ·rw[ac4] at hp;by_cases h:j0=j
   ·subst h;rw[if_pos rfl,if_pos hlt] at hp;cases hp;rw[nu,hw,abn]; rfl
   ·rw[if_neg h] at hp;rw[kR fun e=>h e.symm,hr _ fun e=>h e.symm,vh,hp]; rfl
def wb (l:List Ek) (i:Nat):St:=⟨aT [(4,.w (.c (.d (.sl (l.map aM))))),(6,.w (.c (.mp 1))),(34,.w (.c (.d (.sl (l.map aM))))),(35,.w (.c (.d (.int .i64 (l.length:Int))))),(36,.w (.c (.d (.int .i64 (i:Int)))))],fu (eT l i),gj⟩
def Og (l:List Ek) (t:Wk):St:=⟨aT [(6,.w (.c (.d (cE l)))),(52,.w (.c (.ptr 1 1 0 0)))],hL [(1,.it .i64 t.left t.last)],uL [1]⟩
theorem Vt (l:List Ek) (i:Nat) (hi:i≤l.length):∀ (j:Nat) (p:Int×List Ek),(eT l i)[j]?=some p→p.2.length≤l.length:=by
  intro j p hp;have hm:=ab2 hp;have h1:=zV (yt l i) (show (p.1,p.2)∈eT l i from hm);rw[AO l i hi] at h1;split at h1
  ·cases h1
  ·rw[← Option.some.inj h1];have:=List.length_filter_le (fun r:Ek=>decide (r.ty=p.1)) (l.take i);rw[aa4] at this;unfold ar;omega
def tT:aL := .seq (.reg [oO 37 (.bin .lss (.t 36) (.t 35))]) (.seq (.cond (.t 37) (.skip) (.exit 0)) (.seq (.block 1 (.seq (.reg [oO 38 (.idxSl 3 (.t 34) (.t 36)),oO 39 (.load (.ag 3) (.t 38)),oO 8 (.alloc [(.d (.bool false)),(.d (.int .i64 0)),.nil]),oN (.store (.ag 3) (.t 8) (.t 39))]) (.reg [oM 40 6,oO 41 (.fieldAddr 1 (.t 8)),oO 42 (.loadB .sc (.t 41)),oM 43 6,oO 44 (.fieldAddr 1 (.t 8)),oO 45 (.loadB .sc (.t 44)),oO 46 (.mpGet .i64 (.sl []) false (.t 43) (.t 45)),oO 47 (.loadB (.ag 3) (.t 8)),oO 48 (.bldSl false 1 3 (.agg [(.bool false),(.int .i64 0),(.sl [])]) [(0,(.t 47))]),oO 49 (.app false 3 40 (.t 46) (.t 48)),oN (.mpSet .i64 (.t 40) (.t 42) (.t 49))]))) (.reg [oO 50 (.bin .add (.t 36) (kI 1)),oM 36 50])))
def HP:aL := .seq (.nextM 53 (.t 52) [oO 54 (.extract (.t 53) 0)]) (.seq (.cond (.t 54) (.skip) (.exit 2)) (.block 3 (.seq (.reg [oO 55 (.mpEnt (.t 52)),oO 56 (.extract (.t 55) 0),oO 57 (.extract (.t 55) 1),oM 9 56,oM 10 57]) (.seq (.reg [oM 58 9,oM 59 10,oO 60 (.call 108 [(.t 58),(.t 59)] none),oO 61 (.un .not (.t 60))]) (.cond (.t 61) (.seq (.reg [oO 2 (.mv (.k (.c (.d (.mp .i64 []))))),oO 3 (.mv (.k (.c (.d (.bool false)))))]) (.ret)) (.skip))))))
def rz:aD:=⟨1,63,.seq (.reg [oO 2 (.mv (.k (.c (.d (.mp .i64 []))))),oO 3 (.mv (.k (.c (.d (.bool false)))))]) (.seq (.reg [oM 12 0,oO 13 (.call 12 [(.t 12)] none),oM 11 13,oO 14 (.extract (.t 11) 0),oO 15 (.extract (.t 11) 1),oM 4 14,oM 5 15]) (.seq (.seq (.reg [oM 16 5,oO 17 (.bin .neq (.t 16) (kI 0)),oM 18 17,oG 19 (.mv (.t 4)) 18 false,oG 20 (.len (.t 19)) 18 false,oG 21 (.bin .eql (.t 20) (kI 0)) 18 false,oO 22 (.pick (.t 18) (.k (.c (.d (.bool true)))) (.t 21)),oM 23 22,oG 24 (.mv (.t 4)) 23 false,oG 25 (.mv (.t 4)) 23 false,oG 26 (.len (.t 25)) 23 false,oG 27 (.bin .sub (.t 26) (kI 1)) 23 false,oG 28 (.idxSl 3 (.t 24) (.t 27)) 23 false,oG 29 (.fieldAddr 1 (.t 28)) 23 false,oG 30 (.load .sc (.t 29)) 23 false,oG 31 (.bin .neq (.t 30) (kI 0)) 23 false,oO 32 (.pick (.t 23) (.k (.c (.d (.bool true)))) (.t 31))])
 (.cond (.t 32) (.seq (.reg [oO 2 (.mv (.k (.c (.d (.mp .i64 []))))),oO 3 (.mv (.k (.c (.d (.bool false)))))]) (.ret)) (.skip))) (.seq (.reg [oO 33 (.mkMp .i64 none),oM 6 33]) (.seq (.seq (.reg [oM 34 4,oO 35 (.len (.t 34)),oO 36 (.mv (kI 0))]) (.block 0 (.loop tT))) (.seq (.seq (.ghost 6 (.reg [oM 51 6,oO 52 (.mpIter (.t 51))])) (.block 2 (.loop HP))) (.seq (.reg [oM 62 6,oM 2 62,oO 3 (.mv (.k (.c (.d (.bool true)))))]) (.ret))))))),[(2,none),(3,none)]⟩
theorem Yo:aB Tryz.prog { own:=[],comp:=[],frz:=[],nils:=[],bx:=[42,45,47],gh:=[(10,6)] } Tryz.f66=some rz:=by kernel_rfl
theorem BG (G:ah) (b:List UInt8) (hb:b.length≤1000000000):am Tryz.prog G 66 [.sl (b.map bD)] (.tup [.c (.d (cE (iI b))),.c (.d (.bool (decide (eK b))))]):=by
  refine aE Tryz.func66 Yo rfl rfl ?_;have c:=ZU G b hb;have hno:¬ eK b→iI b=[]∧decide (eK b)=false:=fun h=>⟨if_neg h,decide_eq_false h⟩
  by_cases he:dY b=0
  ·obtain⟨q1,q2,q3,q4⟩:=Nl he;have hyes:lK (aI b)→iI b=aI b∧decide (eK b)=true:=fun h=>⟨if_pos ⟨he,h⟩,decide_eq_true ⟨he,h⟩⟩
   have hno:¬ lK (aI b)→iI b=[]∧decide (eK b)=false:=fun h=>hno fun h2=>h h2.2
   have h64:=(mm q1).2.1;have hbo:∀ r∈aI b,r.bo.length≤65535:=fun r hr=>(ml (q4 r hr)).2.2
   have hfm:=Yn (aI b);rw[he] at c;generalize aI b=l at *
   by_cases h0:0<l.length
   ·have g:=ll (l:=l) (i:=l.length-1) (by omega);have gl:((l.length:Int)=0)=False:=eq_false (by omega);have gt:((l.length:Int)-1).toNat=l.length-1:=by omega
    by_cases h1:(l.getD (l.length-1) default).ty=0
    ·have gty:=eq_true h1;have az:=oB l;obtain⟨R,hR⟩:∃ R,R=l.getD (l.length-1) default:=⟨_,rfl⟩
     rw[← hR] at g gty;have hfm2:lK l↔∀ k,ar l k≠[]→nV k (ar l k)=true:=⟨fun h=>(hfm.1 h).2.2,fun h=>hfm.2 ⟨h0,h1,h⟩⟩
     clear hfm q1 q2 q3 q4 hR h1;obtain⟨Rc,Rt,Rb⟩:=R;dsimp only at gty;simp only[rz,af,ae,aa,seval,iteOmega,toNatUp];refine sC (c) ?_;simp only[gl,gt,aJ,g,aM,gty,dk,ae,aa,seval,iteOmega,toNatUp];refine be (wb l) (fun i=>l.length-i) (fun i=>i≤l.length) 0 (aa8 _) ?_ ?_
     ·refine zW (fun i=>if i=1 then 264 else 0) ?_ ?_ (fun j p hp=>by cases hp) (fun j=>?_) (fun i j hi=>by cases hi) rfl
      ·simp only[wx,aw,aG,aa,seval,iteOmega,toNatUp,dk,if_true]
      ·simp only[if_true,ae,aa,seval,iteOmega,toNatUp]; rfl
      ·rw[if_pos rfl,if_neg (by omega)]; decide
     ·intro i hi;have u64:gj 64=false:=AR 8;have u392:gj 392=false:=AR 49;have h1r:=Yc (eT l i);by_cases hlt:i<l.length
      ·have g:=ll hlt;have hst:eT l (i+1)=cg (eT l i) (l.getD i default).ty ((aU (eT l i) (l.getD i default).ty).getD []++[l.getD i default]):=rfl;have hln:=Vt l i hi;generalize l.getD i default=x at *
       obtain⟨es,hes⟩:∃ es,es=eT l i:=⟨_,rfl⟩
       rw[← hes] at hst h1r hln;obtain⟨X,hX⟩:∃ X,X=x:=⟨_,rfl⟩
       rcases MB es 0 x.ty with ⟨m1,m2⟩ | ⟨j,y,m1,m2,m3,m4⟩
       ·rw[m2] at hst;rw[abX,abS,zb _ m2,← hX] at hst;have p1:=fun c=>zb (es:=cJ es 0) (k:=x.ty) c m1
        obtain⟨xc,xt,xb⟩:=x;dsimp only at *
        simp only[tT,wb,← hes,ae,aa,seval,iteOmega,toNatUp,aJ,g,aM,dk,u64,u392,h1r,m1,p1,bP];refine aV (i+1) (by omega) (by omega) ?_
        show dP _ ⟨aT _,fu (eT l (i+1)),gj⟩
        rw[hst,hX];refine Vr ?_ ?_ ?_ (fun j=>by dsimp only; rw[upd_ne _ _ (by omega),upd_ne _ _ (by omega),upd_ne _ _ (by omega),upd_ne _ _ (by omega)]) rfl
        ·simp only[wx,aw,aG,aa,seval,iteOmega,toNatUp,dk,ry] <;> first | rfl | exact⟨rfl,rfl⟩ | skip
        ·simp only[ae,aa,seval,iteOmega,toNatUp]
        ·simp only[ae,aa,seval,iteOmega,toNatUp,aM]
       ·rw[m1] at hst;rw[abO,(m4 .nil).2,← hX] at hst;rw[abQ] at m3;have p1:=fun c=>(m4 c).1
        have hyl:=hln j _ m2;dsimp only at hyl;have hrow:fu es (8*j+3)=some (.row 3 (y.map aM)):=by rw[vh,m2]; rfl
        have n1:(8*j+3==64)=false:=by rw[beq_eq_false_iff_ne]; omega
        have n2:(1==8*j+3)=false:=by rw[beq_eq_false_iff_ne]; omega
        have az2:=oB y;obtain⟨xc,xt,xb⟩:=x;dsimp only at *
        simp only[tT,wb,← hes,ae,aa,seval,iteOmega,toNatUp,aJ,g,aM,dk,u64,u392,h1r,m3,p1,bP,n1,n2,hrow];refine aV (i+1) (by omega) (by omega) ?_
        show dP _ ⟨aT _,fu (eT l (i+1)),gj⟩
        rw[hst,hX];refine Vs m2 ?_ ?_ ?_ (fun i hi=>by dsimp only; rw[upd_ne _ _ (by omega),upd_ne _ _ (by omega),upd_ne _ _ (by omega),upd_ne _ _ (by omega),upd_ne _ _ (by omega)]) rfl
        ·simp only[wx,aw,aG,aa,seval,iteOmega,toNatUp,dk,ry] <;> first | rfl | exact⟨rfl,rfl⟩ | skip
        ·simp only[ae,aa,seval,iteOmega,toNatUp]
        ·simp only[ae,aa,seval,iteOmega,toNatUp,aM]
      ·obtain rfl:i=l.length:=by omega
       have u416:gj 416=false:=AR 52;simp only[tT,wb,ae,aa,seval,iteOmega,toNatUp];refine Yb (id:=1) (q:=.i64) (es:=cJ (eT l l.length) 0) (ds:=cV l) rfl h1r (Q4 _) ?_;generalize upd (killAll (fu (eT l l.length)) ((cJ (eT l l.length) 0).map (·.2))) 1 none=K;simp only[ae,aa,seval,iteOmega,toNatUp,dk,u416];refine be (Og l) (fun t=>t.left.length) (jB l fun k=>nV k (ar l k)=true) ⟨cV l,none⟩ (jB.start l _) ?_ ?_
       ·refine aA (fun _=>416) ?_ ?_ rfl rfl <;> simp only[wx,aw,aG,aa,seval,iteOmega,toNatUp,cE] <;> first | rfl | exact⟨rfl,rfl⟩ | skip
       ·rintro⟨left,last⟩ hI;simp only[HP,Og,cE,ae,aa,seval,iteOmega,toNatUp];refine Mz (id:=1) (s:=1) (q:=.i64) (left:=left) (last:=last) rfl rfl ?_ ?_
        ·intro hle;obtain⟨e1,e2⟩:=hyes (hfm2.2 fun k hk=>hI.done hle hk);rw[e1,e2];simp only[ae,aa,seval,iteOmega,toNatUp];exact aY
        ·intro j p hj;obtain⟨e1,e2⟩:=J0 (hI.1 p (ab2 hj));have hnx:=fun h=>hI.next hj h
         have hle:=HM hj;generalize left.eraseIdx j=left' at *
         clear hj hI;obtain⟨k,d⟩:=p;dsimp only at *
         obtain rfl:d=D.sl ((ar l k).map aM):=congrArg Prod.snd e1;clear e1;have hp:=J3 e2;have c2:=Z0 G k (ar l k) hp (by have:=List.length_filter_le (fun r:Ek=>decide (r.ty=k)) l; unfold ar; omega) (by have:=hbo _ (acw.1 (jP hp)).1; unfold ar; omega);cases hc:nV k (ar l k)
         ·rw[hc] at c2;obtain⟨e1,e3⟩:=hno fun h=>by have:=hfm2.1 h k e2; rw[hc] at this; cases this
          rw[e1,e3,show cV []=[] from rfl];simp only[ae,aa,seval,iteOmega,toNatUp,dk];refine sD (c2) ?_;exact aY
         ·rw[hc] at c2;have hn:=hnx hc;simp only[ae,aa,seval,iteOmega,toNatUp,dk];refine sD (c2) ?_;refine aV (⟨left',some (k,D.sl ((ar l k).map aM))⟩:Wk) hle hn (aA (fun _=>1) ?_ ?_ rfl rfl) <;> simp only[wx,aw,aG,aa,seval,iteOmega,toNatUp,cE] <;> first | rfl | exact⟨rfl,rfl⟩ | skip
    ·obtain⟨e1,e2⟩:=hno fun h=>h1 (hfm.1 h).2.1
     rw[e1,e2,qZ];have gty:=eq_false h1;generalize l.getD (l.length-1) default=R at *
     obtain⟨Rc,Rt,Rb⟩:=R;dsimp only at gty;simp only[rz,af,ae,aa,seval,iteOmega,toNatUp];refine sC (c) ?_;simp only[gl,gt,aJ,g,aM,gty,ae,aa,seval,iteOmega,toNatUp];exact aY
   ·obtain⟨e1,e2⟩:=hno fun h=>h0 (hfm.1 h).1
    rw[e1,e2,qZ];have gl:((l.length:Int)=0)=True:=eq_true (by omega);simp only[rz,af,ae,aa,seval,iteOmega,toNatUp];refine sC (c) ?_;simp only[gl,ae,aa,seval,iteOmega,toNatUp];exact aY
  ·obtain⟨e1,e2⟩:=hno fun h=>he h.1
   rw[e1,e2,qZ];have g1:(dY b=0)=False:=eq_false he;generalize dY b=e at *
   generalize aI b=l at *
   simp only[rz,af,ae,aa,seval,iteOmega,toNatUp];refine sC (c) ?_;simp only[g1,ae,aa,seval,iteOmega,toNatUp];exact aY
theorem vi {b:List UInt8}:(∀ r∈aI b,r.bo.length≤65535)∧(aI b).length≤64:=by
  by_cases h:dY b=0
  ·obtain⟨h1,h2,h3,h4⟩:=Nl h;exact⟨fun r hr=>(ml (h4 r hr)).2.2,(mm h1).2.1⟩
  ·rw[show aI b=[] from if_neg h];exact⟨fun r hr=>(by cases hr),aa8 _⟩
def gm (r:List Fd) (c:Ch) (v a:Int) (ns:List (List UInt8)) (i:Nat):List Ek:=⟨true,1,aW [v]⟩::⟨true,4,aW [a]⟩::gv r c v a (ns.take i)
theorem uB {l:List (List UInt8)} {i:Nat} (h:i<l.length):l[i]?=some (l.getD i []):=by
  rw[aa0,aaY h]; rfl
theorem Dx {l:List (List UInt8)} {i:Nat} (h:i<l.length):l.take (i+1)=l.take i++[l.getD i []]:=by
  rw[acG,uB h]; rfl
theorem Tm {r:List Fd} {c:Ch} {v a:Int} {ns:List (List UInt8)} {i:Nat} (h:i<ns.length):gm r c v a ns (i+1)=gm r c v a ns i++[⟨false,5,nP r a (bp c v a 0) (bp c v a 1) (ns.getD i [])⟩]:=by
  unfold gm gv;rw[Dx h,abn]; rfl
theorem J5 (r:List Fd) (c:Ch) (v a:Int) (ns:List (List UInt8)) (i:Nat):(gm r c v a ns i).length≤ns.length+2:=by
  unfold gm gv;simp only[abR,aa7,aa4]; omega
theorem wc (x:ByteArray):x.toList=x.data.toList:=by
  have:=toList_mk x.data.toList
  rwa [acl] at this
theorem Vu {x:ByteArray} (h:x.size=0):iX .neq x ⟨#[]⟩=some (.bool false):=by
  show some (D.bool (!(x.toList==(⟨#[]⟩:ByteArray).toList)))=_
  rw[wc,wc,abz.1 (show x.data.toList.length=0 from h)];rfl
theorem Vv {x:ByteArray} (h:¬ x.size=0):iX .neq x ⟨#[]⟩=some (.bool true):=by
  show some (D.bool (!(x.toList==(⟨#[]⟩:ByteArray).toList)))=_
  rw[wc,wc,beq_eq_false_iff_ne.2 (fun q:x.data.toList=[]=>h (show x.data.toList.length=0 by rw[q]; rfl))];rfl
theorem rA (b:List UInt8):(eS b).length≤b.length:=by
  unfold eS;split
  ·rw[U4]; omega
  ·exact aa8 _
theorem J6 (p:dZ):(ig p).length≤3:=by
  unfold ig;simp only[aa1];split <;> split <;> simp
theorem MH {p:dZ} (h:p.ho.size≤255):∀ e∈ig p,0≤e.ty∧e.ty≤7∧e.bo.length≤255:=by
  intro e he;unfold ig at he;rcases abd.1 he with he | he
  ·split at he
   ·cases he
   ·rw[aa6.1 he]; exact gC (by decide) h
  ·rcases abd.1 he with he | he
   ·split at he
    ·cases he
    ·rw[aa6.1 he]; exact gC (by decide) (by rw[fJ]; exact (show 2*1≤255 by decide))
   ·rw[aa6.1 he]; exact gC (by decide) (by decide)
theorem Z1 {p:dZ} {l:List Ek} (h:p.ho.size≤255) (ok:∀ e∈l,0≤e.ty∧e.ty≤7∧e.bo.length≤255) (hl:l.length≤10):dX (l++ig p)=0∧kw (l++ig p)=bh (l++ig p) :=
  vY (fun e he=>(abd.1 he).elim (ok e) (MH h e)) (by have:=J6 p; rw[aa1]; omega)
theorem pL {c:Ch} {v a:Int} (h:dK c) (hv:0≤v∧v≤65535) (ha:0≤a∧a≤65535):gO c v a=0:=by
  have hs:bQ [v,a]:=fun n hn=>by
    rcases abk.1 hn with rfl | hn
    ·exact hv
    ·rw[aa6.1 hn]; exact ha
  unfold gO;rw[if_neg (not_not_intro h),if_neg (not_not_intro hs)]
theorem BH {r:List Fd} {a:Int} {U W n:List UInt8} (vR:cZ r) (ha:0≤a∧a≤65535) (hU:U.length=32) (hW:W.length=32) (h:n.length=16):nP r a U W n=bZ (r.getD 0 default) a U W n∧(bZ (r.getD 0 default) a U W n).length=104:=by
  have h0:0<r.length:=vR.1;obtain⟨q1,q2,q3⟩:=vR.2.2.1 _ (HB h0);have e:jc r a U W n=0:=by
    unfold jc;rw[if_pos vR,if_neg (by omega),if_neg (by omega),if_neg (by omega)]
  exact⟨if_pos e,(y5 q3 q1 q2 ha.1 ha.2 hU hW h).1⟩
theorem Yp {r:List Fd} {c:Ch} {v a:Int} {ns:List (List UInt8)} (vR:cZ r) (hk:gO c v a=0) (ha:0≤a∧a≤65535) (h16:∀ n∈ns,n.length=16):∀ e∈gm r c v a ns ns.length,0≤e.ty∧e.ty≤7∧e.bo.length≤255:=by
  intro e he;unfold gm at he;rcases abk.1 he with rfl | he
  ·exact gC (by decide) (by rw[fJ]; exact (show 2*1≤255 by decide))
  ·rcases abk.1 he with rfl | he
   ·exact gC (by decide) (by rw[fJ]; exact (show 2*1≤255 by decide))
   ·rw[acm] at he;obtain⟨n,hn,rfl⟩:=abo.1 he;obtain⟨q1,q2⟩:=BH (U:=bp c v a 0) (W:=bp c v a 1) vR ha (l8 hk) (l8 hk) (h16 n hn);refine gC (by decide) ?_;rw[q1,q2]; decide
def xk (id:Int):Bool:=decide (0≤id∧id≤4294967295)
def uC:aD:=⟨1,9,.seq (.reg [oO 2 (.mv (.k (.c (.d (.bool false)))))]) (.seq (.reg [oM 3 0,oO 4 (.bin .leq (kI 0) (.t 3)),oM 5 4,oG 6 (.mv (.t 0)) 5 true,oG 7 (.bin .lss (.t 6) (kI 4294967296)) 5 true,oO 8 (.pick (.t 5) (.t 7) (.k (.c (.d (.bool false))))),oM 2 8]) (.ret)),[(2,none)]⟩
theorem Vw:aB Tryz.prog { own:=[],comp:=[],frz:=[],nils:=[] } Tryz.f107=some uC:=by kernel_rfl
theorem Yq (G:ah) (id:Int):am Tryz.prog G 107 [.int .i64 id] (.w (.c (.d (.bool (xk id))))):=by
  refine aE Tryz.func107 Vw rfl rfl ?_;unfold xk;by_cases h1:0≤id
  ·by_cases h2:id<4294967296
   ·have g1:(0≤id)=True:=eq_true h1;have g2:(id<4294967296)=True:=eq_true h2;rw[decide_eq_true (show 0≤id∧id≤4294967295 by omega)];simp only[uC,af,ae,aa,seval,iteOmega,toNatUp,g1,g2];exact aF
   ·have g1:(0≤id)=True:=eq_true h1;have g2:(id<4294967296)=False:=eq_false h2;rw[decide_eq_false (show ¬ (0≤id∧id≤4294967295) by omega)];simp only[uC,af,ae,aa,seval,iteOmega,toNatUp,g1,g2];exact aF
  ·have g1:(0≤id)=False:=eq_false h1;rw[decide_eq_false (show ¬ (0≤id∧id≤4294967295) by omega)];simp only[uC,af,ae,aa,seval,iteOmega,toNatUp,g1];exact aF
def zX:aD:=⟨1,35,.seq (.reg [oO 2 (.mv (kI 0)),oO 3 (.alloc [.nil,.nil]),oO 4 (.mv (.k (.c (.d (.bool false)))))]) (.seq (.reg [oM 12 0,oO 13 (.call 124 [(.t 12),(kI 4)] none),oM 11 13,oO 14 (.extract (.t 11) 0),oO 15 (.extract (.t 11) 1),oO 16 (.extract (.t 11) 2),oM 5 14,oM 6 15,oM 7 16]) (.seq (.seq (.reg [oM 17 5,oO 18 (.slice 1 (.t 17) (some (kI 2)) none none),oO 19 (.call 48 [(.t 18)] none),oO 20 (.bin .neq (.t 19) (.k (.c (.d (.int .u64 0)))))]) (.cond (.t 20) (.seq (.reg [oO 21 (.build [.nil,.nil] []),oO 2 (.mv (kI 0)),oN (.store (.ag 2) (.t 3) (.t 21)),oO 4 (.mv (.k (.c (.d (.bool false)))))]) (.ret)) (.skip))) (.seq (.reg [oM 23 6,oO 24 (.call 124 [(.t 23),(kI 32)] none),oM 22 24,oO 25 (.extract (.t 22) 0),oO 26 (.extract (.t 22) 1),oO 27 (.extract (.t 22) 2),oM 8 25,oM 9 26,
 oM 10 27]) (.seq (.reg [oM 28 5,oO 29 (.slice 1 (.t 28) none (some (kI 2)) none),oO 30 (.call 48 [(.t 29)] none),oO 31 (.conv .i64 (.t 30)),oM 32 8,oM 33 9,oO 34 (.build [.nil,.nil] [(0,1,(.t 32)),(1,1,(.t 33))]),oM 2 31,oN (.store (.ag 2) (.t 3) (.t 34)),oO 4 (.mv (.k (.c (.d (.bool true)))))]) (.ret))))),[(2,none),(3,(some (.ag 2))),(4,none)]⟩
theorem Vx:aB Tryz.prog { own:=[],comp:=[],frz:=[],nils:=[] } Tryz.f89=some zX:=by kernel_rfl
theorem Yr (G:ah) (V:List UInt8) (hV:V.length=68):am Tryz.prog G 89 [.sl (V.map bD)] (if V.getD 2 0=0∧V.getD 3 0=0 then .tup [.c (.d (.int .i64 (aZ (aN V 0 2):Int))),.c (.d (d8 (aN V 4 32) (aN V 36 32))),.c (.d (.bool true))] else .tup [.c (.d (.int .i64 0)),.c (.d (d8 [] [])),.c (.d (.bool false))]):=by
  refine aE Tryz.func89 Vx rfl rfl ?_;have c1:=Mb G V 4 (by omega) (by omega);have c2:=Mb G (V.drop 4) 32 (by simp; omega) (by simp; omega);have c3:=mj G ((V.take 4).drop 2) (by simp; omega);have c4:=mj G ((V.take 4).take 2) (by simp; omega);have e1:(V.take 4).take 2=aN V 0 2:=by unfold aN; rw[List.take_take]; rfl
  have e2:(V.drop 4).take 32=aN V 4 32:=rfl;have e3:(V.drop 4).drop 32=aN V 36 32:=by
    unfold aN;rw[List.drop_drop,aa2 (by simp; omega)]
  have hz:aZ ((V.take 4).drop 2)=0↔V.getD 2 0=0∧V.getD 3 0=0:=by
    have:(V.take 4).drop 2=[V.getD 2 0,V.getD 3 0]:=by
      match V,hV with
      | a::b::c::d::l,_=>rfl
    rw[this];generalize V.getD 2 0=a;generalize V.getD 3 0=b;have ha:=a.toNat_lt;have hb:=b.toNat_lt;have e:aZ [a,b]=a.toNat*256+b.toNat:=by simp only[aZ,List.foldl]; omega
    rw[e];constructor
    ·intro h;exact⟨UInt8.toNat_inj.1 (show a.toNat=0 by omega),UInt8.toNat_inj.1 (show b.toNat=0 by omega)⟩
    ·rintro⟨rfl,rfl⟩;rfl
  have l4:((V.take 4).drop 2).length=2:=by simp; omega
  have t4:((V.take 4).drop 2).take 2=(V.take 4).drop 2:=aa2 (by omega);have l5:(V.take 4).length=4:=by simp; omega
  have b4:=(jK 2 (aN V 0 2) (kG (by omega)) (by decide)).1;rw[e1] at c4;rw[e2,e3] at c2;by_cases h:V.getD 2 0=0∧V.getD 3 0=0
  ·rw[if_pos h];rw[hz.2 h] at c3;simp only[zX,af,ae,aa,seval,iteOmega,toNatUp];refine sC (c1) ?_;simp only[l5,t4,ae,aa,seval,iteOmega,toNatUp];refine sD (c3) ?_;refine sC (c2) ?_;simp only[e1,l5,ae,aa,seval,iteOmega,toNatUp];refine a8 c4 (by simp only[ae,aa,seval,iteOmega,toNatUp,e1]) (.inl rfl) ?_;simp only[ae,aa,seval,iteOmega,toNatUp];exact Ag (by simp only[ae,aa,seval,iteOmega,toNatUp] <;> rfl) (by simp only[ae,aa,seval,iteOmega,toNatUp] <;> rfl) (by simp only[ae,aa,seval,iteOmega,toNatUp])
  ·rw[if_neg h];have g:(((aZ ((V.take 4).drop 2):Nat):Int)=0)=False:=eq_false (by have:=mt hz.1 h; omega);simp only[zX,af,ae,aa,seval,iteOmega,toNatUp];refine sC (c1) ?_;simp only[l5,t4,ae,aa,seval,iteOmega,toNatUp];refine sC (c3) ?_;simp only[g,ae,aa,seval,iteOmega,toNatUp];exact Ag (by simp only[ae,aa,seval,iteOmega,toNatUp] <;> rfl) (by simp only[ae,aa,seval,iteOmega,toNatUp] <;> rfl) (by simp only[ae,aa,seval,iteOmega,toNatUp])
def zY:aD:=⟨1,11,.seq (.reg [oO 2 (.mv (kI 0)),oO 3 (.mv (kI 0))]) (.seq (.seq (.reg [oM 4 0,oO 5 (.len (.t 4)),oO 6 (.bin .neq (.t 5) (kI 104))]) (.cond (.t 6) (.seq (.reg [oO 2 (.mv (kI 0)),oO 3 (.mv (kI 3))]) (.ret)) (.skip))) (.seq (.reg [oM 7 0,oO 8 (.slice 1 (.t 7) none (some (kI 4)) none),oO 9 (.call 48 [(.t 8)] none),oO 10 (.conv .i64 (.t 9)),oM 2 10,oO 3 (.mv (kI 0))]) (.ret))),[(2,none),(3,none)]⟩
theorem Vy:aB Tryz.prog { own:=[],comp:=[],frz:=[],nils:=[] } Tryz.f85=some zY:=by kernel_rfl
theorem Ys (G:ah) (c:List UInt8) (hc:c.length≤9223372036854775807):am Tryz.prog G 85 [.sl (c.map bD)] (.tup [.c (.d (.int .i64 (fW c:Int))),.c (.d (.int .i64 (sA c)))]):=by
  refine aE Tryz.func85 Vy rfl rfl ?_;unfold fW sA;by_cases h:c.length=104
  ·rw[if_neg (by omega),if_neg (by omega)];have c1:=mj G (aN c 0 4) (by rw[kG (by omega)]; decide);have b1:=(jK 4 (aN c 0 4) (kG (by omega)) (by decide)).1;have t1:c.take 4=aN c 0 4:=rfl;generalize aZ (aN c 0 4)=n at *
   simp only[zY,af,ae,aa,seval,iteOmega,toNatUp,h,t1];refine sC c1 ?_;simp only[ae,aa,seval,iteOmega,toNatUp];exact aY
  ·rw[if_pos h,if_pos h];simp only[zY,af,ae,aa,seval,iteOmega,toNatUp];exact aY
def lL (l:List Fd):Nat→List (Int×D)
  | 0=>[]
  | i+1=>cg (lL l i) (l.getD i default).ty (.bool true)
theorem NJ (l:List Fd) (y:Int):∀ i,aU (lL l i) y=if ∃ k,k<i∧(l.getD k default).ty=y then some (.bool true) else none
  | 0=>by simp[lL,Vk]
  | i+1=>by
    simp only[lL,JY,NJ l y i];by_cases h:y=(l.getD i default).ty
    ·rw[if_pos h,if_pos ⟨i,by omega,h.symm⟩]
    ·rw[if_neg h];by_cases h2:∃ k,k<i∧(l.getD k default).ty=y
     ·obtain⟨k,h3,h4⟩:=h2;rw[if_pos ⟨k,h3,h4⟩,if_pos ⟨k,by omega,h4⟩]
     ·have h5:¬ ∃ k,k<i+1∧(l.getD k default).ty=y:=by
        rintro⟨k,h3,h4⟩;rcases abD k i with g | g
        ·exact h2 ⟨k,g,h4⟩
        ·obtain rfl:k=i:=by omega
         exact h h4.symm
      rw[if_neg h2,if_neg h5]
def om:aL := .seq (.reg [oO 21 (.bin .lss (.t 20) (.t 19))]) (.seq (.cond (.t 21) (.skip) (.exit 0)) (.seq (.block 1 (.seq (.reg [oO 22 (.idxSl 2 (.t 18) (.t 20)),oO 23 (.load (.ag 2) (.t 22)),oO 5 (.alloc [(.d (.int .i64 0)),.nil]),oN (.store (.ag 2) (.t 5) (.t 23))]) (.seq (.seq (.reg [oO 24 (.fieldAddr 0 (.t 5)),oO 25 (.load .sc (.t 24)),oO 26 (.call 107 [(.t 25)] none),oO 27 (.un .not (.t 26)),oM 28 27,oG 29 (.mv (.t 3)) 28 false,oG 30 (.fieldAddr 0 (.t 5)) 28 false,oG 31 (.load .sc (.t 30)) 28 false,oG 32 (.mpGet .i64 (.bool false) false (.t 29) (.t 31)) 28 false,oO 33 (.pick (.t 28) (.k (.c (.d (.bool true)))) (.t 32)),oM 34 33,oG 35 (.fieldAddr 1 (.t 5)) 34 false,oG 36 (.load .sc (.t 35)) 34 false,oG 37 (.len (.t 36)) 34 false,oG 38 (.bin .neq (.t 37) (kI 32)) 34 false,oO 39 (.pick (.t 34) (.k (.c (.d (.bool true)))) (.t 38))])
 (.cond (.t 39) (.seq (.reg [oO 2 (.mv (.k (.c (.d (.bool false)))))]) (.ret)) (.skip))) (.reg [oM 40 3,oO 41 (.fieldAddr 0 (.t 5)),oO 42 (.load .sc (.t 41)),oN (.mpSet .i64 (.t 40) (.t 42) (.k (.c (.d (.bool true)))))])))) (.reg [oO 43 (.bin .add (.t 20) (kI 1)),oM 20 43])))
def uD:aD:=⟨1,44,.seq (.reg [oO 1 (.box .roBox (.t 0)),oO 2 (.mv (.k (.c (.d (.bool false)))))]) (.seq (.seq (.reg [oO 6 (.fieldAddr 0 (.t 1)),oO 7 (.load .sc (.t 6)),oO 8 (.len (.t 7)),oO 9 (.bin .lss (.t 8) (kI 1)),oM 10 9,oG 11 (.fieldAddr 0 (.t 1)) 10 false,oG 12 (.load .sc (.t 11)) 10 false,oG 13 (.len (.t 12)) 10 false,oG 14 (.bin .gtr (.t 13) (kI 4)) 10 false,oO 15 (.pick (.t 10) (.k (.c (.d (.bool true)))) (.t 14))]) (.cond (.t 15) (.seq (.reg [oO 2 (.mv (.k (.c (.d (.bool false)))))]) (.ret)) (.skip))) (.seq (.reg [oO 16 (.mkMp .i64 none),oM 3 16]) (.seq (.seq (.reg [oO 17 (.fieldAddr 0 (.t 1)),oO 18 (.load .sc (.t 17)),oO 19 (.len (.t 18)),oO 20 (.mv (kI 0))]) (.block 0 (.loop om))) (.seq (.reg [oO 2 (.mv (.k (.c (.d (.bool true)))))]) (.ret))))),[(2,none)]⟩
theorem Vz:aB Tryz.prog { own:=[],comp:=[],frz:=[],nils:=[] } Tryz.f65=some uD:=by kernel_rfl
def qo (l:List Fd) (i:Nat):St:=⟨aT [(3,.w (.c (.mp 1))),(18,.w (.c (.d (.sl (l.map bY))))),(19,.w (.c (.d (.int .i64 (l.length:Int))))),(20,.w (.c (.d (.int .i64 (i:Int)))))],hL [(1,.mp .i64 (gQ (lL l i)))],uL [1]⟩
set_option maxHeartbeats 3200000 in
theorem AZ (G:ah) (l:List Fd) (hl:l.length≤9223372036854775807):am Tryz.prog G 65 [bJ l] (.w (.c (.d (.bool (decide (cZ l)))))):=by
  refine aE Tryz.func65 Vz rfl rfl ?_;unfold bJ;rcases abD l.length 1 with h1 | h1
  ·have hno:¬ cZ l:=fun h=>by have:=h.1; omega
   rw[decide_eq_false hno];simp only[uD,af,ae,aa,seval,iteOmega,toNatUp];exact aF
  ·rcases abD 4 l.length with h4 | h4
   ·have hno:¬ cZ l:=fun h=>by have:=h.2.1; omega
    have g4:((l.length:Int)>4)=True:=eq_true (by omega);rw[decide_eq_false hno];simp only[uD,af,ae,aa,seval,iteOmega,toNatUp,g4];exact aF
   ·have g4:((l.length:Int)>4)=False:=eq_false (by omega);simp only[uD,af,ae,aa,seval,iteOmega,toNatUp,dk,g4];refine be (qo l) (fun i=>l.length-i) (fun i=>i≤l.length∧∀ j,j<i→iU (l.getD j default)∧∀ k,k<j→(l.getD k default).ty≠(l.getD j default).ty) 0 ⟨aa8 _,fun j hj=>by omega⟩ ?_ ?_
    ·refine aA (fun i=>128) ?_ ?_ rfl rfl <;> simp only[wx,aw,aG,aa,seval,iteOmega,toNatUp,lL,dk]
    ·rintro i ⟨hi,hok⟩;by_cases hlt:i<l.length
     ·have g:=mK hlt;have hno:¬ iU (l.getD i default)→¬ cZ l:=fun h hr=>h (mh hr hlt).1
      have hno2:∀ k,k<i→(l.getD k default).ty=(l.getD i default).ty→¬ cZ l:=fun k hk e hr=>(mh hr hlt).2 k hk e
      have hgo:iU (l.getD i default)→(∀ k,k<i→(l.getD k default).ty≠(l.getD i default).ty)→∀ j,j<i+1→iU (l.getD j default)∧∀ k,k<j→(l.getD k default).ty≠(l.getD j default).ty:=fun a b j hj=>by
        rcases abD j i with h | h
        ·exact hok j h
        ·obtain rfl:j=i:=by omega
         exact⟨a,b⟩
      have hms:=NJ l (l.getD i default).ty i;have hst:lL l (i+1)=cg (lL l i) (l.getD i default).ty (.bool true):=rfl;have ci:=Yq G (l.getD i default).ty;by_cases h0:0≤(l.getD i default).ty∧(l.getD i default).ty≤4294967295
      ·rw[show xk (l.getD i default).ty=true from decide_eq_true h0] at ci;by_cases h5:∃ k,k<i∧(l.getD k default).ty=(l.getD i default).ty
       ·obtain⟨k,h6,h7⟩:=h5;rw[if_pos ⟨k,h6,h7⟩] at hms;rw[decide_eq_false (hno2 k h6 h7)];simp only[om,qo,ae,aa,seval,iteOmega,toNatUp,dk,aJ,g,bY];refine sC (ci) ?_;simp only[dk,hms,ae,aa,seval,iteOmega,toNatUp];exact aF
       ·rw[if_neg h5] at hms;by_cases h3:(l.getD i default).da.length=32
        ·simp only[om,qo,ae,aa,seval,iteOmega,toNatUp,dk,aJ,g,bY];refine sC (ci) ?_;simp only[dk,hms,h3,ae,aa,seval,iteOmega,toNatUp];refine aV (i+1) (by omega) ⟨by omega,hgo ⟨by omega,by omega,h3⟩ fun k hk e=>h5 ⟨k,hk,e⟩⟩ (aA (fun _=>1) ?_ ?_ rfl (by simp only[abg,ac5,Ob.ids,zU]; rfl)) <;> simp only[wx,aw,aG,aa,seval,iteOmega,toNatUp,dk,lL]
        ·rw[decide_eq_false (hno fun h=>h3 h.2.2)];have h4':(((l.getD i default).da.length:Int)=32)=False:=eq_false (by omega);simp only[om,qo,ae,aa,seval,iteOmega,toNatUp,dk,aJ,g,bY];refine sC (ci) ?_;simp only[dk,hms,h4',ae,aa,seval,iteOmega,toNatUp];exact aF
      ·rw[show xk (l.getD i default).ty=false from decide_eq_false h0] at ci;rw[decide_eq_false (hno fun h=>h0 ⟨h.1,h.2.1⟩)];simp only[om,qo,ae,aa,seval,iteOmega,toNatUp,dk,aJ,g,bY];refine sD (ci) ?_;exact aF
     ·obtain rfl:i=l.length:=by omega
      rw[decide_eq_true (Me (by omega) (by omega) hok)];simp only[om,qo,ae,aa,seval,iteOmega,toNatUp,dk];exact aF
def lM (l:List Fd) (id:Int):Int:=match gN l id with | some i=>(i:Int) | none=>-1
def wM (l:List Fd) (g:Nat) (caps:List D) (i:Nat):St:=⟨aT [(0,.w (.c (.d (.sl (l.map bY))))),(1,.w (.c (.d (.fn g caps)))),(7,.w (.c (.d (.int .i64 (l.length:Int))))),(8,.w (.c (.d (.int .i64 (i:Int)))))],hL [],uL []⟩
def tg:aL := .seq (.reg [oO 9 (.bin .lss (.t 8) (.t 7))]) (.seq (.cond (.t 9) (.skip) (.exit 0)) (.seq (.block 1 (.seq (.reg [oM 10 8,oM 5 10]) (.seq (.reg [oM 11 1,oM 12 0,oM 13 5,oO 14 (.idxSl 2 (.t 12) (.t 13)),oO 15 (.load (.ag 2) (.t 14)),oO 16 (.call 1000000007 [(.t 11),(.t 15)] none)]) (.cond (.t 16) (.seq (.reg [oM 17 5,oM 4 17]) (.ret)) (.skip))))) (.reg [oO 18 (.bin .add (.t 8) (kI 1)),oM 8 18])))
def J7:aD:=⟨2,19,.seq (.reg [oO 4 (.mv (kI 0))]) (.seq (.seq (.reg [oM 6 0,oO 7 (.len (.t 6)),oO 8 (.mv (kI 0))]) (.block 0 (.loop tg))) (.seq (.reg [oO 4 (.mv (.k (.c (.d (.int .i64 (-1))))))]) (.ret))),[(4,none)]⟩
theorem VA:aB Tryz.prog { own:=[],comp:=[],frz:=[],nils:=[] } Tryz.f86=some J7:=by kernel_rfl
theorem Yt (G:ah) (l:List Fd) (g:Nat) (caps:List D) (id:Int) (hl:l.length≤9223372036854775807) (hp:∀ x:Fd,ka Tryz.prog G g caps [bY x] (.w (.c (.d (.bool (decide (x.ty=id))))))):am Tryz.prog G 86 [.sl (l.map bY),.fn g caps] (.w (.c (.d (.int .i64 (lM l id))))):=by
  refine aE Tryz.func86 VA rfl rfl ?_;simp only[J7,af,ae,aa,seval,iteOmega,toNatUp];refine be (wM l g caps) (fun i=>l.length-i) (fun i=>i≤l.length∧∀ j,j<i→(l.getD j default).ty≠id) 0 ⟨aa8 _,fun j hj=>by omega⟩ ?_ ?_
  ·refine aA (fun i=>0) ?_ ?_ rfl rfl <;> simp only[wx,aw,aG,aa,seval,iteOmega,toNatUp] <;> rfl
  ·rintro i ⟨hi,hn⟩;have haz:=tD l;by_cases hlt:i<l.length
   ·have g1:=mK hlt;have hd:=hp (l.getD i default);by_cases he:(l.getD i default).ty=id
    ·rw[decide_eq_true he] at hd;have e:lM l id=i:=by unfold lM; rw[Vg hlt he hn]
     rw[e];simp only[tg,wM,ae,aa,seval,iteOmega,toNatUp,aJ,g1,haz];generalize l.getD i default=x at *
     refine oz hd (by simp only[ae,aa,seval,iteOmega,toNatUp,bY]) (.inl rfl) ?_;simp only[ae,aa,seval,iteOmega,toNatUp];exact aF
    ·rw[decide_eq_false he] at hd;have hn':∀ j,j<i+1→(l.getD j default).ty≠id:=fun j hj=>by
       rcases abD j i with h | h
       ·exact hn j h
       ·obtain rfl:j=i:=by omega
        exact he
     simp only[tg,wM,ae,aa,seval,iteOmega,toNatUp,aJ,g1,haz];generalize l.getD i default=x at *
     refine oz hd (by simp only[ae,aa,seval,iteOmega,toNatUp,bY]) (.inl rfl) ?_;simp only[ae,aa,seval,iteOmega,toNatUp];refine aV (i+1) (by omega) ⟨by omega,hn'⟩ (aA (fun i=>0) ?_ ?_ rfl rfl) <;> simp only[wx,aw,aG,aa,seval,iteOmega,toNatUp]
   ·have e:lM l id=-1:=by unfold lM; rw[Ti fun j hj=>hn j (by omega)]
    rw[e];simp only[tg,wM,ae,aa,seval,iteOmega,toNatUp];exact aF
def zZ:aD:=⟨2,8,.seq (.reg [oO 2 (.box .roBox (.t 0)),oO 3 (.mv (.k (.c (.d (.bool false)))))]) (.seq (.reg [oO 4 (.fieldAddr 0 (.t 2)),oO 5 (.load .sc (.t 4)),oO 6 (.load .sc (.t 1)),oO 7 (.bin .eql (.t 5) (.t 6)),oM 3 7]) (.ret)),[(3,none)]⟩
theorem VB:aB Tryz.prog { own:=[],comp:=[],frz:=[],nils:=[] } Tryz.f87=some zZ:=by kernel_rfl
theorem Yu (G:ah) (id:Int) (x:Fd):ka Tryz.prog G 87 [.ref [.int .i64 id]] [bY x] (.w (.c (.d (.bool (decide (x.ty=id)))))):=by
  refine⟨enters_of Tryz.func87 (by kernel_rfl) rfl,?_⟩;refine Q1 Tryz.func87 VB rfl rfl ?_;unfold bY;by_cases h:x.ty=id
  ·rw[decide_eq_true h];simp only[zZ,abT,abS,aa5,abr,D.up,mJ,ae,aa,seval,iteOmega,toNatUp,h];exact aF
  ·rw[decide_eq_false h];have g:(x.ty=id)=False:=eq_false h;simp only[zZ,abT,abS,aa5,abr,D.up,mJ,ae,aa,seval,iteOmega,toNatUp,g];exact aF
def ma:aD:=⟨4,71,.seq (.reg [oO 4 (.box .roBox (.t 0)),oO 6 (.box .roBox (.t 2)),oO 8 (.mv (.k (.c .nil))),oO 9 (.mv (kI 0))]) (.seq (.seq (.reg [oO 14 (.load (.ag 1) (.t 4)),oO 15 (.call 65 [(.t 14)] none),oO 16 (.un .not (.t 15))]) (.cond (.t 16) (.seq (.reg [oO 8 (.mv (.k (.c .nil))),oO 9 (.mv (kI 3))]) (.ret)) (.skip))) (.seq (.seq (.reg [oM 17 1,oO 18 (.bin .lss (.t 17) (kI 0)),oM 19 18,oG 20 (.mv (.t 1)) 19 false,oG 21 (.bin .geq (.t 20) (kI 65536)) 19 false,oO 22 (.pick (.t 19) (.k (.c (.d (.bool true)))) (.t 21))]) (.cond (.t 22) (.seq (.reg [oO 8 (.mv (.k (.c .nil))),oO 9 (.mv (kI 4))]) (.ret)) (.skip))) (.seq (.seq (.reg [oO 23 (.fieldAddr 0 (.t 6)),oO 24 (.load .sc (.t 23)),oO 25 (.len (.t 24)),oO 26 (.bin .neq (.t 25) (kI 32)),oM 27 26,oG 28 (.fieldAddr 1 (.t 6)) 27 false,
 oG 29 (.load .sc (.t 28)) 27 false,oG 30 (.len (.t 29)) 27 false,oG 31 (.bin .neq (.t 30) (kI 32)) 27 false,oO 32 (.pick (.t 27) (.k (.c (.d (.bool true)))) (.t 31))]) (.cond (.t 32) (.seq (.reg [oO 8 (.mv (.k (.c .nil))),oO 9 (.mv (kI 5))]) (.ret)) (.skip))) (.seq (.seq (.reg [oM 33 3,oO 34 (.len (.t 33)),oO 35 (.bin .neq (.t 34) (kI 16))]) (.cond (.t 35) (.seq (.reg [oO 8 (.mv (.k (.c .nil))),oO 9 (.mv (kI 3))]) (.ret)) (.skip))) (.seq (.reg [oO 36 (.fieldAddr 0 (.t 4)),oO 37 (.load .sc (.t 36)),oO 38 (.idxSl 2 (.t 37) (kI 0)),oO 39 (.fieldAddr 0 (.t 38)),oO 40 (.load .sc (.t 39)),oO 41 (.conv .u64 (.t 40)),oO 42 (.call 91 [(.t 41),(kI 4)] none),oM 10 42]) (.seq (.reg [oM 43 1,oO 44 (.conv .u64 (.t 43)),oO 45 (.call 91 [(.t 44),(kI 2)] none),oO 46 (.call 91 [(.k (.c (.d (.int .u64 0)))),(kI 2)] none),
 oO 47 (.fieldAddr 0 (.t 6)),oO 48 (.load .sc (.t 47)),oO 49 (.fieldAddr 1 (.t 6)),oO 50 (.load .sc (.t 49)),oO 51 (.bldSl false 4 1 (.sl []) [(0,(.t 45)),(1,(.t 46)),(2,(.t 48)),(3,(.t 50))]),oO 52 (.call 90 [(.t 51)] none),oM 11 52]) (.seq (.reg [oO 54 (.fieldAddr 0 (.t 4)),oO 55 (.load .sc (.t 54)),oO 56 (.idxSl 2 (.t 55) (kI 0)),oO 57 (.fieldAddr 1 (.t 56)),oO 58 (.load .sc (.t 57)),oM 59 10,oM 60 3,oO 61 (.bldSl false 2 1 (.sl []) [(0,(.t 59)),(1,(.t 60))]),oM 62 11,oO 63 (.call 92 [(.t 58),(.t 61),(.t 62)] none),oM 53 63,oO 64 (.extract (.t 53) 0),oO 65 (.extract (.t 53) 1),oM 12 64,oM 13 65]) (.seq (.reg [oM 66 10,oM 67 3,oM 68 12,oO 69 (.bldSl false 3 1 (.sl []) [(0,(.t 66)),(1,(.t 67)),(2,(.t 68))]),oO 70 (.call 90 [(.t 69)] none),oM 8 70,oO 9 (.mv (kI 0))]) (.ret))))))))),[(8,none),(9,none)]⟩
theorem VC:aB Tryz.prog { own:=[],comp:=[],frz:=[],nils:=[] } Tryz.f112=some ma:=by kernel_rfl
theorem Yv (G:ah) (l:List Fd) (algo:Int) (up dn nonce:List UInt8) (hl:l.length≤9223372036854775807):am Tryz.prog G 112 [bJ l,.int .i64 algo,d8 up dn,.sl (nonce.map bD)] (.tup [.c (.d (.sl ((nP l algo up dn nonce).map bD))),.c (.d (.int .i64 (jc l algo up dn nonce)))]):=by
  refine aE Tryz.func112 VC rfl rfl ?_;have c1:=AZ G l hl;by_cases hr:cZ l
  ·rw[decide_eq_true hr] at c1;have e0:jc l algo up dn nonce=if algo<0∨65535<algo then 4 else if up.length≠32∨dn.length≠32 then 5 else if nonce.length≠16 then 3 else 0:=if_pos hr
   rcases Int.lt_or_le algo 0 with h1 | h1
   ·have e:jc l algo up dn nonce=4:=by rw[e0,if_pos (.inl h1)]
    rw[pg e (by decide),e];unfold bJ d8 at *
    simp only[ma,af,ae,aa,seval,iteOmega,toNatUp];refine sD (c1) ?_;exact aY
   ·rcases Int.lt_or_le 65535 algo with h2 | h2
    ·have e:jc l algo up dn nonce=4:=by rw[e0,if_pos (.inr h2)]
     have g2:(algo≥65536)=True:=eq_true (by omega);rw[pg e (by decide),e];unfold bJ d8 at *
     simp only[ma,af,ae,aa,seval,iteOmega,toNatUp];refine sC (c1) ?_;simp only[g2,ae,aa,seval,iteOmega,toNatUp];exact aY
    ·have g2:(algo≥65536)=False:=eq_false (by omega);rw[if_neg (by omega)] at e0;by_cases h3:up.length=32
     ·by_cases h4:dn.length=32
      ·rw[if_neg (by omega)] at e0;by_cases h5:nonce.length=16
       ·rw[if_neg (by omega)] at e0;have eB:nP l algo up dn nonce=bZ (l.getD 0 default) algo up dn nonce:=if_pos e0;rw[e0,eB];have g0:=mK (l:=l) (i:=0) (by have:=hr.1; omega);obtain⟨⟨m1,m2,m3⟩,_⟩:=mh hr (i:=0) (by have:=hr.1; omega);have r1:=hr.1;clear e0 eB;generalize l.getD 0 default=m at *
        have hp:=JF algo h3 h4;have hi:(eR m).length=4:=cF _ _;have ha:cU m.da [eR m,nonce] ((fF algo up dn).length:Int)=0:=Hk m3 (by simp) (fun x hx=>by simp at hx; rcases hx with rfl | rfl <;> omega) (by omega);have hs:(im m.da [eR m,nonce] (fF algo up dn)).length=84:=by rw[yY ha,aa1,lT,oE,hp]
        have d1:=pd G m.ty.toNat 4 (by decide);rw[show (4:Int).toNat=4 from rfl,show aO m.ty.toNat 4=eR m from rfl,show ((m.ty.toNat:Nat):Int)=m.ty by omega] at d1;have d2:=pd G algo.toNat 2 (by decide);rw[show (2:Int).toNat=2 from rfl,show ((algo.toNat:Nat):Int)=algo by omega] at d2;have d0:=pd G 0 2 (by decide);rw[show aO 0 (2:Int).toNat=[0,0] from by decide] at d0;have d3:=fj G [aO algo.toNat 2,[0,0],up,dn] (by simp) (by rw[HD]; omega);rw[HD] at d3;have d4:=Xj G m.da [eR m,nonce] (fF algo up dn) (by omega) (by simp) (fun x hx=>by simp at hx; rcases hx with rfl | rfl <;> omega) (by omega);rw[ha] at d4;have d5:=fj G [eR m,nonce,im m.da [eR m,nonce] (fF algo up dn)] (by simp) (by simp only[acH,acn,aa1,acu,hi,h5,hs]; omega);rw[Vf] at d5;unfold db at d4;generalize bZ m algo up dn nonce=B at *
        generalize im m.da [eR m,nonce] (fF algo up dn)=S at *
        generalize fF algo up dn=P at *
        generalize eR m=I at *
        generalize aO algo.toNat 2=A at *
        simp only[aa5,abr] at d0 d3 d4 d5;have haz:=tD l;unfold bJ d8 at *
        simp only[ma,af,ae,aa,seval,iteOmega,toNatUp];refine sC (c1) ?_;simp only[g2,h3,h4,h5,aJ,g0,haz,bY,ae,aa,seval,iteOmega,toNatUp];refine sD (d1) ?_;refine sD (d2) ?_;refine sD (d0) ?_;refine a8 d3 (by simp only[ae,aa,seval,iteOmega,toNatUp] <;> rfl) (.inl rfl) ?_;simp only[ae,aa,seval,iteOmega,toNatUp,aJ,g0,haz,bY];refine sD (d4) ?_;refine sD (d5) ?_;exact aY
       ·rw[if_pos h5] at e0;rw[pg e0 (by decide),e0];unfold bJ d8 at *
        simp only[ma,af,ae,aa,seval,iteOmega,toNatUp];refine sC (c1) ?_;simp only[g2,h3,h4,ae,aa,seval,iteOmega,toNatUp];exact aY
      ·have e:jc l algo up dn nonce=5:=by rw[e0,if_pos (.inr h4)]
       rw[pg e (by decide),e];unfold bJ d8 at *
       simp only[ma,af,ae,aa,seval,iteOmega,toNatUp];refine sC (c1) ?_;simp only[g2,h3,ae,aa,seval,iteOmega,toNatUp];exact aY
     ·have e:jc l algo up dn nonce=5:=by rw[e0,if_pos (.inl h3)]
      rw[pg e (by decide),e];unfold bJ d8 at *
      simp only[ma,af,ae,aa,seval,iteOmega,toNatUp];refine sC (c1) ?_;simp only[g2,ae,aa,seval,iteOmega,toNatUp];exact aY
  ·rw[decide_eq_false hr] at c1;have e:jc l algo up dn nonce=3:=if_neg hr;rw[pg e (by decide),e];unfold bJ d8 at *
   simp only[ma,af,ae,aa,seval,iteOmega,toNatUp];refine sD (c1) ?_;exact aY
set_option maxHeartbeats 6400000
def MI:aD:=⟨1,13,.seq (.reg [oO 2 (.mv (.k (.c .nil))),oO 3 (.mv (kI 0))]) (.seq (.reg [oM 4 0,oO 5 (.bldSl false 1 1 (.int .i64 0) [(0,(.t 4))]),oO 6 (.call 53 [(.t 5)] none),oO 7 (.call 52 [(kI 2),(.t 6)] none),oO 8 (.call 52 [(kI 0),(.k (.c .nil))] none),oO 9 (.bldSl false 2 3 (.agg [(.bool false),(.int .i64 0),(.sl [])]) [(0,(.t 7)),(1,(.t 8))]),oO 10 (.call 10 [(.t 9)] none),oO 11 (.extract (.t 10) 0),oO 12 (.extract (.t 10) 1),oM 2 11,oM 3 12]) (.ret)),[(2,none),(3,none)]⟩
theorem Yw:aB Tryz.prog { own:=[],comp:=[],frz:=[],nils:=[] } Tryz.f68=some MI:=by kernel_rfl
theorem BI (G:ah) (k:Int) (hk:0≤k∧k≤65535):am Tryz.prog G 68 [.int .i64 k] (.tup [.c (.d (.sl ((ie k).map bD))),.c (.d (.int .i64 0))]):=by
  refine aE Tryz.func68 Yw rfl rfl ?_;have hs:bQ [k]:=fun n hn=>by rw[aa6.1 hn]; exact hk
  have c1:=nD G [k] (by simp) hs;simp only[aa5,abr,zD] at c1;have c2:=iV G 2 (aW [k]);have c3:=iV G 0 [];have bl:(aW [k]).length=2:=fJ _;obtain⟨q1,q2⟩:=vY (l:=[⟨true,2,aW [k]⟩,⟨true,0,[]⟩]) (by
    intro r hr;simp only[abk,acP,or_false] at hr;rcases hr with rfl | rfl
    ·exact gC (by decide) (by omega)
    ·exact gC (by decide) (by decide)) (by simp)
  have c4:=NB G [⟨true,2,aW [k]⟩,⟨true,0,[]⟩] (by simp) (by
    intro r hr;simp only[abk,acP,or_false] at hr;rcases hr with rfl | rfl
    ·dsimp only; omega
    ·simp)
  rw[q1,q2] at c4;have hR:ie k=bh [⟨true,2,aW [k]⟩,⟨true,0,[]⟩]:=rfl;rw[← hR] at c4;simp only[aa5,abr,aM] at c4 c3;clear q1 q2 hR;generalize ie k=R at *
  generalize aW [k]=B at *
  simp only[MI,af,ae,aa,seval,iteOmega,toNatUp];refine sD (c1) ?_;refine sD (c2) ?_;refine sD (c3) ?_;refine sD (c4) ?_;exact aY
def kA (ns:List (List UInt8)):Prop:=(∀ n∈ns,n.length=16)∧1≤ns.length∧ns.length≤8
instance (ns:List (List UInt8)):Decidable (kA ns):=by unfold kA; infer_instance
def pM (ns:List (List UInt8)) (i:Nat):St:=⟨aT [(0,.w (.c (.d (db ns)))),(5,.w (.c (.d (db ns)))),(6,.w (.c (.d (.int .i64 (ns.length:Int))))),(7,.w (.c (.d (.int .i64 (i:Int)))))],hL [],uL []⟩
def oI:aL := .seq (.reg [oO 8 (.bin .lss (.t 7) (.t 6))]) (.seq (.cond (.t 8) (.skip) (.exit 0)) (.seq (.block 1 (.seq (.reg [oO 9 (.idxSl 1 (.t 5) (.t 7)),oO 10 (.load .sc (.t 9)),oM 4 10]) (.seq (.reg [oM 11 4,oO 12 (.len (.t 11)),oO 13 (.bin .neq (.t 12) (kI 16))]) (.cond (.t 13) (.seq (.reg [oO 2 (.mv (.k (.c (.d (.bool false)))))]) (.ret)) (.skip))))) (.reg [oO 14 (.bin .add (.t 7) (kI 1)),oM 7 14])))
def MJ:aD:=⟨1,23,.seq (.reg [oO 2 (.mv (.k (.c (.d (.bool false)))))]) (.seq (.seq (.reg [oM 5 0,oO 6 (.len (.t 5)),oO 7 (.mv (kI 0))]) (.block 0 (.loop oI))) (.seq (.reg [oM 15 0,oO 16 (.len (.t 15)),oO 17 (.bin .geq (.t 16) (kI 1)),oM 18 17,oG 19 (.mv (.t 0)) 18 true,oG 20 (.len (.t 19)) 18 true,oG 21 (.bin .leq (.t 20) (kI 8)) 18 true,oO 22 (.pick (.t 18) (.t 21) (.k (.c (.d (.bool false))))),oM 2 22]) (.ret))),[(2,none)]⟩
theorem Yx:aB Tryz.prog { own:=[],comp:=[],frz:=[],nils:=[] } Tryz.f70=some MJ:=by kernel_rfl
theorem Z2 (G:ah) (ns:List (List UInt8)) (hn:ns.length≤1000000):am Tryz.prog G 70 [db ns] (.w (.c (.d (.bool (decide (kA ns)))))):=by
  refine aE Tryz.func70 Yx rfl rfl ?_;simp only[MJ,af,ae,aa,seval,iteOmega,toNatUp];refine be (pM ns) (fun i=>ns.length-i) (fun i=>i≤ns.length∧∀ n∈ns.take i,n.length=16) 0 ⟨aa8 _,by rw[ab9]; exact fun n h=>by cases h⟩ ?_ ?_
  ·refine aA (fun _=>0) ?_ ?_ rfl rfl <;> simp only[wx,aw,aG,aa,seval,iteOmega,toNatUp] <;> first | rfl | exact⟨rfl,rfl⟩ | skip
  ·rintro i ⟨hi,hp⟩;by_cases hlt:i<ns.length
   ·have g:=uB hlt;have hm:ns.getD i []∈ns:=by rw[aa0,aaY hlt]; exact aby hlt
    have hs:=Dx hlt;generalize ns.getD i []=x at *
    by_cases h1:x.length=16
    ·have g1:((x.length:Int)=16)=True:=eq_true (by omega);have hn:∀ n∈ns.take (i+1),n.length=16:=by
       rw[hs];intro n q;rcases abd.1 q with q | q
       ·exact hp n q
       ·rw[aa6.1 q]; exact h1
     simp only[oI,pM,ae,aa,seval,iteOmega,toNatUp,aJ,g,g1];refine aV (i+1) (by omega) ⟨by omega,hn⟩ (aA (fun i=>i) ?_ ?_ rfl rfl) <;> simp only[wx,aw,aG,aa,seval,iteOmega,toNatUp] <;> first | rfl | exact⟨rfl,rfl⟩ | skip
    ·have g1:((x.length:Int)=16)=False:=eq_false (by omega);rw[decide_eq_false (fun q:kA ns=>h1 (q.1 x hm))];simp only[oI,pM,ae,aa,seval,iteOmega,toNatUp,aJ,g,g1];exact aF
   ·rw[aa2 (by omega)] at hp;by_cases h1:1≤ns.length
    ·have g1:((ns.length:Int)≥1)=True:=eq_true (by omega);by_cases h2:ns.length≤8
     ·have g2:((ns.length:Int)≤8)=True:=eq_true (by omega);rw[decide_eq_true (show kA ns from ⟨hp,h1,h2⟩)];simp only[oI,pM,ae,aa,seval,iteOmega,toNatUp,g1,g2];exact aF
     ·have g2:((ns.length:Int)≤8)=False:=eq_false (by omega);rw[decide_eq_false (fun q:kA ns=>h2 q.2.2)];simp only[oI,pM,ae,aa,seval,iteOmega,toNatUp,g1,g2];exact aF
    ·have g1:((ns.length:Int)≥1)=False:=eq_false (by omega);rw[decide_eq_false (fun q:kA ns=>h1 q.2.1)];simp only[oI,pM,ae,aa,seval,iteOmega,toNatUp,g1];exact aF
def mR (p:dZ):List Ek:=(if p.ho.size=0 then [] else [⟨true,6,p.ho.data.toList⟩])++(if p.pt=0 then [] else [⟨true,7,aW [p.pt]⟩])
theorem BJ (p:dZ):mR p++[⟨true,0,[]⟩]=ig p:=by unfold mR ig; rw[abe]
def rB:aD:=⟨1,26,.seq (.reg [oO 1 (.box .roBox (.t 0)),oO 2 (.mv (.k (.c .nil)))]) (.seq (.reg [oO 3 (.mv (.k (.c .nil)))]) (.seq (.seq (.reg [oO 4 (.fieldAddr 2 (.t 1)),oO 5 (.load .sc (.t 4)),oO 6 (.bin .neq (.t 5) (.k (.c (.d (.str ⟨#[]⟩)))))]) (.cond (.t 6) (.reg [oM 7 3,oO 8 (.fieldAddr 2 (.t 1)),oO 9 (.load .sc (.t 8)),oO 10 (.s2b false (.t 9)),oO 11 (.call 52 [(kI 6),(.t 10)] none),oO 12 (.bldSl false 1 3 (.agg [(.bool false),(.int .i64 0),(.sl [])]) [(0,(.t 11))]),oO 13 (.app false 3 40 (.t 7) (.t 12)),oM 3 13]) (.skip))) (.seq (.seq (.reg [oO 14 (.fieldAddr 3 (.t 1)),oO 15 (.load .sc (.t 14)),oO 16 (.bin .neq (.t 15) (kI 0))]) (.cond (.t 16) (.reg [oM 17 3,oO 18 (.fieldAddr 3 (.t 1)),oO 19 (.load .sc (.t 18)),oO 20 (.bldSl false 1 1 (.int .i64 0) [(0,(.t 19))]),oO 21 (.call 53 [(.t 20)] none),
 oO 22 (.call 52 [(kI 7),(.t 21)] none),oO 23 (.bldSl false 1 3 (.agg [(.bool false),(.int .i64 0),(.sl [])]) [(0,(.t 22))]),oO 24 (.app false 3 40 (.t 17) (.t 23)),oM 3 24]) (.skip))) (.seq (.reg [oM 25 3,oM 2 25]) (.ret))))),[(2,none)]⟩
theorem Yy:aB Tryz.prog { own:=[],comp:=[],frz:=[],nils:=[] } Tryz.f72=some rB:=by kernel_rfl
theorem Z3 (G:ah) (p:dZ) (h:p.ho.size≤1000000) (hs:bQ [p.pt]):am Tryz.prog G 72 [fb p] (.w (.c (.d (.sl ((mR p).map aM))))):=by
  refine aE Tryz.func72 Yy rfl rfl ?_;have c1:=iV G 6 p.ho.data.toList;have c2:=nD G [p.pt] (by simp) hs;simp only[aa5,abr,zD] at c2;have c3:=iV G 7 (aW [p.pt]);have sd:p.ho.size≤maxLen:=by unfold maxLen; omega
  unfold fb mR;by_cases h1:p.ho.size=0
  ·have e1:=Vu h1;rw[if_pos h1];by_cases h2:p.pt=0
   ·have g2:=eq_true h2;rw[if_pos h2];simp only[rB,af,aM,ae,aa,seval,iteOmega,toNatUp,e1,g2,sd];exact aF
   ·have g2:=eq_false h2;rw[if_neg h2];simp only[rB,af,aM,ae,aa,seval,iteOmega,toNatUp,e1,g2,sd];refine sD (c2) ?_;refine sC (c3) ?_;simp only[bP,ae,aa,seval,iteOmega,toNatUp];exact aF
  ·have e1:=Vv h1;rw[if_neg h1];by_cases h2:p.pt=0
   ·have g2:=eq_true h2;rw[if_pos h2];simp only[rB,af,aM,ae,aa,seval,iteOmega,toNatUp,e1,g2,sd];refine sC (c1) ?_;simp only[bP,g2,ae,aa,seval,iteOmega,toNatUp];exact aF
   ·have g2:=eq_false h2;rw[if_neg h2];simp only[rB,af,aM,ae,aa,seval,iteOmega,toNatUp,e1,g2,sd];refine sC (c1) ?_;simp only[bP,g2,ae,aa,seval,iteOmega,toNatUp];refine sD (c2) ?_;refine sC (c3) ?_;simp only[bP,ae,aa,seval,iteOmega,toNatUp];exact aF
def BK (r:List Fd) (c:Ch) (v a:Int) (ns:List (List UInt8)) (i:Nat):St:=⟨aT [(6,.w (.c (.rp [.sl (r.map bY)]))),(13,.w (.c (.own 1 3 0 (gm r c v a ns i).length))),(14,.w (.c (.d (.int .i64 a)))),(15,.w (.c (.ptr 2 1 0 0))),(66,.w (.c (.d (db ns)))),(67,.w (.c (.d (.int .i64 (ns.length:Int))))),(68,.w (.c (.d (.int .i64 (i:Int)))))],
  hL [(1,.row 3 ((gm r c v a ns i).map aM)),(2,.box [.d (.sl ((bp c v a 0).map bD)),.d (.sl ((bp c v a 1).map bD))])],uL [1,2]⟩
def zd:aL := .seq (.reg [oO 69 (.bin .lss (.t 68) (.t 67))]) (.seq (.cond (.t 69) (.skip) (.exit 0)) (.seq (.block 1 (.seq (.reg [oO 70 (.idxSl 1 (.t 66) (.t 68)),oO 71 (.load .sc (.t 70)),oM 18 71]) (.seq (.reg [oO 73 (.load (.ag 1) (.t 6)),oM 74 14,oO 75 (.load (.ag 2) (.t 15)),oM 76 18,oO 77 (.call 112 [(.t 73),(.t 74),(.t 75),(.t 76)] none),oM 72 77,oO 78 (.extract (.t 72) 0),oO 79 (.extract (.t 72) 1),oM 19 78,oM 20 79]) (.reg [oM 80 13,oM 81 19,oO 82 (.build [(.d (.bool false)),(.d (.int .i64 0)),.nil] [(1,1,(kI 5)),(2,1,(.t 81))]),oO 83 (.bldSl false 1 3 (.agg [(.bool false),(.int .i64 0),(.sl [])]) [(0,(.t 82))]),oO 84 (.app false 3 40 (.t 80) (.t 83)),oM 13 84])))) (.reg [oO 85 (.bin .add (.t 68) (kI 1)),oM 68 85])))
def vj:aD:=⟨5,87,.seq (.reg [oO 5 (.box .roBox (.t 0)),oO 6 (.box .roBox (.t 1)),oO 7 (.box .roBox (.t 2)),oO 10 (.mv (.k (.c .nil)))]) (.seq (.reg [oM 22 3,oO 23 (.call 111 [(.t 22),(kI 1)] none),oO 24 (.fieldAddr 0 (.t 5)),oO 25 (.load .sc (.t 24)),oO 26 (.call 18 [(.t 23),(.t 25)] none),oM 21 26,oO 27 (.extract (.t 21) 0),oO 28 (.extract (.t 21) 1),oM 11 27,oM 12 28]) (.seq (.seq (.reg [oM 29 12,oO 30 (.un .not (.t 29))]) (.cond (.t 30) (.seq (.reg [oO 31 (.call 52 [(kI 1),(.k (.c .nil))] none),oO 32 (.bldSl true 1 3 (.agg [(.bool false),(.int .i64 0),(.sl [])]) [(0,(.t 31))]),oM 10 32]) (.ret)) (.skip))) (.seq (.reg [oM 33 11,oO 34 (.bldSl false 1 1 (.int .i64 0) [(0,(.t 33))]),oO 35 (.call 53 [(.t 34)] none),oO 36 (.call 52 [(kI 1),(.t 35)] none),oO 37 (.bldSl true 1 3 (.agg [(.bool false),(.int .i64 0),(.sl [])]) [(0,(.t 36))]),
 oM 13 37]) (.seq (.reg [oM 39 3,oO 40 (.call 111 [(.t 39),(kI 4)] none),oO 41 (.fieldAddr 1 (.t 5)),oO 42 (.load .sc (.t 41)),oO 43 (.call 18 [(.t 40),(.t 42)] none),oM 38 43,oO 44 (.extract (.t 38) 0),oO 45 (.extract (.t 38) 1),oM 14 44,oM 12 45]) (.seq (.seq (.reg [oM 46 12,oO 47 (.un .not (.t 46))]) (.cond (.t 47) (.seq (.reg [oM 48 13,oO 49 (.call 52 [(kI 4),(.k (.c .nil))] none),oO 50 (.bldSl false 1 3 (.agg [(.bool false),(.int .i64 0),(.sl [])]) [(0,(.t 49))]),oO 51 (.app false 3 40 (.t 48) (.t 50)),oM 10 51]) (.ret)) (.skip))) (.seq (.reg [oM 52 13,oM 53 14,oO 54 (.bldSl false 1 1 (.int .i64 0) [(0,(.t 53))]),oO 55 (.call 53 [(.t 54)] none),oO 56 (.call 52 [(kI 4),(.t 55)] none),oO 57 (.bldSl false 1 3 (.agg [(.bool false),(.int .i64 0),(.sl [])]) [(0,(.t 56))]),oO 58 (.app false 3 40 (.t 52) (.t 57)),
 oM 13 58]) (.seq (.reg [oO 60 (.load (.ag 6) (.t 7)),oM 61 11,oM 62 14,oO 63 (.call 26 [(.t 60),(.t 61),(.t 62)] none),oM 59 63,oO 64 (.extract (.t 59) 0),oO 65 (.extract (.t 59) 1),oO 15 (.alloc [.nil,.nil]),oN (.store (.ag 2) (.t 15) (.t 64)),oM 16 65]) (.seq (.seq (.reg [oM 66 4,oO 67 (.len (.t 66)),oO 68 (.mv (kI 0))]) (.block 0 (.loop zd))) (.seq (.reg [oM 86 13,oM 10 86]) (.ret)))))))))),[(10,none)]⟩
theorem Yz:aB Tryz.prog { own:=[32,37],comp:=[],frz:=[],nils:=[] } Tryz.f71=some vj:=by kernel_rfl
theorem Z4 (G:ah) (hF:G.at 0=some (.ra (bA.map wD))) (hG:G.at 1=some (.ra (bw.map wD))) (p:dZ) (r:List Fd) (c:Ch) (l:List Ek) (ns:List (List UInt8)) (h1:p.pr.length≤1000000) (h2:p.al.length≤1000000) (hr:r.length≤1000000) (hb:∀ r∈l,r.bo.length≤65535) (hn:ns.length≤8)
    (vC:dK c) (s1:bQ p.pr) (s2:bQ p.al):am Tryz.prog G 71 [fb p,bJ r,bG c,cE l,db ns] (.w (.c (.fr 3 ((fG p r c (br l 1) (br l 4) ns).map aM)))):=by
  refine aE Tryz.func71 Yz rfl rfl ?_;have d1:=pK G l 1 fun r hr=>by have:=hb r hr; omega
  have d4:=pK G l 4 fun r hr=>by have:=hb r hr; omega
  have n1:(br l 1).length≤65535:=abG (rA _) (oW hb 1);have n4:(br l 4).length≤65535:=abG (rA _) (oW hb 4);have c1:=NE G (br l 1) p.pr (by omega) h1;have c4:=NE G (br l 4) p.al (by omega) h2;have k1:=iV G 1 [];have k4:=iV G 4 [];simp only[abr] at k1 k4
  have hA:fG p r c (br l 1) (br l 4) ns=match dj (br l 1) p.pr with
    | none=>[⟨true,1,[]⟩]
    | some v=>⟨true,1,aW [v]⟩::match dj (br l 4) p.al with
      | none=>[⟨true,4,[]⟩]
      | some a=>⟨true,4,aW [a]⟩::gv r c v a ns:=rfl
  have i1:∀ v,dj (br l 1) p.pr=some v→0≤v∧v≤65535:=fun v h=>s1 v (mg h).2
  have i4:∀ v,dj (br l 4) p.al=some v→0≤v∧v≤65535:=fun v h=>s2 v (mg h).2
  generalize br l 1=N1 at *
  generalize br l 4=N4 at *
  rw[hA];clear hA;unfold fb bJ cE at *
  generalize cV l=E at *
  rcases hv:dj N1 p.pr with _ | v
  ·rw[hv] at c1;simp only[abX,acd] at c1;unfold bG;simp only[vj,af,aM,ae,aa,seval,iteOmega,toNatUp];refine sD (d1) ?_;refine sD (c1) ?_;refine sD (k1) ?_;exact eH
  ·rw[hv] at c1;simp only[abO,ab3] at c1;have j1:=i1 v hv;have b1:=nD G [v] (by simp) (fun n hn=>by rw[aa6.1 hn]; exact j1);simp only[aa5,abr,zD] at b1;have q1:=iV G 1 (aW [v]);rcases ha:dj N4 p.al with _ | a
   ·rw[ha] at c4;simp only[abX,acd] at c4;dsimp only;generalize aW [v]=B1 at *
    unfold bG;simp only[vj,af,aM,ae,aa,seval,iteOmega,toNatUp];refine sD (d1) ?_;refine sD (c1) ?_;refine sD (b1) ?_;refine sD (q1) ?_;refine sD (d4) ?_;refine sD (c4) ?_;refine sC (k4) ?_;simp only[bP,ae,aa,seval,iteOmega,toNatUp];exact eH
   ·rw[ha] at c4;simp only[abO,ab3] at c4;have j4:=i4 a ha;have b4:=nD G [a] (by simp) (fun n hn=>by rw[aa6.1 hn]; exact j4);simp only[aa5,abr,zD] at b4;have q4:=iV G 4 (aW [a]);have kz:=NG G hF hG c v a;rw[pL vC j1 j4] at kz;have cm:=fun n:List UInt8=>Yv G r a (bp c v a 0) (bp c v a 1) n (by omega)
    have y0:gm r c v a ns 0=[⟨true,1,aW [v]⟩,⟨true,4,aW [a]⟩]:=rfl;have ye:(⟨true,1,aW [v]⟩::⟨true,4,aW [a]⟩::gv r c v a ns:List Ek)=gm r c v a ns ns.length:=by unfold gm; rw[acm]
    dsimp only;rw[ye];clear ye;unfold bG d8 bJ at *
    simp only[vj,af,aM,ae,aa,seval,iteOmega,toNatUp];refine sD (d1) ?_;refine sD (c1) ?_;refine sD (b1) ?_;refine sD (q1) ?_;refine sD (d4) ?_;refine sD (c4) ?_;refine sD (b4) ?_;refine sC (q4) ?_;simp only[bP,ae,aa,seval,iteOmega,toNatUp];refine sD (kz) ?_;refine be (BK r c v a ns) (fun i=>ns.length-i) (fun i=>i≤ns.length) 0 (aa8 _) ?_ ?_
    ·refine aA (fun i=>if i=1 then 464 else 120) ?_ ?_ rfl rfl <;> simp only[y0,aM,wx,aw,aG,aa,seval,iteOmega,toNatUp] <;> first | rfl | exact⟨rfl,rfl⟩ | skip
    ·intro i hi;have az:=oB (gm r c v a ns i);have yl:=J5 r c v a ns i;by_cases hlt:i<ns.length
     ·have g:=uB hlt;have cm:=cm (ns.getD i []);have hs:=Tm (r:=r) (c:=c) (v:=v) (a:=a) hlt;generalize ns.getD i []=x at *
      generalize hR:gm r c v a ns i=Rw at *
      generalize jc r a (bp c v a 0) (bp c v a 1) x=e at *
      simp only[zd,BK,hR,ae,aa,seval,iteOmega,toNatUp,aJ,g];refine sC (cm) ?_;simp only[bP,az,ae,aa,seval,iteOmega,toNatUp];refine aV (i+1) (by omega) (by omega) (aA (fun i=>if i=1 then 672 else 2) ?_ ?_ rfl rfl) <;> simp only[hs,abn,aM,wx,aw,aG,aa,seval,iteOmega,toNatUp] <;> first | rfl | exact⟨rfl,rfl⟩ | skip
     ·obtain rfl:i=ns.length:=by omega
      simp only[zd,BK,ae,aa,seval,iteOmega,toNatUp];exact eH
theorem VD {b:List UInt8} (hF:eK b):mO b↔nU (aI b)=true:=by
  unfold mO nU;rw[cx,cx,cx,cx,cx];simp only[abu,ac3,decide_eq_true_eq,decide_eq_false_iff_not];constructor
  ·rintro⟨_,h1,h2,h3⟩;omega
  ·rintro⟨h1,h2,h3,h4,h5⟩;exact⟨hF,by omega,by omega,by omega⟩
theorem BL {l:List Ek} {k:Int} (h:0<(ar l k).length):iJ l k=br l k:=by
  unfold iJ br du;rw[lZ (by rw[cx]; exact h)]
theorem YA {l:List Ek} (h:nU l=true):0<(ar l 1).length∧0<(ar l 4).length:=by
  unfold nU at h;simp only[abu,decide_eq_true_eq] at h;exact⟨h.1,h.2.1⟩
theorem A0 (ns:List (List UInt8)) (ho:ByteArray):mP ns ho↔kA ns∧ho.size≤255:=⟨fun ⟨a,b,c,d⟩=>⟨⟨d,a,b⟩,c⟩,fun ⟨⟨d,a,b⟩,c⟩=>⟨a,b,c,d⟩⟩
theorem YB {p:dZ} {r:List Fd} {c:Ch} {x y:List Int} {ns:List (List UInt8)} (vC:dK c) (vR:cZ r) (s1:bQ p.pr) (s2:bQ p.al) (hn:kA ns):(∀ e∈fG p r c x y ns,0≤e.ty∧e.ty≤7∧e.bo.length≤255)∧(fG p r c x y ns).length≤10:=by
  have l2:∀ v:Int,(aW [v]).length≤255:=fun v=>by rw[fJ]; exact (show 2*1≤255 by decide)
  have nl:=hn.2.2;unfold fG;rcases hv:dj x p.pr with _ | v
  ·refine⟨fun e he=>?_,by simp⟩;rw[aa6.1 he];exact gC (by decide) (by decide)
  ·have j1:=s1 v (mg hv).2;rcases ha:dj y p.al with _ | a
   ·refine⟨fun e he=>?_,by simp⟩;simp only[abk,acP,or_false] at he;rcases he with rfl | rfl
    ·exact gC (by decide) (l2 v)
    ·exact gC (by decide) (by decide)
   ·have j4:=s2 a (mg ha).2;have e:(⟨true,1,aW [v]⟩::⟨true,4,aW [a]⟩::gv r c v a ns:List Ek)=gm r c v a ns ns.length:=by unfold gm; rw[acm]
    dsimp only;rw[e];have yl:=J5 r c v a ns ns.length;exact⟨Yp vR (pL vC j1 j4) j4 hn.1,by omega⟩
def iS:aD:=⟨5,91,.seq (.reg [oO 5 (.box .roBox (.t 0)),oO 6 (.box .roBox (.t 1)),oO 7 (.box .roBox (.t 2)),oO 10 (.mv (.k (.c .nil))),oO 11 (.mv (kI 0))]) (.seq (.seq (.reg [oO 15 (.load (.ag 6) (.t 7)),oO 16 (.call 62 [(.t 15)] none),oO 17 (.un .not (.t 16)),oM 18 17,oG 19 (.load (.ag 1) (.t 6)) 18 false,oG 20 (.call 65 [(.t 19)] none) 18 false,oG 21 (.un .not (.t 20)) 18 false,oO 22 (.pick (.t 18) (.k (.c (.d (.bool true)))) (.t 21))]) (.cond (.t 22) (.seq (.reg [oO 10 (.mv (.k (.c .nil))),oO 11 (.mv (kI 3))]) (.ret)) (.skip))) (.seq (.seq (.reg [oO 23 (.fieldAddr 0 (.t 5)),oO 24 (.load .sc (.t 23)),oO 25 (.call 50 [(.t 24)] none),oO 26 (.un .not (.t 25)),oM 27 26,oG 28 (.fieldAddr 1 (.t 5)) 27 false,oG 29 (.load .sc (.t 28)) 27 false,oG 30 (.call 50 [(.t 29)] none) 27 false,oG 31 (.un .not (.t 30)) 27 false,
 oO 32 (.pick (.t 27) (.k (.c (.d (.bool true)))) (.t 31)),oM 33 32,oG 34 (.fieldAddr 3 (.t 5)) 33 false,oG 35 (.load .sc (.t 34)) 33 false,oG 36 (.bldSl false 1 1 (.int .i64 0) [(0,(.t 35))]) 33 false,oG 37 (.call 50 [(.t 36)] none) 33 false,oG 38 (.un .not (.t 37)) 33 false,oO 39 (.pick (.t 33) (.k (.c (.d (.bool true)))) (.t 38))]) (.cond (.t 39) (.seq (.reg [oO 10 (.mv (.k (.c .nil))),oO 11 (.mv (kI 4))]) (.ret)) (.skip))) (.seq (.reg [oM 41 3,oO 42 (.call 66 [(.t 41)] none),oM 40 42,oO 43 (.extract (.t 40) 0),oO 44 (.extract (.t 40) 1),oM 12 43,oM 13 44]) (.seq (.block 0 (.seq (.reg [oM 46 13,oO 47 (.un .not (.t 46)),oM 48 47,oG 49 (.mv (.t 12)) 48 false,oG 50 (.call 67 [(.t 49)] none) 48 false,oG 51 (.un .not (.t 50)) 48 false,oO 52 (.pick (.t 48) (.k (.c (.d (.bool true)))) (.t 51)),
 oM 45 52]) (.cond (.t 45) (.seq (.reg [oO 53 (.call 68 [(kI 1)] none),oO 54 (.extract (.t 53) 0),oO 55 (.extract (.t 53) 1),oM 10 54,oM 11 55]) (.ret)) (.seq (.reg [oM 57 12,oO 58 (.call 69 [(.t 57)] none),oM 56 58]) (.cond (.t 56) (.seq (.reg [oO 59 (.call 68 [(kI 0)] none),oO 60 (.extract (.t 59) 0),oO 61 (.extract (.t 59) 1),oM 10 60,oM 11 61]) (.ret)) (.seq (.reg [oM 63 4,oO 64 (.call 70 [(.t 63)] none),oO 65 (.un .not (.t 64)),oM 66 65,oG 67 (.fieldAddr 2 (.t 5)) 66 false,oG 68 (.load .sc (.t 67)) 66 false,oG 69 (.lenStr (.t 68)) 66 false,oG 70 (.bin .gtr (.t 69) (kI 255)) 66 false,oO 71 (.pick (.t 66) (.k (.c (.d (.bool true)))) (.t 70)),oM 62 71]) (.cond (.t 62) (.seq (.reg [oO 72 (.call 68 [(kI 2)] none),oO 73 (.extract (.t 72) 0),oO 74 (.extract (.t 72) 1),oM 10 73,oM 11 74]) (.ret))
 (.skip)))))))) (.seq (.reg [oO 75 (.load (.ag 4) (.t 5)),oO 76 (.load (.ag 1) (.t 6)),oO 77 (.load (.ag 6) (.t 7)),oM 78 12,oM 79 4,oO 80 (.call 71 [(.t 75),(.t 76),(.t 77),(.t 78),(.t 79)] (some (0,3))),oO 81 (.load (.ag 4) (.t 5)),oO 82 (.call 72 [(.t 81)] none),oO 83 (.app false 3 40 (.t 80) (.t 82)),oM 14 83]) (.seq (.reg [oM 84 14,oO 85 (.call 52 [(kI 0),(.k (.c .nil))] none),oO 86 (.bldSl false 1 3 (.agg [(.bool false),(.int .i64 0),(.sl [])]) [(0,(.t 85))]),oO 87 (.app false 3 40 (.t 84) (.t 86)),oO 88 (.call 10 [(.t 87)] none),oO 89 (.extract (.t 88) 0),oO 90 (.extract (.t 88) 1),oM 10 89,oM 11 90]) (.ret))))))),[(10,none),(11,none)]⟩
theorem YC:aB Tryz.prog { own:=[80],comp:=[],frz:=[],nils:=[] } Tryz.f28=some iS:=by kernel_rfl
theorem NK (G:ah) (hF:G.at 0=some (.ra (bA.map wD))) (hG:G.at 1=some (.ra (bw.map wD))) (p:dZ) (r:List Fd) (c:Ch) (b:List UInt8) (ns:List (List UInt8)) (h1:p.pr.length≤1000000) (h2:p.al.length≤1000000) (h3:p.ho.size≤1000000) (hr:r.length≤1000000) (hb:b.length≤1000000000) (hn:ns.length≤1000000) (hm:∀ n∈ns,n.length≤1000000):am Tryz.prog G 28 [fb p,bJ r,bG c,.sl (b.map bD),.sl (ns.map fun l=>D.sl (l.map bD))] (.tup [.c (.d (.sl ((gP p r c b ns).map bD))),.c (.d (.int .i64 (eL p r c)))]):=by
  refine aE Tryz.func28 YC rfl rfl ?_;have c1:=v4 G hF hG c;have c2:=AZ G r (by omega);have hno:∀ e,eL p r c=e→e≠0→gP p r c b ns=[]:=fun e q1 q2=>if_pos (by rw[q1]; exact q2)
  by_cases vC:dK c
  case neg =>
    rw[decide_eq_false vC] at c1;have E:eL p r c=3:=by unfold eL; rw[if_pos fun h=>vC h.1]
    rw[hno 3 E (by decide),E];unfold fb bJ bG at *
    simp only[iS,af,ae,aa,seval,iteOmega,toNatUp];refine sD (c1) ?_;exact aY
  rw[decide_eq_true vC] at c1;by_cases vR:cZ r
  case neg =>
    rw[decide_eq_false vR] at c2;have E:eL p r c=3:=by unfold eL; rw[if_pos fun h=>vR h.2]
    rw[hno 3 E (by decide),E];unfold fb bJ bG at *
    simp only[iS,af,ae,aa,seval,iteOmega,toNatUp];refine sD (c1) ?_;refine sD (c2) ?_;exact aY
  rw[decide_eq_true vR] at c2;have c3:=pI G p.pr (by omega);have c4:=pI G p.al (by omega);have c5:=pI G [p.pt] (by simp);simp only[aa5,abr,zD] at c5;by_cases s1:bQ p.pr
  case neg =>
    rw[decide_eq_false s1] at c3;have E:eL p r c=4:=by unfold eL; rw[if_neg (not_not_intro ⟨vC,vR⟩),if_pos fun h=>s1 h.1]
    rw[hno 4 E (by decide),E];unfold fb bJ bG at *
    simp only[iS,af,ae,aa,seval,iteOmega,toNatUp];refine sD (c1) ?_;refine sD (c2) ?_;refine sD (c3) ?_;exact aY
  rw[decide_eq_true s1] at c3;by_cases s2:bQ p.al
  case neg =>
    rw[decide_eq_false s2] at c4;have E:eL p r c=4:=by unfold eL; rw[if_neg (not_not_intro ⟨vC,vR⟩),if_pos fun h=>s2 h.2.1]
    rw[hno 4 E (by decide),E];unfold fb bJ bG at *
    simp only[iS,af,ae,aa,seval,iteOmega,toNatUp];refine sD (c1) ?_;refine sD (c2) ?_;refine sD (c3) ?_;refine sD (c4) ?_;exact aY
  rw[decide_eq_true s2] at c4;by_cases s3:bQ [p.pt]
  case neg =>
    rw[decide_eq_false s3] at c5;have E:eL p r c=4:=by unfold eL; rw[if_neg (not_not_intro ⟨vC,vR⟩),if_pos fun h=>s3 h.2.2]
    rw[hno 4 E (by decide),E];unfold fb bJ bG at *
    simp only[iS,af,ae,aa,seval,iteOmega,toNatUp];refine sD (c1) ?_;refine sD (c2) ?_;refine sD (c3) ?_;refine sD (c4) ?_;refine sD (c5) ?_;exact aY
  rw[decide_eq_true s3] at c5;have E:eL p r c=0:=by unfold eL; rw[if_neg (not_not_intro ⟨vC,vR⟩),if_neg (not_not_intro ⟨s1,s2,s3⟩)]
  have B0:gP p r c b ns=if ¬ mO b then ie 1 else if ic (aI b)=true then ie 0 else if ¬ mP ns p.ho then ie 2 else bh (fG p r c (iJ (aI b) 1) (iJ (aI b) 4) ns++ig p):=if_neg (not_not_intro E)
  rw[E];clear hno E;have c6:=BG G b hb;have r1:=BI G 1 (by decide);have r0:=BI G 0 (by decide);have r2:=BI G 2 (by decide);by_cases hFm:eK b
  case neg =>
    rw[decide_eq_false hFm,show iI b=[] from if_neg hFm] at c6;rw[B0,if_pos fun q=>hFm q.1];generalize ie 1=R at *
    generalize cE []=M at *
    clear B0 r0 r2;unfold fb bJ bG at *
    simp only[iS,af,ae,aa,seval,iteOmega,toNatUp];refine sD (c1) ?_;refine sD (c2) ?_;refine sD (c3) ?_;refine sD (c4) ?_;refine sD (c5) ?_;refine sD (c6) ?_;refine sD (r1) ?_;exact aY
  rw[decide_eq_true hFm,show iI b=aI b from if_pos hFm] at c6;obtain⟨hbo,hl⟩:=vi (b:=b);have hQ:=VD hFm;generalize aI b=L at *
  have c7:=ZZ G L;rcases hq:nU L with _ | _
  ·rw[hq] at c7;rw[B0,if_pos fun q=>by rw[hQ.1 q] at hq; cases hq];generalize ie 1=R at *
   clear B0 r0 r2;unfold fb bJ bG cE at *
   generalize cV L=M at *
   simp only[iS,af,ae,aa,seval,iteOmega,toNatUp];refine sD (c1) ?_;refine sD (c2) ?_;refine sD (c3) ?_;refine sD (c4) ?_;refine sD (c5) ?_;refine sD (c6) ?_;refine sD (c7) ?_;refine sD (r1) ?_;exact aY
  obtain⟨a1,a4⟩:=YA hq;rw[hq] at c7;rw[if_neg (not_not_intro (hQ.2 hq)),BL a1,BL a4] at B0;have c8:=NI G L (by omega);rcases hS:ic L with _ | _
  case true =>
    rw[hS] at c8;rw[B0,if_pos hS];generalize ie 0=R at *
    clear B0 r1 r2;unfold fb bJ bG cE at *
    generalize cV L=M at *
    simp only[iS,af,ae,aa,seval,iteOmega,toNatUp];refine sD (c1) ?_;refine sD (c2) ?_;refine sD (c3) ?_;refine sD (c4) ?_;refine sD (c5) ?_;refine sD (c6) ?_;refine sD (c7) ?_;refine sD (c8) ?_;refine sD (r0) ?_;exact aY
  rw[hS] at c8;rw[if_neg (by rw[hS]; decide)] at B0;have c9:=Z2 G ns hn;by_cases hN:kA ns
  case neg =>
    rw[decide_eq_false hN] at c9;rw[B0,if_pos fun q=>hN ((A0 _ _).1 q).1];generalize ie 2=R at *
    clear B0 r0 r1;unfold fb bJ bG cE at *
    generalize cV L=M at *
    simp only[iS,af,ae,aa,seval,iteOmega,toNatUp];refine sD (c1) ?_;refine sD (c2) ?_;refine sD (c3) ?_;refine sD (c4) ?_;refine sD (c5) ?_;refine sD (c6) ?_;refine sD (c7) ?_;refine sD (c8) ?_;refine sD (c9) ?_;refine sD (r2) ?_;exact aY
  rw[decide_eq_true hN] at c9;by_cases hH:p.ho.size≤255
  case neg =>
    have gH:((p.ho.size:Int)>255)=True:=eq_true (by omega);rw[B0,if_pos fun q=>hH ((A0 _ _).1 q).2];generalize ie 2=R at *
    clear B0 r0 r1;unfold fb bJ bG cE at *
    generalize cV L=M at *
    simp only[iS,af,ae,aa,seval,iteOmega,toNatUp];refine sD (c1) ?_;refine sD (c2) ?_;refine sD (c3) ?_;refine sD (c4) ?_;refine sD (c5) ?_;refine sD (c6) ?_;refine sD (c7) ?_;refine sD (c8) ?_;refine sC (c9) ?_;simp only[gH,ae,aa,seval,iteOmega,toNatUp];refine sD (r2) ?_;exact aY
  have gH:((p.ho.size:Int)>255)=False:=eq_false (by omega);rw[if_neg (not_not_intro ((A0 _ _).2 ⟨hN,hH⟩))] at B0;have ca:=Z4 G hF hG p r c L ns h1 h2 hr hbo hN.2.2 vC s1 s2;have cp:=Z3 G p h3 s3;have ce:=iV G 0 [];obtain⟨ok,ol⟩:=YB (x:=br L 1) (y:=br L 4) vC vR s1 s2 hN;obtain⟨q1,q2⟩:=Z1 hH ok ol;have hl3:=J6 p;have cn:=NA G (fG p r c (br L 1) (br L 4) ns++ig p) (by rw[aa1]; omega) (fun e he=>by
    have:e.bo.length≤255:=((abd.1 he).elim (ok e) (MH hH e)).2.2;omega)
  rw[q1,q2,← BJ] at cn;rw[B0,← BJ];have ap:=oB (mR p);have aq:=oB (fG p r c (br L 1) (br L 4) ns);have pl:(mR p).length≤3:=by have:=congrArg List.length (BJ p); rw[aa1] at this; omega
  clear B0 r0 r1 r2 ok q1 q2;generalize bh (fG p r c (br L 1) (br L 4) ns++(mR p++[⟨true,0,[]⟩]))=R at *
  generalize fG p r c (br L 1) (br L 4) ns=X at *
  generalize mR p=Y at *
  simp only[abn,aa5,abr,aM] at cn ce;unfold fb bJ bG cE db at *
  generalize cV L=M at *
  have tk:∀ a:D,((X++Y).map aM++[a]).take (X.length+Y.length+1)=X.map aM++(Y.map aM++[a]):=fun a=>by rw[aa2 (by simp; omega),abn,abe]
  simp only[iS,af,ae,aa,seval,iteOmega,toNatUp];refine sD (c1) ?_;refine sD (c2) ?_;refine sD (c3) ?_;refine sD (c4) ?_;refine sD (c5) ?_;refine sD (c6) ?_;refine sD (c7) ?_;refine sD (c8) ?_;refine sC (c9) ?_;simp only[gH,ae,aa,seval,iteOmega,toNatUp];refine sD (ca) ?_;refine sC (cp) ?_;simp only[bP,ap,ae,aa,seval,iteOmega,toNatUp];refine sC (ce) ?_;simp only[bP,ae,aa,seval,iteOmega,toNatUp];refine a8 cn (by simp only[ae,aa,seval,iteOmega,toNatUp,tk] <;> rfl) (.inr (Bl _ _ _ _)) ?_;simp only[ae,aa,seval,iteOmega,toNatUp];exact aY
def kB (l:List Ek):Int:=if 8<(ar l 5).length then 8 else if ¬ ∀ x∈jH l,x.length=104 then 3 else 0
def sE (l:List Ek):List (List UInt8):=if kB l=0 then jH l else []
def gL (x:List Ek):List (List UInt8):=x.map (·.bo)
def wd (x:List Ek) (i:Nat):St:=⟨aT [(4,.w (.c (.own 1 1 0 (gL (x.take i)).length))),(12,.w (.c (.d (.sl (x.map aM))))),(13,.w (.c (.d (.int .i64 (x.length:Int))))),(14,.w (.c (.d (.int .i64 (i:Int)))))],hL [(1,.row 1 ((gL (x.take i)).map fun l=>D.sl (l.map bD)))],uL [1]⟩
theorem Q5 (l:List (List UInt8)):dA 1 (l.map fun l=>D.sl (l.map bD))=true:=qF _ (fun _=>rfl) l
def tU:aL := .seq (.reg [oO 15 (.bin .lss (.t 14) (.t 13))]) (.seq (.cond (.t 15) (.skip) (.exit 0)) (.seq (.block 1 (.seq (.reg [oO 16 (.idxSl 3 (.t 12) (.t 14)),oO 17 (.load (.ag 3) (.t 16)),oO 6 (.alloc [(.d (.bool false)),(.d (.int .i64 0)),.nil]),oN (.store (.ag 3) (.t 6) (.t 17))]) (.seq (.seq (.reg [oO 18 (.fieldAddr 2 (.t 6)),oO 19 (.load .sc (.t 18)),oO 20 (.len (.t 19)),oO 21 (.bin .neq (.t 20) (kI 104))]) (.cond (.t 21) (.seq (.reg [oO 2 (.mv (.k (.c .nil))),oO 3 (.mv (kI 3))]) (.ret)) (.skip))) (.reg [oM 22 4,oO 23 (.fieldAddr 2 (.t 6)),oO 24 (.load .sc (.t 23)),oO 25 (.bldSl false 1 1 (.sl []) [(0,(.t 24))]),oO 26 (.app false 1 24 (.t 22) (.t 25)),oM 4 26])))) (.reg [oO 27 (.bin .add (.t 14) (kI 1)),oM 14 27])))
def A3:aD:=⟨1,29,.seq (.reg [oO 2 (.mv (.k (.c .nil))),oO 3 (.mv (kI 0))]) (.seq (.seq (.reg [oM 7 0,oO 8 (.mpGet .i64 (.sl []) false (.t 7) (kI 5)),oO 9 (.len (.t 8)),oO 10 (.bin .gtr (.t 9) (kI 8))]) (.cond (.t 10) (.seq (.reg [oO 2 (.mv (.k (.c .nil))),oO 3 (.mv (kI 8))]) (.ret)) (.skip))) (.seq (.reg [oO 4 (.nilOwn 1)]) (.seq (.seq (.reg [oM 11 0,oO 12 (.mpGet .i64 (.sl []) false (.t 11) (kI 5)),oO 13 (.len (.t 12)),oO 14 (.mv (kI 0))]) (.block 0 (.loop tU))) (.seq (.reg [oM 28 4,oM 2 28,oO 3 (.mv (kI 0))]) (.ret))))),[(2,none),(3,none)]⟩
theorem YD:aB Tryz.prog { own:=[4],comp:=[],frz:=[],nils:=[] } Tryz.f115=some A3:=by kernel_rfl
theorem Z5 (G:ah) (l:List Ek) (hl:l.length≤1000000):am Tryz.prog G 115 [cE l] (.tup [.c (.d (db (sE l))),.c (.d (.int .i64 (kB l)))]):=by
  refine aE Tryz.func115 YD rfl rfl ?_;have hk:=AQ l 5;have hE:kB l=if 8<(ar l 5).length then 8 else if ¬ ∀ x∈gL (ar l 5),x.length=104 then 3 else 0:=rfl
  have hR:sE l=if kB l=0 then gL (ar l 5) else []:=rfl
  generalize kB l=e at *
  generalize sE l=R at *
  unfold cE;generalize cV l=E at *
  generalize ar l 5=x at *
  by_cases h8:8<x.length
  ·rw[if_pos h8] at hE;subst hE;rw[if_neg (by decide)] at hR;subst hR;have g1:((x.length:Int)>8)=True:=eq_true (by omega);simp only[A3,af,db,ae,aa,seval,iteOmega,toNatUp,dk,hk,g1];exact aY
  ·rw[if_neg h8] at hE;have g1:((x.length:Int)>8)=False:=eq_false (by omega);simp only[A3,af,db,ae,aa,seval,iteOmega,toNatUp,dk,hk,g1];refine be (wd x) (fun i=>x.length-i) (fun i=>i≤x.length∧∀ b∈gL (x.take i),b.length=104) 0 ⟨aa8 _,by rw[ab9]; exact fun n h=>by cases h⟩ ?_ ?_
   ·refine aA (fun _=>32) ?_ ?_ rfl rfl <;> simp only[wx,aw,aG,aa,seval,iteOmega,toNatUp] <;> first | rfl | exact⟨rfl,rfl⟩ | skip
   ·rintro i ⟨hi,hp⟩;have az:=Q5 (gL (x.take i));have bl:(gL (x.take i)).length=i:=by unfold gL; rw[aa7,aa4]; omega
    by_cases hlt:i<x.length
    ·have g:=ll hlt;have hm:(x.getD i default).bo∈gL x:=abo.2 ⟨_,jP hlt,rfl⟩;have hs:gL (x.take (i+1))=gL (x.take i)++[(x.getD i default).bo]:=by unfold gL; rw[sQ hlt,abn]; rfl
     generalize x.getD i default=r at *
     obtain⟨rc,rt,rb⟩:=r;dsimp only at *
     by_cases h1:rb.length=104
     ·have g2:((rb.length:Int)=104)=True:=eq_true (by omega);have hn:∀ b∈gL (x.take (i+1)),b.length=104:=by
        rw[hs];intro n q;rcases abd.1 q with q | q
        ·exact hp n q
        ·rw[aa6.1 q]; exact h1
      generalize hB:gL (x.take i)=B at *
      simp only[tU,wd,db,hB,ae,aa,seval,iteOmega,toNatUp,aJ,g,aM,g2,bP];refine aV (i+1) (by omega) ⟨by omega,hn⟩ (aA (fun _=>208) ?_ ?_ rfl rfl) <;> simp only[hs,abn,wx,aw,aG,aa,seval,iteOmega,toNatUp] <;> first | rfl | exact⟨rfl,rfl⟩ | skip
     ·rw[if_pos fun q=>h1 (q rb hm)] at hE;subst hE;rw[if_neg (by decide)] at hR;subst hR;have g2:((rb.length:Int)=104)=False:=eq_false (by omega);generalize hB:gL (x.take i)=B at *
      simp only[tU,wd,db,hB,ae,aa,seval,iteOmega,toNatUp,aJ,g,aM,g2];exact aY
    ·obtain rfl:i=x.length:=by omega
     rw[acm] at hp az bl;rw[if_neg (not_not_intro hp)] at hE;subst hE;rw[if_pos rfl] at hR;subst hR;simp only[tU,wd,db,acm,ae,aa,seval,iteOmega,toNatUp];exact aY
def dv (lo lm:List Ek) (k:Int):Option Int:=if (br lm k).length=1∧(br lm k).getD 0 0∈br lo k then some ((br lm k).getD 0 0) else none
def vk:aD:=⟨3,28,.seq (.reg [oO 6 (.mv (kI 0)),oO 7 (.mv (.k (.c (.d (.bool false)))))]) (.seq (.reg [oM 9 1,oM 10 2,oO 11 (.call 111 [(.t 9),(.t 10)] none),oM 8 11]) (.seq (.seq (.reg [oM 12 8,oO 13 (.len (.t 12)),oO 14 (.bin .neq (.t 13) (kI 1)),oM 15 14,oG 16 (.mv (.t 0)) 15 false,oG 17 (.mv (.t 2)) 15 false,oG 18 (.call 111 [(.t 16),(.t 17)] none) 15 false,oG 19 (.mv (.t 8)) 15 false,oG 20 (.idxSl 1 (.t 19) (kI 0)) 15 false,oG 21 (.load .sc (.t 20)) 15 false,oG 22 (.call 56 [(.t 18),(.t 21)] none) 15 false,oG 23 (.un .not (.t 22)) 15 false,oO 24 (.pick (.t 15) (.k (.c (.d (.bool true)))) (.t 23))]) (.cond (.t 24) (.seq (.reg [oO 6 (.mv (kI 0)),oO 7 (.mv (.k (.c (.d (.bool false)))))]) (.ret)) (.skip))) (.seq (.reg [oM 25 8,oO 26 (.idxSl 1 (.t 25) (kI 0)),oO 27 (.load .sc (.t 26)),
 oM 6 27,oO 7 (.mv (.k (.c (.d (.bool true)))))]) (.ret)))),[(6,none),(7,none)]⟩
theorem YE:aB Tryz.prog { own:=[],comp:=[],frz:=[],nils:=[] } Tryz.f114=some vk:=by kernel_rfl
theorem NL (G:ah) (lo lm:List Ek) (k:Int) (ho:∀ r∈lo,r.bo.length≤65535) (hm:∀ r∈lm,r.bo.length≤65535):am Tryz.prog G 114 [cE lo,cE lm,.int .i64 k] (.tup [.c (.d (.int .i64 ((dv lo lm k).getD 0))),.c (.d (.bool (dv lo lm k).isSome))]):=by
  refine aE Tryz.func114 YE rfl rfl ?_;have c1:=pK G lm k fun r hr=>by have:=hm r hr; omega
  have c2:=pK G lo k fun r hr=>by have:=ho r hr; omega
  have n2:(br lo k).length≤65535:=abG (rA _) (oW ho k);have c3:=ND G (br lo k) ((br lm k).getD 0 0) (by omega);have hT:dv lo lm k=if (br lm k).length=1∧(br lm k).getD 0 0∈br lo k then some ((br lm k).getD 0 0) else none:=rfl
  unfold cE at *
  generalize dv lo lm k=T at *
  generalize br lo k=O at *
  generalize hN:br lm k=N at *
  generalize cV lo=E1 at *
  generalize cV lm=E2 at *
  by_cases h1:N.length=1
  ·have g1:((N.length:Int)=1)=True:=eq_true (by omega);have g:=ly (l:=N) (i:=0) (by omega);generalize N.getD 0 0=v at *
   by_cases h2:v∈O
   ·rw[if_pos ⟨h1,h2⟩] at hT;rw[decide_eq_true h2] at c3;subst hT;rw[abO,ab3];simp only[vk,af,ae,aa,seval,iteOmega,toNatUp];refine sC (c1) ?_;simp only[g1,ae,aa,seval,iteOmega,toNatUp];refine sC (c2) ?_;simp only[aJ,g,zD,ae,aa,seval,iteOmega,toNatUp];refine sC (c3) ?_;simp only[aJ,g,zD,ae,aa,seval,iteOmega,toNatUp];exact aY
   ·rw[if_neg fun q=>h2 q.2] at hT;rw[decide_eq_false h2] at c3;subst hT;rw[abX,acd];simp only[vk,af,ae,aa,seval,iteOmega,toNatUp];refine sC (c1) ?_;simp only[g1,ae,aa,seval,iteOmega,toNatUp];refine sC (c2) ?_;simp only[aJ,g,zD,ae,aa,seval,iteOmega,toNatUp];refine sD (c3) ?_;exact aY
  ·have g1:((N.length:Int)=1)=False:=eq_false (by omega);rw[if_neg fun q=>h1 q.1] at hT;subst hT;rw[abX,acd];simp only[vk,af,ae,aa,seval,iteOmega,toNatUp];refine sC (c1) ?_;simp only[g1,ae,aa,seval,iteOmega,toNatUp];exact aY
theorem Z6 {b:List UInt8} {v:Int} (h:v∈eS b):0≤v∧v≤65535:=by
  unfold eS at h;split at h
  ·rename_i he;unfold lJ jG at h;obtain⟨i,hi,rfl⟩:=abo.1 h;have:=acD.1 hi;exact Xx (by omega)
  ·cases h
theorem NM {lo lm:List Ek} {k v:Int} (h:dv lo lm k=some v):0≤v∧v≤65535:=by
  unfold dv at h;split at h
  ·rename_i q;cases h;exact Z6 q.2
  ·cases h
def lN (lo lm:List Ek):Int:=if ¬ ((dv lo lm 1).isSome=true∧(dv lo lm 4).isSome=true∧0<(ar lm 5).length) then 10 else kB lm
def qp (c:Ch) (lo lm:List Ek):xf:=if lN lo lm=0 then ⟨(dv lo lm 1).getD 0,(dv lo lm 4).getD 0,bp c ((dv lo lm 1).getD 0) ((dv lo lm 4).getD 0) 0,bp c ((dv lo lm 1).getD 0) ((dv lo lm 4).getD 0) 1,jH lm,du lm 6,(aZ (du lm 7):Int)⟩ else qk
theorem k9:nS qk=.agg [.int .i64 0,.int .i64 0,.sl [],.sl [],.sl [],.str ⟨#[]⟩,.int .i64 0]:=rfl
def pn:aD:=⟨3,68,.seq (.reg [oO 3 (.box .roBox (.t 0)),oO 6 (.alloc [(.d (.int .i64 0)),(.d (.int .i64 0)),.nil,.nil,.nil,(.d (.str ⟨#[]⟩)),(.d (.int .i64 0))]),oO 7 (.mv (kI 0))]) (.seq (.reg [oM 17 1,oM 18 2,oO 19 (.call 114 [(.t 17),(.t 18),(kI 1)] none),oM 16 19,oO 20 (.extract (.t 16) 0),oO 21 (.extract (.t 16) 1),oM 8 20,oM 9 21]) (.seq (.reg [oM 23 1,oM 24 2,oO 25 (.call 114 [(.t 23),(.t 24),(kI 4)] none),oM 22 25,oO 26 (.extract (.t 22) 0),oO 27 (.extract (.t 22) 1),oM 10 26,oM 11 27]) (.seq (.seq (.reg [oM 28 9,oO 29 (.un .not (.t 28)),oM 30 29,oG 31 (.mv (.t 11)) 30 false,oG 32 (.un .not (.t 31)) 30 false,oO 33 (.pick (.t 30) (.k (.c (.d (.bool true)))) (.t 32)),oM 34 33,oG 35 (.mv (.t 2)) 34 false,oG 36 (.call 80 [(.t 35),(kI 5)] none) 34 false,oG 37 (.un .not (.t 36)) 34 false,
 oO 38 (.pick (.t 34) (.k (.c (.d (.bool true)))) (.t 37))]) (.cond (.t 38) (.seq (.reg [oO 39 (.build [(.d (.int .i64 0)),(.d (.int .i64 0)),.nil,.nil,.nil,(.d (.str ⟨#[]⟩)),(.d (.int .i64 0))] []),oN (.store (.ag 7) (.t 6) (.t 39)),oO 7 (.mv (kI 10))]) (.ret)) (.skip))) (.seq (.reg [oM 41 2,oO 42 (.call 115 [(.t 41)] none),oM 40 42,oO 43 (.extract (.t 40) 0),oO 44 (.extract (.t 40) 1),oM 12 43,oM 13 44]) (.seq (.seq (.reg [oM 45 13,oO 46 (.bin .neq (.t 45) (kI 0))]) (.cond (.t 46) (.seq (.reg [oO 47 (.build [(.d (.int .i64 0)),(.d (.int .i64 0)),.nil,.nil,.nil,(.d (.str ⟨#[]⟩)),(.d (.int .i64 0))] []),oM 48 13,oN (.store (.ag 7) (.t 6) (.t 47)),oM 7 48]) (.ret)) (.skip))) (.seq (.reg [oO 50 (.load (.ag 6) (.t 3)),oM 51 8,oM 52 10,oO 53 (.call 26 [(.t 50),(.t 51),(.t 52)] none),oM 49 53,oO 54 (.extract (.t 49) 0),
 oO 55 (.extract (.t 49) 1),oO 14 (.alloc [.nil,.nil]),oN (.store (.ag 2) (.t 14) (.t 54)),oM 15 55]) (.seq (.reg [oM 56 8,oM 57 10,oO 58 (.load (.ag 2) (.t 14)),oM 59 12,oM 60 2,oO 61 (.call 116 [(.t 60),(kI 6)] none),oO 62 (.b2s (.t 61)),oM 63 2,oO 64 (.call 116 [(.t 63),(kI 7)] none),oO 65 (.call 48 [(.t 64)] none),oO 66 (.conv .i64 (.t 65)),oO 67 (.build [(.d (.int .i64 0)),(.d (.int .i64 0)),.nil,.nil,.nil,(.d (.str ⟨#[]⟩)),(.d (.int .i64 0))] [(0,1,(.t 56)),(1,1,(.t 57)),(2,2,(.t 58)),(4,1,(.t 59)),(5,1,(.t 62)),(6,1,(.t 66))]),oN (.store (.ag 7) (.t 6) (.t 67)),oO 7 (.mv (kI 0))]) (.ret)))))))),[(6,(some (.ag 7))),(7,none)]⟩
theorem YF:aB Tryz.prog { own:=[],comp:=[],frz:=[],nils:=[] } Tryz.f81=some pn:=by kernel_rfl
theorem Z7 (G:ah) (hF:G.at 0=some (.ra (bA.map wD))) (hG:G.at 1=some (.ra (bw.map wD))) (c:Ch) (lo lm:List Ek) (vC:dK c) (ho:∀ r∈lo,r.bo.length≤65535) (hm:∀ r∈lm,r.bo.length≤65535) (hl:lm.length≤1000000) (h7:(du lm 7).length≤2):am Tryz.prog G 81 [bG c,cE lo,cE lm] (.tup [.c (.d (nS (qp c lo lm))),.c (.d (.int .i64 (lN lo lm)))]):=by
  refine aE Tryz.func81 YF rfl rfl ?_;have c1:=NL G lo lm 1 ho hm;have c4:=NL G lo lm 4 ho hm;have c5:=mo G lm 5;have c6:=Z5 G lm hl;have b6:=BF G lm 6;have b7:=BF G lm 7;have hE:lN lo lm=if ¬ ((dv lo lm 1).isSome=true∧(dv lo lm 4).isSome=true∧0<(ar lm 5).length) then 10 else kB lm:=rfl
  have hT:qp c lo lm=if lN lo lm=0 then ⟨(dv lo lm 1).getD 0,(dv lo lm 4).getD 0,bp c ((dv lo lm 1).getD 0) ((dv lo lm 4).getD 0) 0,bp c ((dv lo lm 1).getD 0) ((dv lo lm 4).getD 0) 1,jH lm,du lm 6,(aZ (du lm 7):Int)⟩ else qk:=rfl
  have hCR:kB lm=0→sE lm=jH lm:=fun h=>if_pos h
  have j1:=fun v=>NM (lo:=lo) (lm:=lm) (k:=1) (v:=v)
  have j4:=fun v=>NM (lo:=lo) (lm:=lm) (k:=4) (v:=v)
  have gt:=mj G (du lm 7) (by omega);have gb:aZ (du lm 7)<65536:=by
    rcases abD (du lm 7).length 2 with h | h
    ·match hx:du lm 7,h with
     | [],_=>decide
     | [x],_=>have:=(jK 1 [x] rfl (by decide)).1; omega
    ·exact (jK 2 (du lm 7) (by omega) (by decide)).1
  unfold cE at *
  generalize qp c lo lm=T at *
  generalize lN lo lm=e at *
  generalize dv lo lm 1=t1 at *
  generalize dv lo lm 4=t4 at *
  generalize (ar lm 5).length=n5 at *
  generalize kB lm=ce at *
  generalize sE lm=cR at *
  generalize jH lm=cL at *
  generalize aZ (du lm 7)=P7 at *
  generalize du lm 6=B6 at *
  generalize du lm 7=B7 at *
  generalize cV lo=E1 at *
  generalize cV lm=E2 at *
  have bad:e=10→T=qk:=fun h=>by rw[hT,if_neg (by rw[h]; decide)]
  rcases t1 with _ | v
  ·rw[if_pos (fun q=>by cases q.1)] at hE;rw[bad hE,hE,k9];simp only[abX,acd] at c1;unfold bG;generalize t4.getD 0=w4 at *
   generalize t4.isSome=s4 at *
   simp only[pn,af,ae,aa,seval,iteOmega,toNatUp];refine sD (c1) ?_;refine sD (c4) ?_;exact aY
  ·simp only[abO,ab3] at c1;rcases t4 with _ | a
   ·rw[if_pos (fun q=>by cases q.2.1)] at hE;rw[bad hE,hE,k9];simp only[abX,acd] at c4;unfold bG;simp only[pn,af,ae,aa,seval,iteOmega,toNatUp];refine sD (c1) ?_;refine sD (c4) ?_;exact aY
   ·simp only[abO,ab3] at c4;by_cases h5:0<n5
    ·rw[decide_eq_true h5] at c5;rw[if_neg (not_not_intro ⟨rfl,rfl,h5⟩)] at hE;subst hE;by_cases h0:e=0
     ·subst h0;rw[if_pos rfl] at hT;subst hT;rw[hCR rfl] at c6;have kz:=NG G hF hG c v a;rw[pL vC (j1 v rfl) (j4 a rfl)] at kz;simp only[abO];unfold nS db bG d8 at *
      generalize bp c v a 0=U at *
      generalize bp c v a 1=W at *
      simp only[pn,af,ae,aa,seval,iteOmega,toNatUp];refine sD (c1) ?_;refine sD (c4) ?_;refine sD (c5) ?_;refine sD (c6) ?_;refine sD (kz) ?_;refine sC (b6) ?_;simp only[tA,ae,aa,seval,iteOmega,toNatUp];refine sD (b7) ?_;refine sD (gt) ?_;exact aY
     ·have g0:=eq_false h0;rw[if_neg h0] at hT;subst hT;rw[k9];unfold db bG at *
      generalize (cR.map fun l=>D.sl (l.map bD))=cc at *
      simp only[pn,af,ae,aa,seval,iteOmega,toNatUp];refine sD (c1) ?_;refine sD (c4) ?_;refine sD (c5) ?_;refine sC (c6) ?_;simp only[g0,ae,aa,seval,iteOmega,toNatUp];exact aY
    ·rw[decide_eq_false h5] at c5;rw[if_pos (fun q=>h5 q.2.2)] at hE;rw[bad hE,hE,k9];unfold bG;simp only[pn,af,ae,aa,seval,iteOmega,toNatUp];refine sD (c1) ?_;refine sD (c4) ?_;refine sD (c5) ?_;exact aY
theorem YG {x y:List Int} (h:dD x y=0):br (dT x y) 1=x∧br (dT x y) 4=y:=by
  obtain⟨h1,h2,_⟩:=r9 h;obtain⟨a1,a4,_⟩:=Nt x y;unfold br du;rw[a1,a4];exact⟨lY h1,lY h2⟩
theorem MK {q:List UInt8} (h:jd q):br (aI q) 1=iK q∧br (aI q) 4=iL q:=by
  obtain⟨_,_,h3,h4⟩:=h;have h5:=(Bz h3).2.1;rw[h4] at h5;have:=YG h3;rw[← h5] at this;exact this
theorem VE {q:List UInt8} (hF:eK q):jd q↔(dD (br (aI q) 1) (br (aI q) 4)=0∧bF (br (aI q) 1) (br (aI q) 4)=q):=by
  constructor
  ·intro h;obtain⟨e1,e2⟩:=MK h;rw[e1,e2];exact⟨h.2.2.1,h.2.2.2⟩
  ·rintro⟨h1,h2⟩;have:=(Of h1).1;rw[h2] at this;exact this
def vl:aD:=⟨1,31,.seq (.reg [oO 2 (.mv (.k (.c (.d (.mp .i64 []))))),oO 3 (.mv (.k (.c (.d (.bool false)))))]) (.seq (.reg [oM 9 0,oO 10 (.call 66 [(.t 9)] none),oM 8 10,oO 11 (.extract (.t 8) 0),oO 12 (.extract (.t 8) 1),oM 4 11,oM 5 12]) (.seq (.seq (.reg [oM 13 5,oO 14 (.un .not (.t 13))]) (.cond (.t 14) (.seq (.reg [oO 2 (.mv (.k (.c (.d (.mp .i64 []))))),oO 3 (.mv (.k (.c (.d (.bool false)))))]) (.ret)) (.skip))) (.seq (.reg [oM 16 4,oO 17 (.call 111 [(.t 16),(kI 1)] none),oM 18 4,oO 19 (.call 111 [(.t 18),(kI 4)] none),oO 20 (.call 16 [(.t 17),(.t 19)] none),oM 15 20,oO 21 (.extract (.t 15) 0),oO 22 (.extract (.t 15) 1),oM 6 21,oM 7 22]) (.seq (.reg [oM 23 4,oM 24 7,oO 25 (.bin .eql (.t 24) (kI 0)),oM 26 25,oG 27 (.mv (.t 6)) 26 true,oG 28 (.mv (.t 0)) 26 true,oG 29 (.call 104 [(.t 27),(.t 28)] none) 26 true,
 oO 30 (.pick (.t 26) (.t 29) (.k (.c (.d (.bool false))))),oM 2 23,oM 3 30]) (.ret))))),[(2,none),(3,none)]⟩
theorem YH:aB Tryz.prog { own:=[],comp:=[],frz:=[],nils:=[] } Tryz.f79=some vl:=by kernel_rfl
theorem Z8 (G:ah) (b:List UInt8) (hb:b.length≤1000000000):am Tryz.prog G 79 [.sl (b.map bD)] (.tup [.c (.d (cE (iI b))),.c (.d (.bool (decide (jd b))))]):=by
  refine aE Tryz.func79 YH rfl rfl ?_;have c:=BG G b hb;by_cases hF:eK b
  ·have hQ:=VE hF;rw[decide_eq_true hF,show iI b=aI b from if_pos hF] at c;rw[show iI b=aI b from if_pos hF];obtain⟨hbo,hl⟩:=vi (b:=b);generalize aI b=L at *
   have d1:=pK G L 1 fun r hr=>by have:=hbo r hr; omega
   have d4:=pK G L 4 fun r hr=>by have:=hbo r hr; omega
   have n1:(br L 1).length≤65535:=abG (rA _) (oW hbo 1);have n4:(br L 4).length≤65535:=abG (rA _) (oW hbo 4);have cq:=BE G (br L 1) (br L 4) (by omega) (by omega);have cs:=uZ G (bF (br L 1) (br L 4)) b;unfold cE at *
   generalize br L 1=N1 at *
   generalize br L 4=N4 at *
   generalize cV L=E at *
   by_cases h0:dD N1 N4=0
   ·rw[h0] at cq;have hd:decide (jd b)=(bF N1 N4==b):=by
      by_cases h1:bF N1 N4=b
      ·rw[decide_eq_true (hQ.2 ⟨h0,h1⟩),h1]; simp
      ·rw[decide_eq_false fun q=>h1 (hQ.1 q).2]; simp[h1]
    rw[hd];generalize (bF N1 N4==b)=d at *
    generalize bF N1 N4=R at *
    clear hQ hd;simp only[vl,af,ae,aa,seval,iteOmega,toNatUp];refine sD (c) ?_;refine sD (d1) ?_;refine sD (d4) ?_;refine sD (cq) ?_;refine sD (cs) ?_;exact aY
   ·have g0:=eq_false h0;rw[decide_eq_false fun q=>h0 (hQ.1 q).1];generalize dD N1 N4=e at *
    generalize bF N1 N4=R at *
    clear hQ;simp only[vl,af,ae,aa,seval,iteOmega,toNatUp];refine sD (c) ?_;refine sD (d1) ?_;refine sD (d4) ?_;refine sC (cq) ?_;simp only[g0,ae,aa,seval,iteOmega,toNatUp];exact aY
  ·rw[decide_eq_false hF,show iI b=[] from if_neg hF,qZ] at c;rw[decide_eq_false fun q:jd b=>hF q.1,show iI b=[] from if_neg hF,qZ];simp only[vl,af,ae,aa,seval,iteOmega,toNatUp];refine sD (c) ?_;exact aY
theorem ML {b:List UInt8} (h:eK b):(ar (aI b) 1).length≤1∧(ar (aI b) 4).length≤1∧(ar (aI b) 6).length≤1∧(ar (aI b) 7).length≤1:=by
  obtain⟨_,⟨_,_,_,h4,h5,h6,h7⟩,_⟩:=h;rw[cx] at h4 h5 h6 h7;exact⟨h4,h5,h6,h7⟩
theorem wN {l:List Ek} {k:Int} (h:ar l k=[]):du l k=[]∧br l k=[]:=by
  have:du l k=[]:=by unfold du; rw[h]; rfl
  exact⟨this,by unfold br; rw[this]; rfl⟩
theorem NO {lo lm:List Ek} {k:Int} {x:List Int} (h:(ar lm k).length≤1) (hx:br lo k=x):fg lm k x=dv lo lm k:=by
  unfold fg dv;rw[hx,cx];by_cases h1:(ar lm k).length=1
  ·rw[if_pos h1,BL (by omega)]
  ·have h2:ar lm k=[]:=abz.1 (by omega);rw[if_neg h1,(wN h2).2,if_neg (by simp)]
theorem YI {l:List Ek} (h:(ar l 6).length≤1):qm l=du l 6:=by
  unfold qm;rw[cx];by_cases h1:(ar l 6).length=1
  ·rw[if_pos h1,lZ (by rw[cx]; omega)]; rfl
  ·rw[if_neg h1,(wN (abz.1 (by omega))).1]
theorem YJ {l:List Ek} (h:(ar l 7).length≤1):qn l=(aZ (du l 7):Int):=by
  unfold qn;rw[cx];by_cases h1:(ar l 7).length=1
  ·rw[if_pos h1,lZ (by rw[cx]; omega)]; rfl
  ·rw[if_neg h1,(wN (abz.1 (by omega))).1]; rfl
theorem hm7 {b:List UInt8} (h:eK b):(du (aI b) 7).length≤2:=by
  obtain⟨_,_,_,h7⟩:=ML h;rcases abD 0 (ar (aI b) 7).length with h1 | h1
  ·have hm:=acw.1 (jP h1);have:=(h.2.2 _ hm.1).2 (of_decide_eq_true hm.2);exact Nat.le_of_eq this
  ·rw[(wN (abz.1 (by omega))).1]; decide
theorem Z9 {c:Ch} {q b:List UInt8} (vC:dK c) (hq:jd q) (hF:eK b) (hS:ic (aI b)=false) (h2:¬ 0<(ar (aI b) 2).length):ei c q b=lN (aI q) (aI b)∧mQ c q b=qp c (aI q) (aI b):=by
  obtain⟨k1,k4,k6,k7⟩:=ML hF;obtain⟨x1,x4⟩:=MK hq;have o1:=NO (lo:=aI q) (lm:=aI b) k1 x1;have o4:=NO (lo:=aI q) (lm:=aI b) k4 x4;have e:ei c q b=lN (aI q) (aI b):=by
    unfold ei lN kB;rw[if_neg (not_not_intro vC),if_neg (not_not_intro hq),if_neg (not_not_intro hF),if_neg (by rw[hS]; decide),cx,if_neg (by omega),o1,o4,cx];by_cases h:(dv (aI q) (aI b) 1).isSome=true∧(dv (aI q) (aI b) 4).isSome=true∧0<(ar (aI b) 5).length
    ·rw[if_neg (not_not_intro h),if_neg (not_not_intro ⟨h.1,h.2.1,by omega⟩)]
    ·rw[if_pos h,if_pos fun g=>h ⟨g.1,g.2.1,by omega⟩]
  refine⟨e,?_⟩;unfold mQ qp;rw[e,o1,o4,YI k6,YJ k7]
def nv:aD:=⟨3,43,.seq (.reg [oO 3 (.box .roBox (.t 0)),oO 6 (.alloc [(.d (.int .i64 0)),(.d (.int .i64 0)),.nil,.nil,.nil,(.d (.str ⟨#[]⟩)),(.d (.int .i64 0))]),oO 7 (.mv (kI 0))]) (.seq (.seq (.reg [oO 11 (.load (.ag 6) (.t 3)),oO 12 (.call 62 [(.t 11)] none),oO 13 (.un .not (.t 12))]) (.cond (.t 13) (.seq (.reg [oO 14 (.build [(.d (.int .i64 0)),(.d (.int .i64 0)),.nil,.nil,.nil,(.d (.str ⟨#[]⟩)),(.d (.int .i64 0))] []),oN (.store (.ag 7) (.t 6) (.t 14)),oO 7 (.mv (kI 3))]) (.ret)) (.skip))) (.seq (.reg [oM 16 1,oO 17 (.call 79 [(.t 16)] none),oM 15 17,oO 18 (.extract (.t 15) 0),oO 19 (.extract (.t 15) 1),oM 8 18,oM 9 19]) (.seq (.seq (.reg [oM 20 9,oO 21 (.un .not (.t 20))]) (.cond (.t 21) (.seq (.reg [oO 22 (.build [(.d (.int .i64 0)),(.d (.int .i64 0)),.nil,.nil,.nil,(.d (.str ⟨#[]⟩)),(.d (.int .i64 0))] []),
 oN (.store (.ag 7) (.t 6) (.t 22)),oO 7 (.mv (kI 3))]) (.ret)) (.skip))) (.seq (.reg [oM 24 2,oO 25 (.call 66 [(.t 24)] none),oM 23 25,oO 26 (.extract (.t 23) 0),oO 27 (.extract (.t 23) 1),oM 10 26,oM 9 27]) (.seq (.seq (.reg [oM 28 9,oO 29 (.un .not (.t 28))]) (.cond (.t 29) (.seq (.reg [oO 30 (.build [(.d (.int .i64 0)),(.d (.int .i64 0)),.nil,.nil,.nil,(.d (.str ⟨#[]⟩)),(.d (.int .i64 0))] []),oN (.store (.ag 7) (.t 6) (.t 30)),oO 7 (.mv (kI 3))]) (.ret)) (.skip))) (.seq (.seq (.reg [oM 31 10,oO 32 (.call 69 [(.t 31)] none)]) (.cond (.t 32) (.seq (.reg [oO 33 (.build [(.d (.int .i64 0)),(.d (.int .i64 0)),.nil,.nil,.nil,(.d (.str ⟨#[]⟩)),(.d (.int .i64 0))] []),oN (.store (.ag 7) (.t 6) (.t 33)),oO 7 (.mv (kI 11))]) (.ret)) (.skip))) (.seq (.seq (.reg [oM 34 10,oO 35 (.call 80 [(.t 34),(kI 2)] none)])
 (.cond (.t 35) (.seq (.reg [oO 36 (.build [(.d (.int .i64 0)),(.d (.int .i64 0)),.nil,.nil,.nil,(.d (.str ⟨#[]⟩)),(.d (.int .i64 0))] []),oN (.store (.ag 7) (.t 6) (.t 36)),oO 7 (.mv (kI 7))]) (.ret)) (.skip))) (.seq (.reg [oO 37 (.load (.ag 6) (.t 3)),oM 38 8,oM 39 10,oO 40 (.call 81 [(.t 37),(.t 38),(.t 39)] none),oO 41 (.extract (.t 40) 0),oO 42 (.extract (.t 40) 1),oN (.store (.ag 7) (.t 6) (.t 41)),oM 7 42]) (.ret))))))))),[(6,(some (.ag 7))),(7,none)]⟩
theorem YK:aB Tryz.prog { own:=[],comp:=[],frz:=[],nils:=[] } Tryz.f30=some nv:=by kernel_rfl
theorem NP (G:ah) (hF:G.at 0=some (.ra (bA.map wD))) (hG:G.at 1=some (.ra (bw.map wD))) (c:Ch) (q b:List UInt8) (hq:q.length≤1000000000) (hb:b.length≤1000000000):am Tryz.prog G 30 [bG c,.sl (q.map bD),.sl (b.map bD)] (.tup [.c (.d (nS (mQ c q b))),.c (.d (.int .i64 (ei c q b)))]):=by
  refine aE Tryz.func30 YK rfl rfl ?_;have c1:=v4 G hF hG c;have hno:∀ e,ei c q b=e→e≠0→mQ c q b=qk:=fun e h1 h2=>if_neg (by rw[h1]; exact h2)
  by_cases vC:dK c
  case neg =>
    rw[decide_eq_false vC] at c1;have E:ei c q b=3:=if_pos vC;rw[hno 3 E (by decide),E,k9];unfold bG at *
    simp only[nv,af,ae,aa,seval,iteOmega,toNatUp];refine sD (c1) ?_;exact aY
  rw[decide_eq_true vC] at c1;have c2:=Z8 G q hq;by_cases hQ:jd q
  case neg =>
    rw[decide_eq_false hQ] at c2;have E:ei c q b=3:=by unfold ei; rw[if_neg (not_not_intro vC),if_pos hQ]
    rw[hno 3 E (by decide),E,k9];unfold bG cE at *
    simp only[nv,af,ae,aa,seval,iteOmega,toNatUp];refine sD (c1) ?_;refine sD (c2) ?_;exact aY
  rw[decide_eq_true hQ,show iI q=aI q from if_pos hQ.1] at c2;have c3:=BG G b hb;by_cases hFm:eK b
  case neg =>
    rw[decide_eq_false hFm] at c3;have E:ei c q b=3:=by unfold ei; rw[if_neg (not_not_intro vC),if_neg (not_not_intro hQ),if_pos hFm]
    rw[hno 3 E (by decide),E,k9];unfold bG cE at *
    simp only[nv,af,ae,aa,seval,iteOmega,toNatUp];refine sD (c1) ?_;refine sD (c2) ?_;refine sD (c3) ?_;exact aY
  rw[decide_eq_true hFm,show iI b=aI b from if_pos hFm] at c3;obtain⟨hbo,hl⟩:=vi (b:=b);obtain⟨hbq,_⟩:=vi (b:=q);have c4:=NI G (aI b) (by omega);rcases hS:ic (aI b) with _ | _
  case true =>
    rw[hS] at c4;have E:ei c q b=11:=by unfold ei; rw[if_neg (not_not_intro vC),if_neg (not_not_intro hQ),if_neg (not_not_intro hFm),if_pos hS]
    rw[hno 11 E (by decide),E,k9];unfold bG cE at *
    generalize cV (aI q)=E1 at *
    generalize cV (aI b)=E2 at *
    simp only[nv,af,ae,aa,seval,iteOmega,toNatUp];refine sD (c1) ?_;refine sD (c2) ?_;refine sD (c3) ?_;refine sD (c4) ?_;exact aY
  rw[hS] at c4;have c5:=mo G (aI b) 2;by_cases h2:0<(ar (aI b) 2).length
  ·rw[decide_eq_true h2] at c5;have E:ei c q b=7:=by unfold ei; rw[if_neg (not_not_intro vC),if_neg (not_not_intro hQ),if_neg (not_not_intro hFm),if_neg (by rw[hS]; decide),if_pos (by rw[cx]; omega)]
   rw[hno 7 E (by decide),E,k9];unfold bG cE at *
   generalize cV (aI q)=E1 at *
   generalize cV (aI b)=E2 at *
   simp only[nv,af,ae,aa,seval,iteOmega,toNatUp];refine sD (c1) ?_;refine sD (c2) ?_;refine sD (c3) ?_;refine sD (c4) ?_;refine sD (c5) ?_;exact aY
  ·rw[decide_eq_false h2] at c5;obtain⟨e1,e2⟩:=Z9 vC hQ hFm hS h2;rw[e1,e2];have c6:=Z7 G hF hG c (aI q) (aI b) vC hbq hbo (by omega) (hm7 hFm);generalize qp c (aI q) (aI b)=T at *
   generalize lN (aI q) (aI b)=e at *
   unfold nS at *
   unfold bG cE at *
   generalize cV (aI q)=E1 at *
   generalize cV (aI b)=E2 at *
   simp only[nv,af,ae,aa,seval,iteOmega,toNatUp];refine sD (c1) ?_;refine sD (c2) ?_;refine sD (c3) ?_;refine sD (c4) ?_;refine sD (c5) ?_;refine sD (c6) ?_;exact aY


def je (p:dZ):List Ek:=if p.ho.size=0 then [] else [⟨true,6,p.ho.data.toList⟩]
def jf (p:dZ):List Ek:=if p.pt=0 then [] else [⟨true,7,aW [p.pt]⟩]
theorem A5 (p:dZ):ig p=je p++(jf p++[cv]):=rfl
theorem YM {p:dZ} (h:p.ho.size≤255):(∀ r∈je p,r.ty=6)∧(je p).length≤1∧∀ r∈je p,r.bo.length≤255:=by
  unfold je;split
  ·exact⟨fun r hr=>(by cases hr),aa8 _,fun r hr=>(by cases hr)⟩
  ·exact⟨fun r hr=>(by rw[aa6.1 hr]),aba _,fun r hr=>by rw[aa6.1 hr]; exact h⟩
theorem YN (p:dZ):(∀ r∈jf p,r.ty=7)∧(jf p).length≤1∧∀ r∈jf p,r.bo.length=2:=by
  unfold jf;split
  ·exact⟨fun r hr=>(by cases hr),aa8 _,fun r hr=>(by cases hr)⟩
  ·exact⟨fun r hr=>(by rw[aa6.1 hr]),aba _,fun r hr=>by rw[aa6.1 hr]; exact fJ [p.pt]⟩
theorem YO {L:List Ek} {p:dZ} (h:ar L 6=je p):qm L=p.ho.data.toList:=by
  unfold qm;by_cases h0:p.ho.size=0
  ·have:ar L 6=[]:=by rw[h]; exact if_pos h0
   rw[cx,this,if_neg (show ¬ ([]:List Ek).length=1 by decide)];exact (abz.1 (show p.ho.data.toList.length=0 from h0)).symm
  ·have e:ar L 6=[⟨true,6,p.ho.data.toList⟩]:=by rw[h]; exact if_neg h0
   have hl:(bS L 6).length=1:=by rw[cx,e]; rfl
   rw[if_pos hl,lZ (by omega),e]; rfl
theorem YP {L:List Ek} {p:dZ} (hp:0≤p.pt∧p.pt≤65535) (h:ar L 7=jf p):qn L=p.pt:=by
  unfold qn;by_cases h0:p.pt=0
  ·have:ar L 7=[]:=by rw[h]; exact if_pos h0
   rw[cx,this,if_neg (show ¬ ([]:List Ek).length=1 by decide),h0]
  ·have e:ar L 7=[⟨true,7,aW [p.pt]⟩]:=by rw[h]; exact if_neg h0
   have hl:(bS L 7).length=1:=by rw[cx,e]; rfl
   rw[if_pos hl,lZ (by omega),e]
   show (aZ (aW [p.pt]):Int)=_
   rw[show aW [p.pt]=aO p.pt.toNat 2 from abj _,get_put 2 (by decide)];omega
theorem aaM {p:dZ} {r:List Fd} {c:Ch} (h:eL p r c=0):dK c∧cZ r∧bQ p.pr∧bQ p.al∧bQ [p.pt]:=by
  unfold eL at h;by_cases h1:dK c∧cZ r
  ·rw[if_neg (not_not_intro h1)] at h;by_cases h2:bQ p.pr∧bQ p.al∧bQ [p.pt]
   ·exact⟨h1.1,h1.2,h2⟩
   ·rw[if_pos h2] at h; exact absurd h (by decide)
  ·rw[if_pos h1] at h; exact absurd h (by decide)
theorem agree {p:dZ} {r:List Fd} {c c':Ch} {x y:List Int} {ns:List (List UInt8)} (hq:dD x y=0) (hs:eL p r c=0) (hn:mP ns p.ho) (hv:dK c') (hk:c'.se=c.se) :
    (gP p r c (bF x y) ns).length≤65535 ∧
    (dj x p.pr=none∨dj y p.al=none→ei c' (bF x y) (gP p r c (bF x y) ns)=10) ∧
    (∀ v a,dj x p.pr=some v→dj y p.al=some a→ei c' (bF x y) (gP p r c (bF x y) ns)=0 ∧
      mQ c' (bF x y) (gP p r c (bF x y) ns)=⟨v,a,bp c v a 0,bp c v a 1,ns.map (fun n=>bZ (r.getD 0 default) a (bp c v a 0) (bp c v a 1) n),p.ho.data.toList,p.pt⟩∧(0≤v∧v≤65535)∧(0≤a∧a≤65535)∧gO c v a=0):=by
  obtain⟨vC,vR,s1,s2,s3⟩:=aaM hs;obtain⟨sx,sy,_⟩:=r9 hq;obtain⟨o1,o2,o3,o4⟩:=aaL hq;obtain⟨Q,fx,fy⟩:=Of hq;have e:gP p r c (bF x y) ns=bh (fG p r c x y ns++ig p):=by
    unfold gP;rw[if_neg (not_not_intro hs),if_neg (not_not_intro o1),o2,if_neg Bool.false_ne_true,if_neg (not_not_intro hn),o3,o4]
  obtain⟨n1,n2,n3,n4⟩:=hn;obtain⟨h6,l6,b6⟩:=YM (p:=p) n3;obtain⟨h7,l7,b7⟩:=YN p;have pp:=s3 p.pt abC;have e0:∀ l:List Int,l.length≤16→((aW l).length%2=0∧(aW l).length≤255):=fun l hl=>by rw[fJ]; omega
  rw[e];rcases hx:dj x p.pr with _ | v
  ·have eA:fG p r c x y ns=[⟨true,1,[]⟩]:=by unfold fG; rw[hx]
   rw[eA,A5];have em:[(⟨true,1,[]⟩:Ek)]++(je p++(jf p++[cv]))=bK ⟨true,1,[]⟩ [] [] (je p) (jf p)++[cv]:=by simp[bK]
   rw[em];obtain⟨m1,m2,m3,m4,m5,m6,m7,m8,m9,mA,mB⟩:=BM (a:=⟨true,1,[]⟩) (b:=[]) (x:=[]) rfl (fun r hr=>by cases hr) (fun r hr=>by cases hr) h6 h7 (by decide) (by decide) l6 l7 (e0 [] (by decide)) (fun r hr=>by cases hr) (fun r hr=>by cases hr) b6 b7;obtain⟨f1,_⟩:=BN (c:=c') hv Q m4 m3 m5 m7 m9 (by decide) (fun r hr=>by cases hr);rw[fx] at f1;exact⟨(mm m1).2.2,fun _=>f1 (.inl (HC m6)),fun v a q=>(by cases q)⟩
  ·obtain⟨v1,v2⟩:=mg hx;have v3:=sx v v1;rcases hy:dj y p.al with _ | a
   ·have eA:fG p r c x y ns=[⟨true,1,aW [v]⟩,⟨true,4,[]⟩]:=by unfold fG; rw[hx]; dsimp only; rw[hy]
    rw[eA,A5];have em:[(⟨true,1,aW [v]⟩:Ek),⟨true,4,[]⟩]++(je p++(jf p++[cv]))=bK ⟨true,1,aW [v]⟩ [⟨true,4,[]⟩] [] (je p) (jf p)++[cv]:=by simp[bK]
    rw[em];obtain⟨m1,m2,m3,m4,m5,m6,m7,m8,m9,mA,mB⟩:=BM (a:=⟨true,1,aW [v]⟩) (b:=[⟨true,4,[]⟩]) (x:=[]) rfl (fun r hr=>by rw[aa6.1 hr]) (fun r hr=>by cases hr) h6 h7 (aba _) (by decide) l6 l7 (e0 [v] (show (1:Nat)≤16 by decide)) (fun r hr=>by rw[aa6.1 hr]; exact e0 [] (by decide)) (fun r hr=>by cases hr) b6 b7;obtain⟨f1,_⟩:=BN (c:=c') hv Q m4 m3 m5 m7 m9 (by decide) (fun r hr=>by cases hr);rw[fy] at f1;exact⟨(mm m1).2.2,fun _=>f1 (.inr (HC m8)),fun v a _ q=>(by cases q)⟩
   ·obtain⟨a1,a2⟩:=mg hy;have a3:=sy a a1;have kz:=pL vC v3 a3;have eA:fG p r c x y ns=⟨true,1,aW [v]⟩::⟨true,4,aW [a]⟩::gv r c v a ns:=by unfold fG; rw[hx]; dsimp only; rw[hy]
    rw[eA,A5];have em:(⟨true,1,aW [v]⟩::⟨true,4,aW [a]⟩::gv r c v a ns)++(je p++(jf p++[cv]))=bK ⟨true,1,aW [v]⟩ [⟨true,4,aW [a]⟩] (gv r c v a ns) (je p) (jf p)++[cv]:=by simp[bK]
    rw[em];have xl:(gv r c v a ns).length=ns.length:=by unfold gv; rw[aa7]
    have xb:∀ e∈gv r c v a ns,e.bo.length=104:=fun e he=>by
      obtain⟨n,hn,rfl⟩:=abo.1 he;obtain⟨q1,q2⟩:=BH (U:=bp c v a 0) (W:=bp c v a 1) vR a3 (l8 kz) (l8 kz) (n4 n hn)
      show (nP r a _ _ n).length=104
      rw[q1,q2]
    obtain⟨m1,m2,m3,m4,m5,m6,m7,m8,m9,mA,mB⟩:=BM (a:=⟨true,1,aW [v]⟩) (b:=[⟨true,4,aW [a]⟩]) (x:=gv r c v a ns) rfl (fun r hr=>by rw[aa6.1 hr]) (fun e he=>(U9 r c v a ns e he).1) h6 h7 (aba _) (by omega) l6 l7 (e0 [v] (show (1:Nat)≤16 by decide)) (fun r hr=>by rw[aa6.1 hr]; exact e0 [a] (show (1:Nat)≤16 by decide)) (fun e he=>by rw[xb e he]; decide) b6 b7;obtain⟨_,f2⟩:=BN (c:=c') hv Q m4 m3 m5 m7 m9 (by omega) xb;rw[fx,fy] at f2;obtain⟨g1,g2⟩:=f2 v a (JI m6 v1 v3) (JI m8 a1 a3) (by omega);refine⟨(mm m1).2.2,fun q=>(by rcases q with q | q <;> cases q),fun v' a' q1 q2=>?_⟩;obtain rfl:=Option.some.inj q1;obtain rfl:=Option.some.inj q2;refine⟨g1,?_,v3,a3,kz⟩;have kk:∀ z,bp c' v a z=bp c v a z:=fun z=>by
      unfold bp;rw[if_pos kz,if_pos (pL hv v3 a3),hk]
    rw[g2,kk,kk,YO mA,YP pp mB]
    congr 1
    unfold gv;rw[ac6];refine abL fun n hn=>?_
    exact (BH (U:=bp c v a 0) (W:=bp c v a 1) vR a3 (l8 kz) (l8 kz) (n4 n hn)).1
def Cz:ByteArray:=⟨#[116,105,109,101,46,101,120,97,109,112,108,101]⟩
def gn:dZ:=⟨[0],[15],Cz,123⟩
def HQ:aD:=⟨0,4,.seq (.reg [oO 0 (.alloc [.nil,.nil,(.d (.str ⟨#[]⟩)),(.d (.int .i64 0))])]) (.seq (.reg [oO 1 (.bldSl false 1 1 (.int .i64 0) [(0,(kI 0))]),oO 2 (.bldSl false 1 1 (.int .i64 0) [(0,(kI 15))]),oO 3 (.build [.nil,.nil,(.d (.str ⟨#[]⟩)),(.d (.int .i64 0))] [(0,1,(.t 1)),(1,1,(.t 2)),(2,1,(.k (.c (.d (.str ⟨#[116,105,109,101,46,101,120,97,109,112,108,101]⟩))))),(3,1,(kI 123))]),oN (.store (.ag 4) (.t 0) (.t 3))]) (.ret)),[(0,(some (.ag 4)))]⟩
theorem Tn:aB Tryz.prog { own:=[],comp:=[],frz:=[],nils:=[] } Tryz.f39=some HQ:=by kernel_rfl
theorem VF (G:ah):am Tryz.prog G 39 [] (.w (.c (.d (fb gn)))):=by
  refine aE Tryz.func39 Tn rfl rfl ?_;unfold fb gn;simp only[HQ,af,ae,aa,seval,iteOmega,toNatUp];exact aF (h1:=by simp only[ae,aa,seval,iteOmega,toNatUp] <;> rfl)
theorem VG {s:Nat} {K:List UInt8} {t:Nat} (cl:Bool) {S:List UInt8} {n m:Int} (hs:s+t≤4294967295) (hS:S.length=32) (hn:0≤n∧n≤1099511627776:=by decide) (hm:0≤m∧m≤1099511627776:=by decide):eL gn (bH s K t) (bn cl S n m)=0:=by
  have h1:bQ gn.pr∧bQ gn.al∧bQ [gn.pt]:=by decide
  unfold eL;rw[if_neg (not_not_intro ⟨r8 hS hn hm,u6 hs⟩),if_neg (not_not_intro h1)]
theorem NQ {K:List UInt8} {cl:Bool} {n m v a:Int} {z:UInt8} (hK:K.length=32) (hn:0≤n∧n≤1099511627776) (hm:0≤m∧m≤1099511627776) (hv:0≤v∧v≤65535) (ha:0≤a∧a≤65535):bp (bn cl K n m) v a z=fa K (hZ jw pH (gu v a z)) 32:=if_pos (pL (r8 hK hn hm) hv ha)
def Dy:aD:=⟨0,68,.seq (.reg [oO 0 (.mv (.k (.c (.d (.bool false)))))]) (.seq (.reg [oO 10 (.call 23 [(kI 1)] none),oM 9 10,oO 11 (.extract (.t 9) 0),oO 12 (.extract (.t 9) 1),oO 1 (.alloc [(.d (.bool false)),.nil,.nil,.nil,(.d (.int .i64 0)),(.d (.int .i64 0))]),oO 2 (.alloc [(.d (.bool false)),.nil,.nil,.nil,(.d (.int .i64 0)),(.d (.int .i64 0))]),oN (.store (.ag 6) (.t 1) (.t 11)),oN (.store (.ag 6) (.t 2) (.t 12))]) (.seq (.reg [oO 14 (.bldSl false 1 1 (.int .i64 0) [(0,(kI 0))]),oO 15 (.bldSl false 1 1 (.int .i64 0) [(0,(kI 15))]),oO 16 (.call 16 [(.t 14),(.t 15)] none),oM 13 16,oO 17 (.extract (.t 13) 0),oO 18 (.extract (.t 13) 1),oM 3 17,oM 4 18]) (.seq (.reg [oO 20 (.call 39 [] none),oO 21 (.call 25 [(kI 1),(kI 0)] none),oO 22 (.load (.ag 6) (.t 2)),oM 23 3,oO 24 (.call 35 [(kI 1),(kI 16)] none),
 oO 25 (.call 35 [(kI 2),(kI 16)] none),oO 26 (.bldSl false 2 1 (.sl []) [(0,(.t 24)),(1,(.t 25))]),oO 27 (.call 28 [(.t 20),(.t 21),(.t 22),(.t 23),(.t 26)] none),oM 19 27,oO 28 (.extract (.t 19) 0),oO 29 (.extract (.t 19) 1),oM 5 28,oM 6 29]) (.seq (.reg [oO 31 (.load (.ag 6) (.t 1)),oM 32 3,oM 33 5,oO 34 (.call 30 [(.t 31),(.t 32),(.t 33)] none),oM 30 34,oO 35 (.extract (.t 30) 0),oO 36 (.extract (.t 30) 1),oO 7 (.alloc [(.d (.int .i64 0)),(.d (.int .i64 0)),.nil,.nil,.nil,(.d (.str ⟨#[]⟩)),(.d (.int .i64 0))]),oN (.store (.ag 7) (.t 7) (.t 35)),oM 8 36]) (.seq (.reg [oM 37 4,oO 38 (.bin .eql (.t 37) (kI 0)),oM 39 38,oG 40 (.mv (.t 6)) 39 true,oG 41 (.bin .eql (.t 40) (kI 0)) 39 true,oO 42 (.pick (.t 39) (.t 41) (.k (.c (.d (.bool false))))),oM 43 42,oG 44 (.mv (.t 8)) 43 true,oG 45 (.bin .eql (.t 44) (kI 0)) 43 true,
 oO 46 (.pick (.t 43) (.t 45) (.k (.c (.d (.bool false))))),oM 47 46,oG 48 (.fieldAddr 1 (.t 7)) 47 true,oG 49 (.load .sc (.t 48)) 47 true,oG 50 (.bin .eql (.t 49) (kI 15)) 47 true,oO 51 (.pick (.t 47) (.t 50) (.k (.c (.d (.bool false))))),oM 52 51,oG 53 (.fieldAddr 4 (.t 7)) 52 true,oG 54 (.load .sc (.t 53)) 52 true,oG 55 (.len (.t 54)) 52 true,oG 56 (.bin .eql (.t 55) (kI 2)) 52 true,oO 57 (.pick (.t 52) (.t 56) (.k (.c (.d (.bool false))))),oM 58 57,oG 59 (.fieldAddr 5 (.t 7)) 58 true,oG 60 (.load .sc (.t 59)) 58 true,oG 61 (.bin .eql (.t 60) (.k (.c (.d (.str ⟨#[116,105,109,101,46,101,120,97,109,112,108,101]⟩))))) 58 true,oO 62 (.pick (.t 58) (.t 61) (.k (.c (.d (.bool false))))),oM 63 62,oG 64 (.fieldAddr 6 (.t 7)) 63 true,oG 65 (.load .sc (.t 64)) 63 true,oG 66 (.bin .eql (.t 65) (kI 123)) 63 true,
 oO 67 (.pick (.t 63) (.t 66) (.k (.c (.d (.bool false))))),oM 0 67]) (.ret)))))),[(0,none)]⟩
theorem PC:aB Tryz.prog { own:=[],comp:=[],frz:=[],nils:=[] } Tryz.f9=some Dy:=by kernel_rfl
set_option maxHeartbeats 1600000 in
theorem Q6 (G:ah) (hF:G.at 0=some (.ra (bA.map wD))) (hG:G.at 1=some (.ra (bw.map wD))):am Tryz.prog G 9 [] (.w (.c (.d (.bool true)))):=by
  refine aE Tryz.func9 PC rfl rfl ?_;have kl:=ux 1;have c1:=Nw G 1;have c2:=BE G [0] [15] (show (1:Nat)≤_ by decide) (show (1:Nat)≤_ by decide);have hq:dD [0] [15]=0:=by decide
  have c3:=VF G;have c4:=BB G 1 0 (by decide);rw[show (fw 0 6).toNat=0 from by decide] at c4;have c5:=qQ G 1 16 (by decide);have c6:=qQ G 2 16 (by decide);have l5:(aQ 1 16).length=16:=lS _ _;have l6:(aQ 2 16).length=16:=lS _ _;have hs:=VG (s:=1) (K:=aQ ((1:Nat):Int) 32) (t:=0) (n:=0) (m:=0) false (by decide) kl;have hn:mP [aQ 1 16,aQ 2 16] gn.ho:=⟨show (1:Nat)≤2 by decide,show (2:Nat)≤8 by decide,by decide,fun n hn=>by
    rcases abk.1 hn with rfl | hn
    ·exact l5
    ·rw[aa6.1 hn]; exact l6⟩
  obtain⟨al,_,ag⟩:=agree (c':=bn true (bW 1) 0 0) hq hs hn (r8 kl (by decide) (by decide)) rfl;obtain⟨a1,a2,_⟩:=ag 0 15 (by decide) (by decide);have bq:(bF [0] [15]).length≤65535:=by
    have e:bF [0] [15]=bh (dT [0] [15]):=if_pos hq;rw[e];exact (mm (AE hq).1).2.2
  have rl:=kP 1 (aQ ((1:Nat):Int) 32) 0;have c7:=NK G hF hG gn (bH 1 (aQ ((1:Nat):Int) 32) 0) (bn false (bW 1) 0 0) (bF [0] [15]) [aQ 1 16,aQ 2 16] (by decide) (by decide) (by decide) (by omega) (by omega) (show (2:Nat)≤_ by decide) (fun n hn=>by
    rcases abk.1 hn with rfl | hn
    ·omega
    ·rw[aa6.1 hn]; omega)
  have c8:=NP G hF hG (bn true (bW 1) 0 0) (bF [0] [15]) (gP gn (bH 1 (aQ ((1:Nat):Int) 32) 0) (bn false (bW 1) 0 0) (bF [0] [15]) [aQ 1 16,aQ 2 16]) (by omega) (by omega);rw[a1,a2] at c8;rw[hs] at c7;rw[hq] at c2;clear hs hn ag a1 a2 al bq hF hG;have eh:(⟨gn.ho.data.toList.toArray⟩:ByteArray)=Cz:=rfl;have ep:gn.pt=123:=rfl;unfold nS at c8;simp only[aa5,abr,eh,ep] at c8;generalize gP gn (bH 1 (aQ ((1:Nat):Int) 32) 0) (bn false (bW 1) 0 0) (bF [0] [15]) [aQ 1 16,aQ 2 16]=R at *
  generalize bZ ((bH 1 (aQ ((1:Nat):Int) 32) 0).getD 0 default) 15 (bp (bn false (bW 1) 0 0) 0 15 0) (bp (bn false (bW 1) 0 0) 0 15 1) (aQ 1 16)=k1 at *
  generalize bZ ((bH 1 (aQ ((1:Nat):Int) 32) 0).getD 0 default) 15 (bp (bn false (bW 1) 0 0) 0 15 0) (bp (bn false (bW 1) 0 0) 0 15 1) (aQ 2 16)=k2 at *
  generalize bp (bn false (bW 1) 0 0) 0 15 0=k3 at *
  generalize bp (bn false (bW 1) 0 0) 0 15 1=k4 at *
  generalize bF [0] [15]=Q at *
  generalize aQ 1 16=b1 at *
  generalize aQ 2 16=b2 at *
  generalize bH 1 (aQ ((1:Nat):Int) 32) 0=ring at *
  generalize bn true (bW 1) 0 0=A1 at *
  generalize bn false (bW 1) 0 0=A2 at *
  unfold bG bJ fb at *
  simp only[aa5,abr,zD] at c2 c7;rw[show ((1:Nat):Int)=1 from rfl] at c4;generalize hP1:gn.pr.map zD=P1 at *
  generalize hP2:gn.al.map zD=P2 at *
  generalize gn.ho=P3 at *
  generalize gn.pt=P4 at *
  simp only[Dy,af,ae,aa,seval,iteOmega,toNatUp];refine sD (c1) ?_;refine sD (c2) ?_;refine sD (c3) ?_;refine sD (c4) ?_;refine sD (c5) ?_;refine sD (c6) ?_;refine sD (c7) ?_;refine sD (c8) ?_;have es:(⟨#[116,105,109,101,46,101,120,97,109,112,108,101]⟩:ByteArray)=Cz:=rfl;simp only[ae,aa,seval,iteOmega,toNatUp,es];exact aF
theorem Zg {l:List Fd} {id:Int} {i:Nat} (h:gN l id=some i):lM l id=(i:Int):=by unfold lM; rw[h]
theorem Zh {l:List Fd} {id:Int} (h:gN l id=none):lM l id=-1:=by unfold lM; rw[h]
theorem Zi {l:List Fd} {id:Int} {i:Nat} (h:gN l id=some i):i<l.length:=by
  unfold gN at h;rw[aci] at h;exact h.1
def ng:aD:=⟨2,63,.seq (.reg [oO 2 (.box .roBox (.t 0)),oO 4 (.mv (kI 0)),oO 5 (.alloc [.nil,.nil]),oO 6 (.mv (kI 0)),oO 7 (.mv (kI 0))]) (.seq (.seq (.reg [oO 11 (.load (.ag 1) (.t 2)),oO 12 (.call 65 [(.t 11)] none),oO 13 (.un .not (.t 12))]) (.cond (.t 13) (.seq (.reg [oO 14 (.build [.nil,.nil] []),oO 4 (.mv (kI 0)),oN (.store (.ag 2) (.t 5) (.t 14)),oO 6 (.mv (kI 0)),oO 7 (.mv (kI 3))]) (.ret)) (.skip))) (.seq (.reg [oM 16 1,oO 17 (.call 85 [(.t 16)] none),oM 15 17,oO 18 (.extract (.t 15) 0),oO 19 (.extract (.t 15) 1),oO 8 (.alloc [(.d (.int .i64 0))]),oN (.store .sc (.t 8) (.t 18)),oM 7 19]) (.seq (.seq (.reg [oM 20 7,oO 21 (.bin .neq (.t 20) (kI 0))]) (.cond (.t 21) (.seq (.reg [oO 22 (.build [.nil,.nil] []),oM 23 7,oO 4 (.mv (kI 0)),oN (.store (.ag 2) (.t 5) (.t 22)),oO 6 (.mv (kI 0)),
 oM 7 23]) (.ret)) (.skip))) (.seq (.reg [oO 24 (.fieldAddr 0 (.t 2)),oO 25 (.load .sc (.t 24)),oO 26 (.closM 87 [] [(.t 8)]),oO 27 (.call 86 [(.t 25),(.t 26)] none),oM 6 27]) (.seq (.seq (.reg [oM 28 6,oO 29 (.bin .lss (.t 28) (kI 0))]) (.cond (.t 29) (.seq (.reg [oO 30 (.build [.nil,.nil] []),oO 4 (.mv (kI 0)),oN (.store (.ag 2) (.t 5) (.t 30)),oO 6 (.mv (kI 0)),oO 7 (.mv (kI 5))]) (.ret)) (.skip))) (.seq (.reg [oO 32 (.fieldAddr 0 (.t 2)),oO 33 (.load .sc (.t 32)),oM 34 6,oO 35 (.idxSl 2 (.t 33) (.t 34)),oO 36 (.fieldAddr 1 (.t 35)),oO 37 (.load .sc (.t 36)),oM 38 1,oO 39 (.slice 1 (.t 38) none (some (kI 4)) none),oM 40 1,oO 41 (.slice 1 (.t 40) (some (kI 4)) (some (kI 20)) none),oO 42 (.bldSl false 2 1 (.sl []) [(0,(.t 39)),(1,(.t 41))]),oM 43 1,oO 44 (.slice 1 (.t 43) (some (kI 20)) none none),
 oO 45 (.call 88 [(.t 37),(.t 42),(.t 44)] none),oM 31 45,oO 46 (.extract (.t 31) 0),oO 47 (.extract (.t 31) 1),oM 9 46,oM 7 47]) (.seq (.seq (.reg [oM 48 7,oO 49 (.bin .neq (.t 48) (kI 0))]) (.cond (.t 49) (.seq (.reg [oO 50 (.build [.nil,.nil] []),oO 4 (.mv (kI 0)),oN (.store (.ag 2) (.t 5) (.t 50)),oO 6 (.mv (kI 0)),oO 7 (.mv (kI 6))]) (.ret)) (.skip))) (.seq (.reg [oM 52 9,oO 53 (.call 89 [(.t 52)] none),oM 51 53,oO 54 (.extract (.t 51) 0),oO 55 (.extract (.t 51) 1),oO 56 (.extract (.t 51) 2),oM 4 54,oN (.store (.ag 2) (.t 5) (.t 55)),oM 10 56]) (.seq (.seq (.reg [oM 57 10,oO 58 (.un .not (.t 57))]) (.cond (.t 58) (.seq (.reg [oO 59 (.build [.nil,.nil] []),oO 4 (.mv (kI 0)),oN (.store (.ag 2) (.t 5) (.t 59)),oO 6 (.mv (kI 0)),oO 7 (.mv (kI 6))]) (.ret)) (.skip))) (.seq (.reg [oM 60 4,oO 61 (.load (.ag 2) (.t 5)),
 oM 62 6,oM 4 60,oN (.store (.ag 2) (.t 5) (.t 61)),oM 6 62,oO 7 (.mv (kI 0))]) (.ret))))))))))),[(4,none),(5,(some (.ag 2))),(6,none),(7,none)]⟩
theorem V0:aB Tryz.prog { own:=[],comp:=[],frz:=[],nils:=[],mt:=[26] } Tryz.f36=some ng:=by kernel_rfl
set_option maxHeartbeats 3200000 in
theorem Zj (G:ah) (l:List Fd) (c:List UInt8) (hl:l.length≤9223372036854775807) (hcl:c.length≤9223372036854775807):am Tryz.prog G 36 [bJ l,.sl (c.map bD)] (.tup [.c (.d (.int .i64 (jF l c).al)),.c (.d (d8 (jF l c).up (jF l c).dn)),.c (.d (.int .i64 (jF l c).ag)),.c (.d (.int .i64 (fe l c)))]):=by
  refine aE Tryz.func36 V0 rfl rfl ?_;have c1:=AZ G l hl;by_cases hr:cZ l
  ·rw[decide_eq_true hr] at c1;have c2:=Ys G c hcl;by_cases hc:c.length=104
   ·have ci:sA c=0:=if_neg (by omega);rw[ci] at c2;have c3:=Yt G l 87 [.ref [.int .i64 (fW c)]] (fW c) hl (fun x=>Yu G (fW c) x);have haz:=tD l;rcases hw:gN l (fW c) with _ | i
    ·have e:fe l c=5:=by unfold fe; rw[if_pos hr,if_neg (by omega),hw]
     rw[rx e (by decide),e];rw[Zh hw] at c3;generalize fW c=n at *
     unfold bJ d8 at *
     simp only[ng,af,ae,aa,seval,iteOmega,toNatUp];refine sD (c1) ?_;refine sC (c2) ?_;simp only[xa,ae,aa,seval,iteOmega,toNatUp];refine a8 c3 (by simp only[ae,aa,seval,iteOmega,toNatUp] <;> rfl) (.inr rfl) ?_;simp only[ae,aa,seval,iteOmega,toNatUp];exact pG (by simp only[ae,aa,seval,iteOmega,toNatUp] <;> rfl) (by simp only[ae,aa,seval,iteOmega,toNatUp] <;> rfl) (by simp only[ae,aa,seval,iteOmega,toNatUp] <;> rfl) (by simp only[ae,aa,seval,iteOmega,toNatUp] <;> rfl)
    ·have hi:=Zi hw;have g:=mK hi;have ce:=Vh hr hc hw;obtain⟨⟨m1,m2,m3⟩,_⟩:=mh hr hi;rw[Zg hw] at c3;have c4:=ZC G (l.getD i default).da [aN c 0 4,aN c 4 16] (c.drop 20) (by omega) (by simp) (fun x hx=>by simp at hx; rcases hx with rfl | rfl <;> (rw[kG (by omega)]; decide)) (by simp; omega);rw[show fS (l.getD i default).da [aN c 0 4,aN c 4 16] (c.drop 20)=ky (l.getD i default) c from rfl,show iy (l.getD i default).da [aN c 0 4,aN c 4 16] (c.drop 20)=fc (l.getD i default) c from rfl] at c4;unfold db at c4;simp only[aa5,abr] at c4;have t1:c.take 4=aN c 0 4:=rfl;have t2:(c.drop 4).take (20-4)=aN c 4 16:=rfl;have t3:(c.drop 20).take 84=c.drop 20:=aa2 (by simp; omega);have hok:nL (l.getD i default) c↔ky (l.getD i default) c=0∧(fc (l.getD i default) c).getD 2 0=0∧(fc (l.getD i default) c).getD 3 0=0:=Iff.rfl;have hR:fe l c=0→jF l c=⟨(aZ (aN (fc (l.getD i default) c) 0 2):Int),aN (fc (l.getD i default) c) 4 32,aN (fc (l.getD i default) c) 36 32,(i:Int)⟩:=fun h=>by
       unfold jF;rw[if_pos h,hw];rfl
     have hVl:=fun h=>U3 (m:=l.getD i default) hc h
     have hi0:0≤(i:Int):=by omega
     generalize fc (l.getD i default) c=V at *
     by_cases x0:ky (l.getD i default) c=0
     ·have hVl:=hVl x0;have c5:=Yr G V hVl;rw[x0] at c4;by_cases y:V.getD 2 0=0∧V.getD 3 0=0
      ·have e0:fe l c=0:=by rw[ce,if_pos (hok.2 ⟨x0,y⟩)]
       rw[hR e0,e0];rw[if_pos y] at c5;clear hR ce e0 hok;generalize aN V 4 32=U1 at *
       generalize aN V 36 32=U2 at *
       generalize aZ (aN V 0 2)=al at *
       generalize hx:l.getD i default=x at *
       generalize fW c=n at *
       generalize aN c 0 4=D0 at *
       generalize aN c 4 16=D1 at *
       unfold bJ d8 at *
       simp only[ng,af,ae,aa,seval,iteOmega,toNatUp];refine sD (c1) ?_;refine sC (c2) ?_;simp only[xa,ae,aa,seval,iteOmega,toNatUp];refine a8 c3 (by simp only[ae,aa,seval,iteOmega,toNatUp] <;> rfl) (.inr rfl) ?_;simp only[ae,aa,seval,iteOmega,toNatUp,aJ,g,haz,bY,hc,t1,t2,t3];refine a8 c4 (by simp only[ae,aa,seval,iteOmega,toNatUp]) (.inl rfl) ?_;simp only[ae,aa,seval,iteOmega,toNatUp];refine sD (c5) ?_;exact pG (by simp only[ae,aa,seval,iteOmega,toNatUp] <;> rfl) (by simp only[ae,aa,seval,iteOmega,toNatUp] <;> rfl) (by simp only[ae,aa,seval,iteOmega,toNatUp] <;> rfl) (by simp only[ae,aa,seval,iteOmega,toNatUp] <;> rfl)
      ·have e6:fe l c=6:=by rw[ce,if_neg (fun h=>y (hok.1 h).2)]
       rw[rx e6 (by decide),e6];rw[if_neg y] at c5;clear hR ce e6 hok;generalize hx:l.getD i default=x at *
       generalize fW c=n at *
       generalize aN c 0 4=D0 at *
       generalize aN c 4 16=D1 at *
       unfold bJ d8 at *
       simp only[ng,af,ae,aa,seval,iteOmega,toNatUp];refine sD (c1) ?_;refine sC (c2) ?_;simp only[xa,ae,aa,seval,iteOmega,toNatUp];refine a8 c3 (by simp only[ae,aa,seval,iteOmega,toNatUp] <;> rfl) (.inr rfl) ?_;simp only[ae,aa,seval,iteOmega,toNatUp,aJ,g,haz,bY,hc,t1,t2,t3];refine a8 c4 (by simp only[ae,aa,seval,iteOmega,toNatUp]) (.inl rfl) ?_;simp only[ae,aa,seval,iteOmega,toNatUp];refine sD (c5) ?_;exact pG (by simp only[ae,aa,seval,iteOmega,toNatUp] <;> rfl) (by simp only[ae,aa,seval,iteOmega,toNatUp] <;> rfl) (by simp only[ae,aa,seval,iteOmega,toNatUp] <;> rfl) (by simp only[ae,aa,seval,iteOmega,toNatUp] <;> rfl)
     ·have g1:(ky (l.getD i default) c=0)=False:=eq_false x0;have e6:fe l c=6:=by rw[ce,if_neg (fun h=>x0 (hok.1 h).1)]
      rw[rx e6 (by decide),e6];clear hR ce e6 hok;generalize ky (l.getD i default) c=xe at *
      generalize hx:l.getD i default=x at *
      generalize fW c=n at *
      generalize aN c 0 4=D0 at *
      generalize aN c 4 16=D1 at *
      unfold bJ d8 at *
      simp only[ng,af,ae,aa,seval,iteOmega,toNatUp];refine sD (c1) ?_;refine sC (c2) ?_;simp only[xa,ae,aa,seval,iteOmega,toNatUp];refine a8 c3 (by simp only[ae,aa,seval,iteOmega,toNatUp] <;> rfl) (.inr rfl) ?_;simp only[ae,aa,seval,iteOmega,toNatUp,aJ,g,haz,bY,hc,t1,t2,t3];refine a8 c4 (by simp only[ae,aa,seval,iteOmega,toNatUp]) (.inl rfl) ?_;simp only[ae,aa,seval,iteOmega,toNatUp,g1];exact pG (by simp only[ae,aa,seval,iteOmega,toNatUp] <;> rfl) (by simp only[ae,aa,seval,iteOmega,toNatUp] <;> rfl) (by simp only[ae,aa,seval,iteOmega,toNatUp] <;> rfl) (by simp only[ae,aa,seval,iteOmega,toNatUp] <;> rfl)
   ·have e:fe l c=3:=by unfold fe; rw[if_pos hr,if_pos hc]
    have ci:sA c=3:=if_pos hc;rw[ci] at c2;rw[rx e (by decide),e];unfold bJ d8 at *
    simp only[ng,af,ae,aa,seval,iteOmega,toNatUp];refine sD (c1) ?_;refine sD (c2) ?_;exact pG (by simp only[ae,aa,seval,iteOmega,toNatUp] <;> rfl) (by simp only[ae,aa,seval,iteOmega,toNatUp] <;> rfl) (by simp only[ae,aa,seval,iteOmega,toNatUp] <;> rfl) (by simp only[ae,aa,seval,iteOmega,toNatUp] <;> rfl)
  ·rw[decide_eq_false hr] at c1;have e:fe l c=3:=if_neg hr;rw[rx e (by decide),e];unfold bJ d8 at *
   simp only[ng,af,ae,aa,seval,iteOmega,toNatUp];refine sD (c1) ?_;exact pG (by simp only[ae,aa,seval,iteOmega,toNatUp] <;> rfl) (by simp only[ae,aa,seval,iteOmega,toNatUp] <;> rfl) (by simp only[ae,aa,seval,iteOmega,toNatUp] <;> rfl) (by simp only[ae,aa,seval,iteOmega,toNatUp] <;> rfl)
def bX (l:List Int) (j:Nat):List Int:=(l.take j).map fun v=>fw v 6
theorem Tq {l:List Int} {j:Nat} (h:j<l.length):bX l j++[fw (l.getD j 0) 6]=bX l (j+1):=by
  unfold bX;rw[acG,abn,aa0,aaY h]; rfl
theorem uI {l:List Int} {j:Nat} (h:j≤l.length):(bX l j).length=j:=by
  unfold bX; rw[aa7,aa4]; omega
theorem A8 {l:List Int} {v:Int} (h:v∈bX l 6):0≤v∧v<6:=by
  obtain⟨w,_,rfl⟩:=abo.1 h;exact sK w 6 (by decide)
theorem q9 (l:List Int):(bX l 6).length≤6:=by
  unfold bX; rw[aa7,aa4]; omega
theorem V5 {l:List Int} {j:Nat} (h:j≤l.length) (h6:j≤6) (he:¬ (j<l.length∧j<6)):bX l j=bX l 6:=by
  unfold bX;by_cases h1:j=6
  ·rw[h1]
  ·rw[aa2 (by omega),aa2 (by omega)]
theorem wg {l:List Int} {c:Int} (hc:0≤c∧c<6):∀ v∈bX l 6++[c],0≤v∧v<6:=fun v hv=>by
  rcases abd.1 hv with hv | hv
  ·exact A8 hv
  ·rw[aa6.1 hv]; exact hc
theorem vu (l:List Int) (c:Int):1≤(bX l 6++[c]).length∧(bX l 6++[c]).length≤7:=by
  have:=q9 l;rw[aa1,acf]; omega
theorem t8 {l:List Int} (h:∀ v∈l,0≤v∧v<6):bQ l:=fun v hv=>⟨(h v hv).1,by have:=(h v hv).2; omega⟩
theorem aay (a b:List Int):dD (bX a 6++[3]) (bX b 6++[4])=0:=by
  have h1:=vu a 3;have h2:=vu b 4;unfold dD;rw[if_neg (not_not_intro ⟨t8 (wg (by decide)),t8 (wg (by decide))⟩),if_neg (by omega)]
def jJ:ByteArray:=⟨#[]⟩
theorem aaz {s:Nat} (K:List UInt8) {S:List UInt8} (a b:List Int) (hs:s+1≤4294967295) (hS:S.length=32):eL ⟨bX a 6,bX b 6,jJ,0⟩ (bH s K 1) (bn false S 0 0)=0:=by
  unfold eL;rw[if_neg (not_not_intro ⟨r8 hS (by decide) (by decide),u6 hs⟩),if_neg (not_not_intro ⟨t8 fun v hv=>A8 hv,t8 fun v hv=>A8 hv,show bQ [0] by decide⟩)]
def dU (s j:Nat):List (List UInt8):=(List.range j).map fun i=>aQ ((s+i:Nat):Int) 16
theorem Ts (s j:Nat):dU s j++[aQ ((s+j:Nat):Int) 16]=dU s (j+1):=by unfold dU; rw[acI,abn]; rfl
theorem Kb (s j:Nat):(dU s j).length=j:=by unfold dU; rw[aa7,acF]
theorem Zl {s j:Nat}:∀ n∈dU s j,n.length=16:=fun n hn=>by
  obtain⟨i,_,rfl⟩:=abo.1 hn;exact lS _ _
theorem Zm {s j i:Nat} (h:i<j):(dU s j).getD i []=aQ ((s+i:Nat):Int) 16:=by
  unfold dU;rw[aa0,abK,acr h]; rfl
theorem aaA {s:Nat} {v a:Int} {n m:Int} (hs:s<1000) (hn:0≤n∧n≤1099511627776) (hm:0≤m∧m≤1099511627776) (hv:0≤v∧v<6) (ha:0≤a∧a<6):(bp (bn false (bW (s:Int)) n m) v a 0==bp (bn false (bW (s:Int)) n m) v a 1)=false:=by
  obtain⟨v,rfl⟩:=abW hv.1;obtain⟨a,rfl⟩:=abW ha.1;rw[NQ (ux _) hn hm (by omega) (by omega),NQ (ux _) hn hm (by omega) (by omega)];exact beq_eq_false_iff_ne.2 (VZ hs (by omega) (by omega))
theorem oZ (l:List Int):D.noU8 (.sl (l.map zD))=true:=by
  show (l.map zD).all _=true
  rw[List.all_map,abi];exact fun _ _=>rfl
theorem o0 (l:List (List UInt8)):D.noU8 (.sl (l.map fun l=>D.sl (l.map bD)))=true:=by
  show (l.map _).all _=true
  rw[List.all_map,abi];exact fun _ _=>rfl
theorem pO (l:List UInt8) (e:Int):V.byt (.tup [.c (.d (.sl (l.map bD))),.c (.d (.int .i64 e))])=true:=by
  have h:(l.map bD).all D.isU8=true:=by
    rw[List.all_map,abi];exact fun _ _=>rfl
  show (((l.map bD).all D.isU8&&_)=true)
  rw[h]; rfl
def lQ:Nat→V
  | 0=>.w (.c .nil)
  | j+1=>.w (.c (.own 1 1 0 (j+1)))
def lR (l:List Int):Nat→List (Nat×Ob)
  | 0=>[]
  | j+1=>[(1,.row 1 ((bX l (j+1)).map zD))]
def qd (l:List Int) (j:Nat):St:=⟨aT [(0,.w (.c (.d (.sl (l.map zD))))),(3,lQ j),(4,.w (.c (.d (.int .i64 (j:Int)))))],hL (lR l j),uL [1]⟩
def oc:aL := .seq (.seq (.reg [oM 5 4,oM 6 0,oO 7 (.len (.t 6)),oO 8 (.bin .lss (.t 5) (.t 7)),oM 9 8,oG 10 (.mv (.t 4)) 9 true,oG 11 (.bin .lss (.t 10) (kI 6)) 9 true,oO 12 (.pick (.t 9) (.t 11) (.k (.c (.d (.bool false)))))]) (.cond (.t 12) (.skip) (.exit 0))) (.seq (.block 1 (.reg [oM 15 3,oM 16 0,oM 17 4,oO 18 (.idxSl 1 (.t 16) (.t 17)),oO 19 (.load .sc (.t 18)),oO 20 (.call 24 [(.t 19),(kI 6)] none),oO 21 (.bldSl false 1 1 (.int .i64 0) [(0,(.t 20))]),oO 22 (.app false 1 8 (.t 15) (.t 21)),oM 3 22])) (.reg [oM 13 4,oO 14 (.bin .add (.t 13) (kI 1)),oM 4 14]))
def HR:aD:=⟨1,24,.seq (.reg [oO 2 (.mv (.k (.c .nil)))]) (.seq (.reg [oO 3 (.mv (.k (.c .nil)))]) (.seq (.seq (.reg [oO 4 (.mv (kI 0))]) (.block 0 (.loop oc))) (.seq (.reg [oM 23 3,oM 2 23]) (.ret)))),[(2,none)]⟩
theorem Tt:aB Tryz.prog { own:=[],comp:=[],frz:=[],nils:=[] } Tryz.f34=some HR:=by kernel_rfl
theorem z5 (G:ah) (l:List Int) (hl:l.length≤9223372036854775807):am Tryz.prog G 34 [.sl (l.map zD)] (.w (.c (.fr 1 ((bX l 6).map zD)))):=by
  refine aE Tryz.func34 Tt rfl rfl ?_;simp only[HR,af,ae,aa,seval,iteOmega,toNatUp];refine be (qd l) (fun j=>6-j) (fun j=>j≤l.length∧j≤6) 0 ⟨aa8 _,aa8 _⟩ ?_ ?_
  ·refine aA (fun i=>i) ?_ ?_ rfl rfl <;> simp only[wx,aw,aG,aa,seval,iteOmega,toNatUp,lQ,lR] <;> first | rfl | exact⟨rfl,rfl⟩ | skip
  ·rintro j ⟨hj,h6⟩;by_cases hlt:j<l.length∧j<6
   ·obtain⟨h1,h2⟩:=hlt;have g:=ly h1;have hs:=Tq h1;have c:=qP G (l.getD j 0) 6 (by decide);have hl1:=uI (l:=l) (j:=j+1) (by omega);generalize l.getD j 0=x at *
    have g1:((j:Int)<(l.length:Int))=True:=eq_true (by omega);have g2:((j:Int)<6)=True:=eq_true (by omega);rcases j with _ | j
    ·have h0:bX l 0=[]:=rfl;rw[h0] at hs;have hs2:[D.int .i64 (fw x 6)]=(bX l (0+1)).map zD:=by rw[← hs]; rfl
     simp only[oc,qd,lQ,lR,ae,aa,seval,iteOmega,toNatUp,aJ,g,g1,g2,zD];refine sC (c) ?_;simp only[bP,ae,aa,seval,iteOmega,toNatUp];refine aV (0+1) (by omega) ⟨by omega,by omega⟩ (aA (fun _=>176) ?_ ?_ rfl rfl) <;> simp only[wx,aw,aG,aa,seval,iteOmega,toNatUp,lQ,lR,hs2,hl1] <;> first | rfl | exact⟨rfl,rfl⟩ | skip
    ·have hs2:((bX l (j+1)).map zD)++[D.int .i64 (fw x 6)]=(bX l (j+1+1)).map zD:=by rw[← hs,abn]; rfl
     have hlj:=uI (l:=l) (j:=j+1) (by omega);have az:=tC (bX l (j+1));have g1:((j:Int)+1<(l.length:Int))=True:=eq_true (by omega);have g2:((j:Int)+1<6)=True:=eq_true (by omega);simp only[oc,qd,lQ,lR,ae,aa,seval,iteOmega,toNatUp,aJ,g,g1,g2,zD];refine sC (c) ?_;simp only[bP,hs2,hlj,ae,aa,seval,iteOmega,toNatUp];refine aV (j+1+1) (by omega) ⟨by omega,by omega⟩ (aA (fun _=>176) ?_ ?_ rfl rfl) <;> simp only[wx,aw,aG,aa,seval,iteOmega,toNatUp,lQ,lR,hl1,hs2] <;> first | rfl | exact⟨rfl,rfl⟩ | skip
   ·rw[← V5 hj h6 hlt];by_cases h1:j<l.length
    ·have g1:((j:Int)<(l.length:Int))=True:=eq_true (by omega);have g2:((j:Int)<6)=False:=eq_false (by omega);obtain⟨k,rfl⟩:∃ k,j=k+1:=⟨j-1,by omega⟩
     have hlj:=uI (l:=l) (j:=k+1) (by omega);have g1:((k:Int)+1<(l.length:Int))=True:=eq_true (by omega);have g2:((k:Int)+1<6)=False:=eq_false (by omega);have tk:((bX l (k+1)).map zD).take (k+1)=(bX l (k+1)).map zD:=aa2 (by rw[aa7]; omega);simp only[oc,qd,lQ,lR,ae,aa,seval,iteOmega,toNatUp,g1,g2];exact eH (h1:=by simp only[ae,aa,seval,iteOmega,toNatUp,iY,df,tk,hlj])
    ·obtain rfl:j=l.length:=by omega
     have g1:((l.length:Int)<(l.length:Int))=False:=eq_false (by omega);rcases hk:l.length with _ | k
     ·simp only[oc,qd,lQ,lR,ae,aa,seval,iteOmega,toNatUp];exact uh (by simp only[ae,aa,seval,iteOmega,toNatUp])
     ·have hlj:=uI (l:=l) (j:=k+1) (by omega);have tk:((bX l (k+1)).map zD).take (k+1)=(bX l (k+1)).map zD:=aa2 (by rw[aa7]; omega);have g1:((k:Int)+1<(l.length:Int))=False:=eq_false (by omega);simp only[oc,qd,lQ,lR,ae,aa,seval,iteOmega,toNatUp,hk,g1];exact eH (h1:=by simp only[ae,aa,seval,iteOmega,toNatUp,iY,df,tk,hlj])
theorem Kc (G:ah) (l:List Int) (hl:l.length≤9223372036854775807):am Tryz.prog G 34 [.sl (l.map zD)] (.w (.c (.d (.sl ((bX l 6).map zD))))):=mb (z5 G l hl)
def lA:Nat→V
  | 0=>.w (.c .nil)
  | j+1=>.w (.c (.own 6 1 0 (j+1)))
def lB (s:Nat):Nat→List (Nat×Ob)
  | 0=>[]
  | j+1=>[(6,.row 1 ((dU s (j+1)).map fun l=>D.sl (l.map bD)))]
def pP (s:Nat) (ck:Int) (K A1 A2 B1 B2:List UInt8) (P Q X Y:List Int) (j:Nat):St:=⟨aT [(0,.w (.c (.d (.int .i64 (s:Int))))),(5,.w (.c (.d (.int .i64 ck)))),(13,.w (.c (.ptr 1 1 0 0))),(14,.w (.c (.ptr 2 1 0 0))),(15,.w (.c (.ptr 3 1 0 0))),(16,.w (.c (.own 4 1 0 X.length))),(17,.w (.c (.own 5 1 0 Y.length))),(18,lA j),(19,.w (.c (.d (.int .i64 (j:Int)))))],
  hL ((1,.box [.d (.bool true),.d (.sl (K.map bD)),.d (.sl (A1.map bD)),.d (.sl (A2.map bD)),.d (.int .i64 0),.d (.int .i64 0)])::(2,.box [.d (.bool false),.d (.sl (K.map bD)),.d (.sl (B1.map bD)),.d (.sl (B2.map bD)),.d (.int .i64 0),.d (.int .i64 0)])::(3,.box [.d (.sl (P.map zD)),.d (.sl (Q.map zD)),.d (.str ⟨#[]⟩),.d (.int .i64 0)])::(4,.row 1 (X.map zD))::(5,.row 1 (Y.map zD))::lB s j),uL [1,2,3,4,5,6]⟩
def BQ (s:Nat) (v a:Int) (U W:List UInt8) (C:List (List UInt8)) (i:Nat):St:=⟨aT [(0,.w (.c (.d (.int .i64 (s:Int))))),(24,.w (.c (.ptr 1 1 0 0))),(28,.w (.c (.d (.int .i64 a)))),(30,.w (.c (.d (.int .i64 (i:Int)))))],
  hL [(1,.box [.d (.int .i64 v),.d (.int .i64 a),.d (.sl (U.map bD)),.d (.sl (W.map bD)),.d (.sl (C.map fun l=>D.sl (l.map bD))),.d (.str ⟨#[]⟩),.d (.int .i64 0)])],uL [1]⟩
theorem vw (cl:Bool) (K:List UInt8) (n m:Int):bG (bn cl K n m)=.agg [.bool cl,.sl (K.map bD),.sl (((bn cl K 0 0).sk).map bD),.sl (((bn cl K 0 0).rk).map bD),.int .i64 n,.int .i64 m]:=rfl
def oJ:aL := .seq (.seq (.reg [oM 55 19,oM 56 5,oO 57 (.call 24 [(.t 56),(kI 8)] none),oO 58 (.bin .leq (.t 55) (.t 57))]) (.cond (.t 58) (.skip) (.exit 0))) (.seq (.block 1 (.reg [oM 61 18,oM 62 0,oM 63 19,oO 64 (.bin .add (.t 62) (.t 63)),oO 65 (.call 35 [(.t 64),(kI 16)] none),oO 66 (.bldSl false 1 1 (.sl []) [(0,(.t 65))]),oO 67 (.app false 1 24 (.t 61) (.t 66)),oM 18 67])) (.reg [oM 59 19,oO 60 (.bin .add (.t 59) (kI 1)),oM 19 60]))
def zg:aL := .seq (.seq (.reg [oM 154 30,oO 155 (.fieldAddr 4 (.t 24)),oO 156 (.load .sc (.t 155)),oO 157 (.len (.t 156)),oO 158 (.bin .lss (.t 154) (.t 157))]) (.cond (.t 158) (.skip) (.exit 2))) (.seq (.block 3 (.seq (.reg [oM 162 0,oO 163 (.call 25 [(.t 162),(kI 2)] none),oO 164 (.fieldAddr 4 (.t 24)),oO 165 (.load .sc (.t 164)),oM 166 30,oO 167 (.idxSl 1 (.t 165) (.t 166)),oO 168 (.load .sc (.t 167)),oO 169 (.call 36 [(.t 163),(.t 168)] none),oM 161 169,oO 170 (.extract (.t 161) 0),oO 171 (.extract (.t 161) 1),oO 172 (.extract (.t 161) 2),oO 173 (.extract (.t 161) 3),oO 32 (.alloc [.nil,.nil]),oM 31 170,oN (.store (.ag 2) (.t 32) (.t 171)),oM 33 172,oM 34 173]) (.seq (.reg [oM 174 34,oO 175 (.bin .neq (.t 174) (kI 0)),oM 176 175,oG 177 (.mv (.t 31)) 176 false,oG 178 (.mv (.t 28)) 176 false,
 oG 179 (.bin .neq (.t 177) (.t 178)) 176 false,oO 180 (.pick (.t 176) (.k (.c (.d (.bool true)))) (.t 179)),oM 181 180,oG 182 (.mv (.t 33)) 181 false,oG 183 (.bin .neq (.t 182) (kI 1)) 181 false,oO 184 (.pick (.t 181) (.k (.c (.d (.bool true)))) (.t 183)),oM 185 184,oG 186 (.load (.ag 2) (.t 32)) 185 false,oG 187 (.fieldAddr 2 (.t 24)) 185 false,oG 188 (.load (.ag 2) (.t 187)) 185 false,oG 189 (.call 32 [(.t 186),(.t 188)] none) 185 false,oG 190 (.un .not (.t 189)) 185 false,oO 191 (.pick (.t 185) (.k (.c (.d (.bool true)))) (.t 190))]) (.cond (.t 191) (.seq (.reg [oO 12 (.mv (.k (.c (.d (.bool false)))))]) (.ret)) (.skip))))) (.reg [oM 159 30,oO 160 (.bin .add (.t 159) (kI 1)),oM 30 160]))
def MU:aD:=⟨6,210,.seq (.reg [oO 12 (.mv (.k (.c (.d (.bool false)))))]) (.seq (.reg [oM 35 0,oO 36 (.call 24 [(.t 35),(kI 1000)] none),oM 0 36]) (.seq (.reg [oM 38 0,oO 39 (.call 23 [(.t 38)] none),oM 37 39,oO 40 (.extract (.t 37) 0),oO 41 (.extract (.t 37) 1),oO 13 (.alloc [(.d (.bool false)),.nil,.nil,.nil,(.d (.int .i64 0)),(.d (.int .i64 0))]),oO 14 (.alloc [(.d (.bool false)),.nil,.nil,.nil,(.d (.int .i64 0)),(.d (.int .i64 0))]),oN (.store (.ag 6) (.t 13) (.t 40)),oN (.store (.ag 6) (.t 14) (.t 41))]) (.seq (.reg [oM 42 3,oO 43 (.call 34 [(.t 42)] none),oM 44 4,oO 45 (.call 34 [(.t 44)] none),oO 46 (.build [.nil,.nil,(.d (.str ⟨#[]⟩)),(.d (.int .i64 0))] [(0,1,(.t 43)),(1,1,(.t 45))]),oO 15 (.alloc [.nil,.nil,(.d (.str ⟨#[]⟩)),(.d (.int .i64 0))]),oN (.store (.ag 4) (.t 15) (.t 46))])
 (.seq (.reg [oM 47 1,oO 48 (.call 34 [(.t 47)] (some (0,1))),oO 49 (.bldSl false 1 1 (.int .i64 0) [(0,(kI 3))]),oO 50 (.app false 1 8 (.t 48) (.t 49)),oM 51 2,oO 52 (.call 34 [(.t 51)] (some (0,1))),oO 53 (.bldSl false 1 1 (.int .i64 0) [(0,(kI 4))]),oO 54 (.app false 1 8 (.t 52) (.t 53)),oM 16 50,oM 17 54]) (.seq (.reg [oO 18 (.mv (.k (.c .nil)))]) (.seq (.seq (.reg [oO 19 (.mv (kI 0))]) (.block 0 (.loop oJ))) (.seq (.reg [oM 69 16,oM 70 17,oO 71 (.call 16 [(.t 69),(.t 70)] none),oM 68 71,oO 72 (.extract (.t 68) 0),oO 73 (.extract (.t 68) 1),oM 20 72,oM 21 73]) (.seq (.reg [oO 75 (.load (.ag 4) (.t 15)),oM 76 0,oO 77 (.call 25 [(.t 76),(kI 1)] none),oO 78 (.load (.ag 6) (.t 14)),oM 79 20,oM 80 18,oO 81 (.call 28 [(.t 75),(.t 77),(.t 78),(.t 79),(.t 80)] none),oM 74 81,oO 82 (.extract (.t 74) 0),
 oO 83 (.extract (.t 74) 1),oM 22 82,oM 23 83]) (.seq (.reg [oO 85 (.load (.ag 6) (.t 13)),oM 86 20,oM 87 22,oO 88 (.call 30 [(.t 85),(.t 86),(.t 87)] none),oM 84 88,oO 89 (.extract (.t 84) 0),oO 90 (.extract (.t 84) 1),oO 24 (.alloc [(.d (.int .i64 0)),(.d (.int .i64 0)),.nil,.nil,.nil,(.d (.str ⟨#[]⟩)),(.d (.int .i64 0))]),oN (.store (.ag 7) (.t 24) (.t 89)),oM 25 90]) (.seq (.reg [oM 92 16,oO 93 (.fieldAddr 0 (.t 15)),oO 94 (.load .sc (.t 93)),oO 95 (.call 19 [(.t 92),(.t 94)] none),oM 91 95,oO 96 (.extract (.t 91) 0),oO 97 (.extract (.t 91) 1),oM 26 96,oM 27 97]) (.seq (.reg [oM 99 17,oO 100 (.fieldAddr 1 (.t 15)),oO 101 (.load .sc (.t 100)),oO 102 (.call 19 [(.t 99),(.t 101)] none),oM 98 102,oO 103 (.extract (.t 98) 0),oO 104 (.extract (.t 98) 1),oM 28 103,oM 29 104]) (.seq (.seq (.reg [oM 105 21,
 oO 106 (.bin .neq (.t 105) (kI 0)),oM 107 106,oG 108 (.mv (.t 23)) 107 false,oG 109 (.bin .neq (.t 108) (kI 0)) 107 false,oO 110 (.pick (.t 107) (.k (.c (.d (.bool true)))) (.t 109))]) (.cond (.t 110) (.seq (.reg [oO 12 (.mv (.k (.c (.d (.bool false)))))]) (.ret)) (.skip))) (.seq (.seq (.reg [oM 111 27,oO 112 (.un .not (.t 111)),oM 113 112,oG 114 (.mv (.t 29)) 113 false,oG 115 (.un .not (.t 114)) 113 false,oO 116 (.pick (.t 113) (.k (.c (.d (.bool true)))) (.t 115))]) (.cond (.t 116) (.seq (.reg [oO 117 (.call 9 [] none),oM 118 117,oG 119 (.mv (.t 25)) 118 true,oG 120 (.bin .eql (.t 119) (kI 10)) 118 true,oO 121 (.pick (.t 118) (.t 120) (.k (.c (.d (.bool false))))),oM 12 121]) (.ret)) (.skip))) (.seq (.seq (.reg [oM 122 25,oO 123 (.bin .neq (.t 122) (kI 0)),oM 124 123,oG 125 (.fieldAddr 0 (.t 24)) 124 false,
 oG 126 (.load .sc (.t 125)) 124 false,oG 127 (.mv (.t 26)) 124 false,oG 128 (.bin .neq (.t 126) (.t 127)) 124 false,oO 129 (.pick (.t 124) (.k (.c (.d (.bool true)))) (.t 128)),oM 130 129,oG 131 (.fieldAddr 1 (.t 24)) 130 false,oG 132 (.load .sc (.t 131)) 130 false,oG 133 (.mv (.t 28)) 130 false,oG 134 (.bin .neq (.t 132) (.t 133)) 130 false,oO 135 (.pick (.t 130) (.k (.c (.d (.bool true)))) (.t 134)),oM 136 135,oG 137 (.fieldAddr 4 (.t 24)) 136 false,oG 138 (.load .sc (.t 137)) 136 false,oG 139 (.len (.t 138)) 136 false,oG 140 (.mv (.t 18)) 136 false,oG 141 (.len (.t 140)) 136 false,oG 142 (.bin .neq (.t 139) (.t 141)) 136 false,oO 143 (.pick (.t 136) (.k (.c (.d (.bool true)))) (.t 142)),oM 144 143,oG 145 (.fieldAddr 5 (.t 24)) 144 false,oG 146 (.load .sc (.t 145)) 144 false,oG 147 (.bin .neq (.t 146) (.k (.c (.d (.str ⟨#[]⟩))))) 144 false,
 oO 148 (.pick (.t 144) (.k (.c (.d (.bool true)))) (.t 147)),oM 149 148,oG 150 (.fieldAddr 6 (.t 24)) 149 false,oG 151 (.load .sc (.t 150)) 149 false,oG 152 (.bin .neq (.t 151) (kI 0)) 149 false,oO 153 (.pick (.t 149) (.k (.c (.d (.bool true)))) (.t 152))]) (.cond (.t 153) (.seq (.reg [oO 12 (.mv (.k (.c (.d (.bool false)))))]) (.ret)) (.skip))) (.seq (.seq (.reg [oO 30 (.mv (kI 0))]) (.block 2 (.loop zg))) (.seq (.reg [oO 192 (.call 9 [] none),oM 193 192,oG 194 (.fieldAddr 2 (.t 24)) 193 true,oG 195 (.fieldAddr 0 (.t 194)) 193 true,oG 196 (.load .sc (.t 195)) 193 true,oG 197 (.len (.t 196)) 193 true,oG 198 (.bin .eql (.t 197) (kI 32)) 193 true,oO 199 (.pick (.t 193) (.t 198) (.k (.c (.d (.bool false))))),oM 200 199,oG 201 (.fieldAddr 2 (.t 24)) 200 true,oG 202 (.fieldAddr 0 (.t 201)) 200 true,
 oG 203 (.load .sc (.t 202)) 200 true,oG 204 (.fieldAddr 2 (.t 24)) 200 true,oG 205 (.fieldAddr 1 (.t 204)) 200 true,oG 206 (.load .sc (.t 205)) 200 true,oG 207 (.call 20 [(.t 203),(.t 206)] none) 200 true,oG 208 (.un .not (.t 207)) 200 true,oO 209 (.pick (.t 200) (.t 208) (.k (.c (.d (.bool false))))),oM 12 209]) (.ret))))))))))))))))),[(12,none)]⟩
theorem Zn:aB Tryz.prog { own:=[48,52],comp:=[],frz:=[],nils:=[] } Tryz.f5=some MU:=by kernel_rfl
theorem aaB (G:ah) (seed:Int) (hseed1:-9223372036854775808≤seed) (hseed2:seed≤9223372036854775807) (protocols:List Int) (hprotocols1:protocols.length≤maxLen) (hprotocols2:∀ n∈protocols,pZ n) (algos:List Int) (halgos1:algos.length≤maxLen) (halgos2:∀ n∈algos,pZ n) (supported:List Int) (hsupported1:supported.length≤maxLen) (hsupported2:∀ n∈supported,pZ n) (other:List Int) (hother1:other.length≤maxLen) (hother2:∀ n∈other,pZ n) (cookies:Int) (hcookies1:-9223372036854775808≤cookies) (hcookies2:cookies≤9223372036854775807) (hF:G.at 0=some (.ra (bA.map wD))) (hG:G.at 1=some (.ra (bw.map wD))):am Tryz.prog G 5 [.int .i64 seed,.sl (protocols.map zD),.sl (algos.map zD),.sl (supported.map zD),.sl (other.map zD),.int .i64 cookies] (.w (.c (.d (.bool true)))):=by
  refine aE Tryz.func5 Zn rfl rfl ?_;have hmx:maxLen=9223372036854775807:=rfl;have ck:=Q6 G hF hG;have c0:=qP G seed 1000 (by decide);obtain⟨r0,r1⟩:=sK seed 1000 (by decide);obtain⟨s,hs⟩:=abW r0;have hs:fw seed 1000=(s:Int):=hs;rw[hs] at c0 r0 r1;have kl:=ux (s:Int);have c1:=Nw G (s:Int);have cc:=qP G cookies 8 (by decide);obtain⟨n0,n1⟩:=sK cookies 8 (by decide);obtain⟨N,hN⟩:=abW n0;have hN:fw cookies 8=(N:Int):=hN;rw[hN] at cc n0 n1;have d1:=Kc G supported (by omega);have d2:=Kc G other (by omega);have d3:=z5 G protocols (by omega);have d4:=z5 G algos (by omega);have hrq:=aay protocols algos;have hrs:=fun K=>aaz (s:=s) (S:=bW (s:Int)) K supported other (by omega) kl
  have hX:((bX protocols 6).map zD)++[D.int .i64 3]=(bX protocols 6++[3]).map zD:=by rw[abn]; rfl
  have hY:((bX algos 6).map zD)++[D.int .i64 4]=(bX algos 6++[4]).map zD:=by rw[abn]; rfl
  have xin:=wg (l:=protocols) (c:=3) (by decide);have yin:=wg (l:=algos) (c:=4) (by decide);have xl:=vu protocols 3;have yl:=vu algos 4;have sp1:=q9 protocols;have sp2:=q9 algos;have pl:=q9 supported;have ql:=q9 other;have xl':(bX protocols 6).length+1=(bX protocols 6++[3]).length:=by rw[aa1]; rfl
  have yl':(bX algos 6).length+1=(bX algos 6++[4]).length:=by rw[aa1]; rfl
  have az1:=tC (bX protocols 6);have az2:=tC (bX algos 6);generalize hXX:bX protocols 6++[3]=X at *
  generalize hYY:bX algos 6++[4]=Y at *
  generalize bX supported 6=P at *
  generalize bX other 6=Q at *
  have cD:=c1;rw[vw,vw] at cD;generalize hA1:(bn true (bW (s:Int)) 0 0).sk=A1 at *
  generalize hA2:(bn true (bW (s:Int)) 0 0).rk=A2 at *
  generalize hB1:(bn false (bW (s:Int)) 0 0).sk=B1 at *
  generalize hB2:(bn false (bW (s:Int)) 0 0).rk=B2 at *
  simp only[MU,af,ae,aa,seval,iteOmega,toNatUp];refine sD (c0) ?_;refine sD (cD) ?_;refine sD (d1) ?_;refine sD (d2) ?_;refine sC (d3) ?_;simp only[bP,hX,xl',ae,aa,seval,iteOmega,toNatUp];refine sC (d4) ?_;simp only[bP,hY,yl',ae,aa,seval,iteOmega,toNatUp];refine be (pP s cookies (bW (s:Int)) A1 A2 B1 B2 P Q X Y) (fun j=>N+1-j) (fun j=>j≤N+1) 0 (aa8 _) ?_ ?_
  ·refine aA (fun i=>if i=1 then 104 else if i=2 then 112 else if i=3 then 120 else if i=4 then 400 else if i=5 then 432 else 536) ?_ ?_ rfl rfl <;> simp only[wx,aw,aG,aa,seval,iteOmega,toNatUp,lA,lB] <;> first | rfl | exact⟨rfl,rfl⟩ | skip
  ·intro j hj;have hS:=Ts s j;have hll:=Kb s (j+1);have hlj:=Kb s j;by_cases hlt:j<N+1
   ·have cB:=qQ G ((s:Int)+(j:Int)) 16 (by decide);rw[show ((s:Int)+(j:Int))=((s+j:Nat):Int) from (acv _ _).symm] at cB;have g1:((j:Int)≤(N:Int))=True:=eq_true (by omega);generalize aQ ((s+j:Nat):Int) 16=b at *
    rw[acv] at cB;rcases j with _ | j
    ·have h0:dU s 0=[]:=rfl;rw[h0] at hS;have hs2:[D.sl (b.map bD)]=(dU s (0+1)).map fun l=>D.sl (l.map bD):=by rw[← hS]; rfl
     simp only[oJ,pP,lA,lB,ae,aa,seval,iteOmega,toNatUp,g1];refine sC (cc) ?_;simp only[g1,ae,aa,seval,iteOmega,toNatUp];refine sC (cB) ?_;simp only[bP,ae,aa,seval,iteOmega,toNatUp];refine aV (0+1) (by omega) (by omega) (aA (fun i=>if i=6 then 536 else i) ?_ ?_ rfl rfl) <;> simp only[wx,aw,aG,aa,seval,iteOmega,toNatUp,lA,lB,hs2,hll] <;> first | rfl | exact⟨rfl,rfl⟩ | skip
    ·have hs2:((dU s (j+1)).map fun l=>D.sl (l.map bD))++[D.sl (b.map bD)]=(dU s (j+1+1)).map fun l=>D.sl (l.map bD):=by rw[← hS,abn]; rfl
     have g1:((j:Int)+1≤(N:Int))=True:=eq_true (by omega);simp only[oJ,pP,lA,lB,ae,aa,seval,iteOmega,toNatUp,g1];refine sC (cc) ?_;simp only[g1,ae,aa,seval,iteOmega,toNatUp];refine sC (cB) ?_;simp only[bP,hs2,hlj,ae,aa,seval,iteOmega,toNatUp];refine aV (j+1+1) (by omega) (by omega) (aA (fun i=>if i=6 then 536 else i) ?_ ?_ rfl rfl) <;> simp only[wx,aw,aG,aa,seval,iteOmega,toNatUp,lA,lB,hll,hs2] <;> first | rfl | exact⟨rfl,rfl⟩ | skip
   ·obtain rfl:j=N+1:=by omega
    clear hS hll;have kr:(aQ (s:Int) 32).length=32:=lS _ _;have n16:=Zl (s:=s) (j:=N+1);have hn:mP (dU s (N+1)) jJ:=⟨by omega,by omega,by decide,n16⟩
    have c2:=BE G X Y (by omega) (by omega);have c3:=BB G s 1 (by omega);rw[show (fw 1 6).toNat=1 from by decide] at c3;have hR:=hrs (aQ (s:Int) 32);have rl:=kP s (aQ (s:Int) 32) 1;have hh:=Tp s (aQ (s:Int) 32) 1;have hv:=r8 (cl:=true) (n:=0) (m:=0) kl (by decide) (by decide);obtain⟨bl,ag1,ag2⟩:=agree (p:=⟨P,Q,jJ,0⟩) (r:=bH s (aQ (s:Int) 32) 1) (c:=bn false (bW (s:Int)) 0 0) (c':=bn true (bW (s:Int)) 0 0) (x:=X) (y:=Y) hrq hR hn hv rfl;have bq:(bF X Y).length≤65535:=by
      have e:bF X Y=bh (dT X Y):=if_pos hrq;rw[e];exact (mm (AE hrq).1).2.2
    have c4:=NK G hF hG ⟨P,Q,jJ,0⟩ (bH s (aQ (s:Int) 32) 1) (bn false (bW (s:Int)) 0 0) (bF X Y) (dU s (N+1)) (by show P.length≤_; omega) (by show Q.length≤_; omega) (show jJ.size≤_ by decide) (by omega) (by omega) (by omega) (fun n hn=>by have:=n16 n hn; omega);have c5:=NP G hF hG (bn true (bW (s:Int)) 0 0) (bF X Y) (gP ⟨P,Q,jJ,0⟩ (bH s (aQ (s:Int) 32) 1) (bn false (bW (s:Int)) 0 0) (bF X Y) (dU s (N+1))) (by omega) (by omega);have c6:=Ns G X P (by omega) (by omega);have c7:=Ns G Y Q (by omega) (by omega);rw[hrq] at c2;rw[hR] at c4;dsimp only at ag1 ag2;rw[hh] at ag2;have n0:(0:Int)≤0∧(0:Int)≤1099511627776:=by decide
    have hne:=fun v a (hv:0≤v∧v<6) (ha:0≤a∧a<6)=>aaA (s:=s) (v:=v) (a:=a) (by omega) n0 n0 hv ha
    have hin:∀ v a,dj X P=some v→dj Y Q=some a→(0≤v∧v<6)∧(0≤a∧a<6):=fun v a h1 h2=>⟨xin v (mg h1).1,yin a (mg h2).1⟩
    have tX:(X.map zD).take X.length=X.map zD:=aa2 (by rw[aa7]; exact aba _);have tY:(Y.map zD).take Y.length=Y.map zD:=aa2 (by rw[aa7]; exact aba _);have tn:((dU s (N+1)).map fun l=>D.sl (l.map bD)).take (N+1)=(dU s (N+1)).map fun l=>D.sl (l.map bD):=aa2 (by rw[aa7,hlj]; exact aba _)
    have g1:((N:Int)+1≤(N:Int))=False:=eq_false (by omega);generalize ei (bn true (bW (s:Int)) 0 0) (bF X Y) (gP ⟨P,Q,jJ,0⟩ (bH s (aQ (s:Int) 32) 1) (bn false (bW (s:Int)) 0 0) (bF X Y) (dU s (N+1)))=e at *
    generalize mQ (bn true (bW (s:Int)) 0 0) (bF X Y) (gP ⟨P,Q,jJ,0⟩ (bH s (aQ (s:Int) 32) 1) (bn false (bW (s:Int)) 0 0) (bF X Y) (dU s (N+1)))=T at *
    generalize gP ⟨P,Q,jJ,0⟩ (bH s (aQ (s:Int) 32) 1) (bn false (bW (s:Int)) 0 0) (bF X Y) (dU s (N+1))=R at *
    generalize bF X Y=q at *
    rw[vw,hB1,hB2] at c4;rw[vw,hA1,hA2] at c5;generalize dj X P=ox at *
    generalize dj Y Q=oy at *
    unfold fb jJ bJ at c4;unfold bJ at c3;unfold nS at c5;clear hrs hR hn hv hh hrq c0 c1 cD d1 d2 d3 d4 hX hY xin yin xl' yl' az1 az2 n16;by_cases hno:ox=none∨oy=none
    ·have e1:=ag1 hno;subst e1;rcases ox with _ | v
     ·simp only[abX,acd] at c6;simp only[oJ,pP,lA,lB,ae,aa,seval,iteOmega,toNatUp];refine sC (cc) ?_;simp only[g1,ae,aa,seval,iteOmega,toNatUp];refine ow c2 (by simp only[ae,aa,seval,iteOmega,toNatUp,tX,tY]) (pO _ _) (by simp only[ae,aa,seval,iteOmega,toNatUp,jt,V.hasOwn,C.isOwn,V.own1,oZ,o0,ac0,acQ,acT,Bool.false_or]) ?_;simp only[ae,aa,seval,iteOmega,toNatUp];refine sD (c3) ?_;refine ow c4 (by simp only[ae,aa,seval,iteOmega,toNatUp,tn]) (pO _ _) (by simp only[ae,aa,seval,iteOmega,toNatUp,jt,V.hasOwn,C.isOwn,V.own1,oZ,o0,ac0,acQ,acT,Bool.false_or]) ?_;simp only[ae,aa,seval,iteOmega,toNatUp];refine sD (c5) ?_;refine a8 c6 (by simp only[ae,aa,seval,iteOmega,toNatUp,tX]) (.inr rfl) ?_;simp only[ae,aa,seval,iteOmega,toNatUp];refine a8 c7 (by simp only[ae,aa,seval,iteOmega,toNatUp,tY]) (.inr rfl) ?_;simp only[ae,aa,seval,iteOmega,toNatUp];refine sD (ck) ?_;exact aF
     ·rcases oy with _ | a
      ·simp only[abX,acd,abO,ab3] at c6 c7;simp only[oJ,pP,lA,lB,ae,aa,seval,iteOmega,toNatUp];refine sC (cc) ?_;simp only[g1,ae,aa,seval,iteOmega,toNatUp];refine ow c2 (by simp only[ae,aa,seval,iteOmega,toNatUp,tX,tY]) (pO _ _) (by simp only[ae,aa,seval,iteOmega,toNatUp,jt,V.hasOwn,C.isOwn,V.own1,oZ,o0,ac0,acQ,acT,Bool.false_or]) ?_;simp only[ae,aa,seval,iteOmega,toNatUp];refine sD (c3) ?_;refine ow c4 (by simp only[ae,aa,seval,iteOmega,toNatUp,tn]) (pO _ _) (by simp only[ae,aa,seval,iteOmega,toNatUp,jt,V.hasOwn,C.isOwn,V.own1,oZ,o0,ac0,acQ,acT,Bool.false_or]) ?_;simp only[ae,aa,seval,iteOmega,toNatUp];refine sD (c5) ?_;refine a8 c6 (by simp only[ae,aa,seval,iteOmega,toNatUp,tX]) (.inr rfl) ?_;simp only[ae,aa,seval,iteOmega,toNatUp];refine a8 c7 (by simp only[ae,aa,seval,iteOmega,toNatUp,tY]) (.inr rfl) ?_;simp only[ae,aa,seval,iteOmega,toNatUp];refine sD (ck) ?_;exact aF
      ·rcases hno with h | h <;> cases h
    ·obtain⟨v,rfl⟩:∃ v,ox=some v:=by cases ox with | none=>exact absurd (.inl rfl) hno | some v=>exact⟨v,rfl⟩
     obtain⟨a,rfl⟩:∃ a,oy=some a:=by cases oy with | none=>exact absurd (.inr rfl) hno | some a=>exact⟨a,rfl⟩
     obtain⟨e1,hT,v2,a2,kz⟩:=ag2 v a rfl rfl;obtain⟨v6,a6⟩:=hin v a rfl rfl;have ne:=hne v a v6 a6;have u32:=l8 (z:=0) kz;have w32:=l8 (z:=1) kz;simp only[abO,ab3] at c6 c7;rw[hT] at c5;subst e1;clear ag1 ag2 hin hne hT hno kz;have rl2:=kP s (aQ (s:Int) 32) 2;have ho:=fun n (hn:n.length=16)=>V4 (s:=s) (t:=2) (k:=1) (seed:=aQ (s:Int) 32) (algo:=a) (up:=bp (bn false (bW (s:Int)) 0 0) v a 0) (dn:=bp (bn false (bW (s:Int)) 0 0) v a 1) (n:=n) (by omega) (by decide) a2.1 a2.2 u32 w32 hn
     have hkl:=fun n (hn:n.length=16)=>Zk (s:=s) (k:=1) (seed:=aQ (s:Int) 32) (algo:=a) (up:=bp (bn false (bW (s:Int)) 0 0) v a 0) (dn:=bp (bn false (bW (s:Int)) 0 0) v a 1) (n:=n) (by omega) a2.1 a2.2 u32 w32 hn
     generalize bp (bn false (bW (s:Int)) 0 0) v a 0=U at *
     generalize bp (bn false (bW (s:Int)) 0 0) v a 1=W at *
     have hat:∀ i,i<N+1→((dU s (N+1)).map fun n=>bZ (eG s (aQ (s:Int) 32) 1) a U W n).getD i []=bZ (eG s (aQ (s:Int) 32) 1) a U W (aQ ((s+i:Nat):Int) 16):=fun i hi=>by
       rw[aa0,abK,aaY (by omega)];have:=Zm (s:=s) hi;rw[aa0,aaY (by omega)] at this
       show bZ _ _ _ _ ((dU s (N+1))[i])=_
       exact congrArg (bZ (eG s (aQ (s:Int) 32) 1) a U W) (Option.some.inj (congrArg some this))
     have hcl:((dU s (N+1)).map fun n=>bZ (eG s (aQ (s:Int) 32) 1) a U W n).length=N+1:=by rw[aa7,hlj]
     dsimp only at c5;generalize ((dU s (N+1)).map fun n=>bZ (eG s (aQ (s:Int) 32) 1) a U W n)=CK at *
     have eh:(⟨jJ.data.toList.toArray⟩:ByteArray)=⟨#[]⟩:=rfl;rw[eh] at c5;have e1:((CK.length:Int)=(N:Int)+1)=True:=eq_true (by omega);have es:iX .neq (⟨#[]⟩:ByteArray) ⟨#[]⟩=some (.bool false):=by simp[iX]
     simp only[oJ,pP,lA,lB,ae,aa,seval,iteOmega,toNatUp];refine sC (cc) ?_;simp only[g1,ae,aa,seval,iteOmega,toNatUp];refine ow c2 (by simp only[ae,aa,seval,iteOmega,toNatUp,tX,tY]) (pO _ _) (by simp only[ae,aa,seval,iteOmega,toNatUp,jt,V.hasOwn,C.isOwn,V.own1,oZ,o0,ac0,acQ,acT,Bool.false_or]) ?_;simp only[ae,aa,seval,iteOmega,toNatUp];refine sD (c3) ?_;refine ow c4 (by simp only[ae,aa,seval,iteOmega,toNatUp,tn]) (pO _ _) (by simp only[ae,aa,seval,iteOmega,toNatUp,jt,V.hasOwn,C.isOwn,V.own1,oZ,o0,ac0,acQ,acT,Bool.false_or]) ?_;simp only[ae,aa,seval,iteOmega,toNatUp];refine sD (c5) ?_;refine a8 c6 (by simp only[ae,aa,seval,iteOmega,toNatUp,tX]) (.inr rfl) ?_;simp only[ae,aa,seval,iteOmega,toNatUp];refine a8 c7 (by simp only[ae,aa,seval,iteOmega,toNatUp,tY]) (.inr rfl) ?_;simp only[ae,aa,seval,iteOmega,toNatUp,e1,es];refine be (BQ s v a U W CK) (fun i=>N+1-i) (fun i=>i≤N+1) 0 (aa8 _) ?_ ?_
     ·refine aA (fun _=>192) ?_ ?_ rfl rfl <;> simp only[wx,aw,aG,aa,seval,iteOmega,toNatUp] <;> first | rfl | exact⟨rfl,rfl⟩ | skip
     ·intro i hi;have gl:((i:Int)<(CK.length:Int))=((i:Int)<((N+1:Nat):Int)):=by rw[hcl]
      by_cases hlt:i<N+1
      ·have cw:=BB G s 2 (by omega);rw[show (fw 2 6).toNat=2 from by decide] at cw;have b16:(aQ ((s+i:Nat):Int) 16).length=16:=lS _ _;obtain⟨_,o1,_⟩:=ho _ b16;obtain⟨o2,o3⟩:=o1 (by decide);have kl4:=hkl _ b16;have gA:=uB (l:=CK) (i:=i) (by omega);rw[hat i hlt] at gA;have cO:=Zj G (bH s (aQ (s:Int) 32) 2) (bZ (eG s (aQ (s:Int) 32) 1) a U W (aQ ((s+i:Nat):Int) 16)) (by rw[rl2]; decide) (by rw[kl4]; decide);rw[o2,o3] at cO;dsimp only at cO;rw[show ((2-1:Nat):Int)=1 from rfl] at cO;have sp:=ZN G U W;clear o1 o2 o3 ho hkl hat c2 c3 c4 c5 c6 c7;generalize bZ (eG s (aQ (s:Int) 32) 1) a U W (aQ ((s+i:Nat):Int) 16)=kk at *
       generalize bH s (aQ (s:Int) 32) 2=ring at *
       unfold bJ d8 at *
       have g2:((i:Int)<(CK.length:Int))=True:=eq_true (by omega);simp only[zg,BQ,ae,aa,seval,iteOmega,toNatUp,g2];refine sC (cw) ?_;simp only[aJ,gA,ae,aa,seval,iteOmega,toNatUp];refine sD (cO) ?_;refine sD (sp) ?_;refine aV (i+1) (by omega) (by omega) (aA (fun i=>i) ?_ ?_ rfl rfl) <;> simp only[wx,aw,aG,aa,seval,iteOmega,toNatUp] <;> first | rfl | exact⟨rfl,rfl⟩ | skip
      ·obtain rfl:i=N+1:=by omega
       have g2:(((N:Int)+1)<(CK.length:Int))=False:=eq_false (by omega);have s1:=zx G U W;rw[ne] at s1;have u2:((U.length:Int)=32)=True:=eq_true (by omega);simp only[zg,BQ,ae,aa,seval,iteOmega,toNatUp,g2];refine sC (ck) ?_;simp only[u2,ae,aa,seval,iteOmega,toNatUp];refine sD (s1) ?_;exact aF
end Go.Proofs.YtlghfnidknfakaaGreatDoor
