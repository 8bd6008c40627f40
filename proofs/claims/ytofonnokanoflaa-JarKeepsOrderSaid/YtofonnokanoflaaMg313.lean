/- Texts of one's own, merged: from: Layer 6 on data: tags,sealed bytes,opened ones; both codes. Own work. -/
import Derived.Shelf.Abstract
import Derived.Test.YtofonnokanoflaaMg311
import Derived.Test.YtofonnokanoflaaMg310
import Derived.Test.YtofonnokanoflaaMg312
set_option linter.unusedVariables false
set_option linter.unusedSimpArgs false
namespace Go.Proofs.Ytofonnokanoflaa
open Go.RowKit IntWalk
set_option maxHeartbeats 1600000
def iJ (tag:List UInt8):List UInt8:=(tag.set 8 (jm (tag.getD 8 0) 127)).set 12 (jm (tag.getD 12 0) 127)
theorem sB (tag:List UInt8):(iJ tag).length=tag.length:=by unfold iJ; rw[R9,R9]
def dq (key:List UInt8) (ad:List (List UInt8)) (b:List UInt8):List UInt8:=gx (aw (key.take 16)) (ad++[b])
theorem nX (key:List UInt8) (ad:List (List UInt8)) (b:List UInt8):(dq key ad b).length=16:=JV _ _
def gW (key tag b:List UInt8):List UInt8:=eH (aw (key.drop 16)) (iJ tag) b
theorem sE (key tag b:List UInt8):(gW key tag b).length=b.length:=nB _ _ _
def gp (l:List (List UInt8)):Bool:=l.any fun x=>decide (65519<x.length)
def cJ (key:List UInt8) (ad:List (List UInt8)) (n:Int):Int:=if key.length≠32 then 5 else if 16<ad.length then 8 else if gp ad=true∨65519<n then 2 else 0
def lE (key:List UInt8) (ad:List (List UInt8)) (b:List UInt8):List UInt8:=if cJ key ad b.length=0 then dq key ad b else []
def jQ (key:List UInt8) (ad:List (List UInt8)) (b:List UInt8):List UInt8:=if cJ key ad b.length=0 then dq key ad b++gW key (dq key ad b) b else []
theorem Iz {l:List (List UInt8)} (h:gp l=false):∀ x∈l,x.length≤65519:=by
  unfold gp at h;rw[Sj] at h;intro x hx
  simpa using h x hx
theorem Ep {key:List UInt8} {ad:List (List UInt8)} {n:Int} (h:cJ key ad n=0):key.length=32∧ad.length≤16∧gp ad=false∧n≤65519:=by
  unfold cJ at h;split at h
  ·cases h
  ·split at h
   ·cases h
   ·split at h
    ·cases h
    ·rename_i h1 h2 h3;cases hl:gp ad
     ·exact⟨by omega,by omega,rfl,by omega⟩
     ·exact absurd (.inl hl) h3
theorem Cb (key:List UInt8) (ad:List (List UInt8)) (n:Int):cJ key ad n=0∨cJ key ad n=5∨cJ key ad n=8∨cJ key ad n=2:=by
  unfold cJ;split
  ·exact .inr (.inl rfl)
  ·split
   ·exact .inr (.inr (.inl rfl))
   ·split
    ·exact .inr (.inr (.inr rfl))
    ·exact .inl rfl
theorem LG {k:List UInt8} {l:List (List UInt8)} (h:k.length=16) (hn:l.length≤17) (hl:∀ x∈l,x.length≤65535):vp k l=gx (aw k) l∧qh k l=0:=by
  have:gO l=false:=by
    unfold gO;rw[Sj];intro x hx;have:=hl x hx
    simpa using this
  refine⟨if_pos ⟨h,hn,this⟩,?_⟩;unfold qh;rw[if_neg (by omega),if_neg (by omega),this,if_neg (by simp)]
theorem IA {k c b:List UInt8} (h:k.length=16) (hc:c.length=16) (hb:b.length≤65535):pF k c b=eH (aw k) c b∧gP k c b=0:=by
  refine⟨if_pos ⟨h,hc,hb⟩,?_⟩;unfold gP;rw[if_neg (by omega),if_neg (by omega),if_neg (by omega)]
theorem Eq {ad:List (List UInt8)} {b:List UInt8} (h:gp ad=false) (hb:b.length≤65519):∀ x∈ad++[b],x.length≤65535:=by
  intro x hx;rcases Re.1 hx with hx | hx
  ·have:=Iz h x hx; omega
  ·simp only[Q9] at hx; subst hx; omega
def tp:aE:=⟨1,6,.seq (.reg [oO 2 (.mv (.k (.c (.d (.bool false)))))]) (.seq (.reg [oM 3 0,oO 4 (.len (.t 3)),oO 5 (.bin .gtr (.t 4) (kI 65519)),oM 2 5]) (.ret)),[(2,none)]⟩
theorem LH:aD Try.prog { own:=[],comp:=[],frz:=[],nils:=[] } Try.f75=some tp:=by kernel_rfl
theorem NH (G:ak) (x:List UInt8) (hx:x.length≤9223372036854775807):lA Try.prog G 75 [] [.sl (x.map bD)] (.w (.c (.d (.bool (decide (65519<x.length)))))):=by
  refine⟨enters_of Try.func75 (by kernel_rfl) rfl,?_⟩;refine aF Try.func75 LH rfl rfl ?_;by_cases h:65519<x.length
  ·have hd:decide (65519<x.length)=true:=decide_eq_true h;rw[hd];simp only[tp,aj,ae,aa,seval,iteOmega,toNatUp];exact aM
  ·have hd:decide (65519<x.length)=false:=decide_eq_false h;rw[hd];simp only[tp,aj,ae,aa,seval,iteOmega,toNatUp];exact aM
def kY:aE:=⟨3,21,.seq (.reg [oO 6 (.mv (kI 0))]) (.seq (.seq (.reg [oM 8 0,oO 9 (.len (.t 8)),oO 10 (.bin .neq (.t 9) (kI 32))]) (.cond (.t 10) (.seq (.reg [oO 6 (.mv (kI 5))]) (.ret)) (.skip))) (.seq (.seq (.reg [oM 11 1,oO 12 (.len (.t 11)),oO 13 (.bin .gtr (.t 12) (kI 16))]) (.cond (.t 13) (.seq (.reg [oO 6 (.mv (kI 8))]) (.ret)) (.skip))) (.seq (.reg [oO 7 (.mv (.k (.c (.d (.fn 75 [])))))]) (.seq (.seq (.reg [oM 14 1,oM 15 7,oO 16 (.call 47 [(.t 14),(.t 15)] none),oM 17 16,oG 18 (.mv (.t 2)) 17 false,oG 19 (.bin .gtr (.t 18) (kI 65519)) 17 false,oO 20 (.pick (.t 17) (.k (.c (.d (.bool true)))) (.t 19))]) (.cond (.t 20) (.seq (.reg [oO 6 (.mv (kI 2))]) (.ret)) (.skip))) (.seq (.reg [oO 6 (.mv (kI 0))]) (.ret)))))),[(6,none)]⟩
theorem NI:aD Try.prog { own:=[],comp:=[],frz:=[],nils:=[] } Try.f60=some kY:=by kernel_rfl
theorem Ps (G:ak) (key:List UInt8) (ad:List (List UInt8)) (n:Int) (hk:key.length≤9223372036854775807) (hl:ad.length≤9223372036854775807) (hb:∀ x∈ad,x.length≤9223372036854775807):ar Try.prog G 60 [.sl (key.map bD),dK ad,.int .i64 n] (.w (.c (.d (.int .i64 (cJ key ad n))))):=by
  refine aF Try.func60 NI rfl rfl ?_;have hc:=D9 G ad 75 [] (fun x=>decide (65519<x.length)) hl (fun x hx=>NH G x (hb x hx));have hL:(ad.any fun x=>decide (65519<x.length))=gp ad:=rfl;rw[hL] at hc;unfold cJ;by_cases h:key.length=32
  ·rw[if_neg (by omega)];by_cases h2:16<ad.length
   ·rw[if_pos h2];simp only[kY,aj,ae,aa,seval,iteOmega,toNatUp];exact aM
   ·rw[if_neg h2];cases hl:gp ad
    ·rw[hl] at hc;by_cases h3:65519<n
     ·rw[if_pos (.inr h3)];simp only[kY,aj,ae,aa,seval,iteOmega,toNatUp];refine sD (hc) ?_;exact aM
     ·rw[if_neg (by simp; omega)];simp only[kY,aj,ae,aa,seval,iteOmega,toNatUp];refine sD (hc) ?_;exact aM
    ·rw[hl] at hc;rw[if_pos (.inl rfl)];simp only[kY,aj,ae,aa,seval,iteOmega,toNatUp];refine sD (hc) ?_;exact aM
  ·rw[if_pos h];simp only[kY,aj,ae,aa,seval,iteOmega,toNatUp];exact aM
def Cc:aE:=⟨3,23,.seq (.reg [oO 6 (.mv (.k (.c .nil)))]) (.seq (.reg [oM 10 1,oM 11 2,oO 12 (.bldSl false 1 1 (.sl []) [(0,(.t 11))]),oO 13 (.bldSl false 2 1 (.sl []) [(0,(.t 10)),(1,(.t 12))]),oO 14 (.call 78 [(.t 13)] none),oM 7 14]) (.seq (.reg [oM 16 0,oO 17 (.slice 1 (.t 16) none (some (kI 16)) none),oM 18 7,oO 19 (.call 79 [(.t 17),(.t 18)] (some (0,1))),oM 15 19,oO 20 (.extract (.t 15) 0),oO 21 (.extract (.t 15) 1),oM 8 20,oM 9 21]) (.seq (.reg [oM 22 8,oM 6 22]) (.ret)))),[(6,none)]⟩
theorem LI:aD Try.prog { own:=[],comp:=[(19,0)],frz:=[],nils:=[] } Try.f62=some Cc:=by kernel_rfl
theorem NJ (G:ak) (key:List UInt8) (ad:List (List UInt8)) (b:List UInt8) (h:key.length=32) (hn:ad.length≤16) (hl:gp ad=false) (hb:b.length≤65519):ar Try.prog G 62 [.sl (key.map bD),dK ad,.sl (b.map bD)] (.w (.c (.fr 1 ((dq key ad b).map bD)))):=by
  refine aF Try.func62 LI rfl rfl ?_;have hf:[ad,[b]].flatten=ad++[b]:=by simp
  have hc:=M9 G [ad,[b]] (by simp) (by rw[hf]; simp; omega);rw[hf] at hc;have hk:(key.take 16).length=16:=by rw[QY]; omega
  obtain⟨v1,v2⟩:=LG (l:=ad++[b]) hk (by simp; omega) (Eq hl hb);have hv:=NC G (key.take 16) (ad++[b]) (by omega) (by simp; omega) (fun x hx=>RB (Eq hl hb x hx) (by decide));rw[v1,v2] at hv;have ht:gx (aw (key.take 16)) (ad++[b])=dq key ad b:=rfl;rw[ht] at hv;simp only[Cc,aj,ae,aa,seval,iteOmega,toNatUp];refine sD (hc) ?_;refine sD (hv) ?_;exact fq
theorem tq {tag:List UInt8} (h:tag.length=16) {i:Nat} (hi:i<16):tag[i]?=some (tag.getD i 0):=by
  rw[QW,QT (by omega)]; rfl
theorem LJ {tag:List UInt8} (h:tag.length=16) (x:UInt8):(tag.set 8 x)[12]?=some (tag.getD 12 0):=by
  rw[List.getElem?_set_ne (by decide),tq h (by decide)]
def Er:aE:=⟨1,18,.seq (.reg [oO 2 (.mv (.k (.c .nil)))]) (.seq (.reg [oM 4 0,oO 5 (.bldSl false 1 1 (.sl []) [(0,(.t 4))]),oO 6 (.call 30 [(.t 5)] (some (0,1))),oM 3 6]) (.seq (.reg [oM 7 3,oO 8 (.idxSl 1 (.t 7) (kI 8)),oO 9 (.load .sc (.t 8)),oO 10 (.bin .and (.t 9) (.k (.c (.d (.int .u8 127))))),oO 11 (.idxSl 1 (.t 7) (kI 8)),oN (.store .sc (.t 11) (.t 10))]) (.seq (.reg [oM 12 3,oO 13 (.idxSl 1 (.t 12) (kI 12)),oO 14 (.load .sc (.t 13)),oO 15 (.bin .and (.t 14) (.k (.c (.d (.int .u8 127))))),oO 16 (.idxSl 1 (.t 12) (kI 12)),oN (.store .sc (.t 16) (.t 15))]) (.seq (.reg [oM 17 3,oM 2 17]) (.ret))))),[(2,none)]⟩
theorem NK:aD Try.prog { own:=[6],comp:=[],frz:=[],nils:=[] } Try.f77=some Er:=by kernel_rfl
theorem Pt (G:ak) (tag:List UInt8) (h:tag.length=16):ar Try.prog G 77 [.sl (tag.map bD)] (.w (.c (.fr 1 ((iJ tag).map bD)))):=by
  refine aF Try.func77 NK rfl rfl ?_;have hj:=dt G [tag] (by simp) (by simp; omega);have hf:[tag].flatten=tag:=by simp
  rw[hf] at hj;have g1:=tq h (i:=8) (by decide);have g2:=tq h (i:=12) (by decide);have g3:=LJ h (jm (tag.getD 8 0) 127);have x1:=D1 (tag.getD 8 0) 127 127 rfl;have x2:=D1 (tag.getD 12 0) 127 127 rfl;have hs:(tag.set 8 (jm (tag.getD 8 0) 127)).set 12 (jm (tag.getD 12 0) 127)=iJ tag:=rfl;simp only[Er,aj,ae,aa,seval,iteOmega,toNatUp];refine sC (hj) ?_;simp only[aU,g1,g2,g3,x1,x2,sX,hs,ae,aa,seval,iteOmega,toNatUp];exact DZ (by simp only[ae,aa,seval,iteOmega,toNatUp,sB])
theorem Pu (G:ak) (tag:List UInt8) (h:tag.length=16):ar Try.prog G 77 [.sl (tag.map bD)] (.w (.c (.d (.sl ((iJ tag).map bD))))):=jG (Pt G tag h)
def Cd:aE:=⟨3,19,.seq (.reg [oO 6 (.mv (.k (.c .nil)))]) (.seq (.reg [oM 10 0,oO 11 (.slice 1 (.t 10) (some (kI 16)) none none),oM 12 1,oO 13 (.call 77 [(.t 12)] none),oM 14 2,oO 15 (.call 76 [(.t 11),(.t 13),(.t 14)] (some (0,1))),oM 9 15,oO 16 (.extract (.t 9) 0),oO 17 (.extract (.t 9) 1),oM 7 16,oM 8 17]) (.seq (.reg [oM 18 7,oM 6 18]) (.ret))),[(6,none)]⟩
theorem LK:aD Try.prog { own:=[],comp:=[(15,0)],frz:=[],nils:=[] } Try.f61=some Cd:=by kernel_rfl
theorem NL (G:ak) (key tag b:List UInt8) (h:key.length=32) (ht:tag.length=16) (hb:b.length≤65535):ar Try.prog G 61 [.sl (key.map bD),.sl (tag.map bD),.sl (b.map bD)] (.w (.c (.fr 1 ((gW key tag b).map bD)))):=by
  refine aF Try.func61 LK rfl rfl ?_;have hk:(key.drop 16).length=16:=by rw[Q4]; omega
  have hk2:(key.drop 16).take 16=key.drop 16:=QZ (by omega);obtain⟨v1,v2⟩:=IA (c:=iJ tag) (b:=b) hk (by rw[sB]; exact ht) hb;have hv:=Pp G (key.drop 16) (iJ tag) b (by omega) (by rw[sB]; omega) (by omega);rw[v1,v2] at hv;have hs:eH (aw (key.drop 16)) (iJ tag) b=gW key tag b:=rfl;rw[hs] at hv;simp only[Cd,aj,ae,aa,seval,iteOmega,toNatUp,h];refine sC (Pu G tag ht) ?_;simp only[hk2,ae,aa,seval,iteOmega,toNatUp];refine sD (hv) ?_;exact fq
theorem NM (G:ak) (key tag b:List UInt8) (h:key.length=32) (ht:tag.length=16) (hb:b.length≤65535):ar Try.prog G 61 [.sl (key.map bD),.sl (tag.map bD),.sl (b.map bD)] (.w (.c (.d (.sl ((gW key tag b).map bD))))):=jG (NL G key tag b h ht hb)
def uc:aE:=⟨3,21,.seq (.reg [oO 6 (.mv (.k (.c .nil))),oO 7 (.mv (kI 0))]) (.seq (.seq (.reg [oM 9 0,oM 10 1,oM 11 2,oO 12 (.len (.t 11)),oO 13 (.call 60 [(.t 9),(.t 10),(.t 12)] none),oM 8 13]) (.seq (.reg [oM 14 8,oO 15 (.bin .neq (.t 14) (kI 0))]) (.cond (.t 15) (.seq (.reg [oM 16 8,oO 6 (.mv (.k (.c .nil))),oM 7 16]) (.ret)) (.skip)))) (.seq (.reg [oM 17 0,oM 18 1,oM 19 2,oO 20 (.call 62 [(.t 17),(.t 18),(.t 19)] (some (0,1))),oM 6 20,oO 7 (.mv (kI 0))]) (.ret))),[(6,none),(7,none)]⟩
theorem NO:aD Try.prog { own:=[20],comp:=[],frz:=[],nils:=[] } Try.f70=some uc:=by kernel_rfl
theorem Pv (G:ak) (key:List UInt8) (ad:List (List UInt8)) (b:List UInt8) (hk:key.length≤9223372036854775807) (hl:ad.length≤9223372036854775807) (hx:∀ x∈ad,x.length≤9223372036854775807) (hb:b.length≤9223372036854775807):ar Try.prog G 70 [.sl (key.map bD),dK ad,.sl (b.map bD)] (.tup [.c (.fr 1 ((lE key ad b).map bD)),.c (.d (.int .i64 (cJ key ad b.length)))]):=by
  refine aF Try.func70 NO rfl rfl ?_;have hc:=Ps G key ad (b.length:Int) hk hl hx;by_cases he:cJ key ad (b.length:Int)=0
  ·have hv:lE key ad b=dq key ad b:=if_pos he;obtain⟨k1,k2,k3,k4⟩:=Ep he;rw[he] at hc ⊢;rw[hv];simp only[uc,aj,ae,aa,seval,iteOmega,toNatUp];refine sD (hc) ?_;refine sD (NJ G key ad b k1 k2 k3 (by omega)) ?_;exact cx
  ·have hv:lE key ad b=[]:=if_neg he;rw[hv];have hne:cJ key ad (b.length:Int)=0↔False:=⟨he,False.elim⟩
   rcases Cb key ad b.length with e | e | e | e
   ·exact absurd e he
   all_goals
     rw[e] at hc ⊢;simp only[uc,aj,ae,aa,seval,iteOmega,toNatUp];refine bF hc rfl (.inl rfl) ?_;simp only[ae,aa,seval,iteOmega,toNatUp];exact cx
theorem Pw (G:ak) (key:List UInt8) (ad:List (List UInt8)) (b:List UInt8) (hk:key.length≤9223372036854775807) (hl:ad.length≤9223372036854775807) (hx:∀ x∈ad,x.length≤9223372036854775807) (hb:b.length≤9223372036854775807):ar Try.prog G 70 [.sl (key.map bD),dK ad,.sl (b.map bD)] (.tup [.c (.d (.sl ((lE key ad b).map bD))),.c (.d (.int .i64 (cJ key ad b.length)))]):=sW (Pv G key ad b hk hl hx hb)
def tu:aE:=⟨3,27,.seq (.reg [oO 6 (.mv (.k (.c .nil))),oO 7 (.mv (kI 0))]) (.seq (.reg [oM 11 0,oM 12 1,oM 13 2,oO 14 (.call 70 [(.t 11),(.t 12),(.t 13)] none),oM 10 14,oO 15 (.extract (.t 10) 0),oO 16 (.extract (.t 10) 1),oM 8 15,oM 9 16]) (.seq (.seq (.reg [oM 17 9,oO 18 (.bin .neq (.t 17) (kI 0))]) (.cond (.t 18) (.seq (.reg [oM 19 9,oO 6 (.mv (.k (.c .nil))),oM 7 19]) (.ret)) (.skip))) (.seq (.reg [oM 20 8,oM 21 0,oM 22 8,oM 23 2,oO 24 (.call 61 [(.t 21),(.t 22),(.t 23)] none),oO 25 (.bldSl false 2 1 (.sl []) [(0,(.t 20)),(1,(.t 24))]),oO 26 (.call 30 [(.t 25)] (some (0,1))),oM 6 26,oO 7 (.mv (kI 0))]) (.ret)))),[(6,none),(7,none)]⟩
theorem LL:aD Try.prog { own:=[26],comp:=[],frz:=[],nils:=[] } Try.f52=some tu:=by kernel_rfl
theorem NP (G:ak) (key:List UInt8) (ad:List (List UInt8)) (b:List UInt8) (hk:key.length≤9223372036854775807) (hl:ad.length≤9223372036854775807) (hx:∀ x∈ad,x.length≤9223372036854775807) (hb:b.length≤9223372036854775807):ar Try.prog G 52 [.sl (key.map bD),dK ad,.sl (b.map bD)] (.tup [.c (.fr 1 ((jQ key ad b).map bD)),.c (.d (.int .i64 (cJ key ad b.length)))]):=by
  refine aF Try.func52 LL rfl rfl ?_;have hc:=Pw G key ad b hk hl hx hb;by_cases he:cJ key ad (b.length:Int)=0
  ·have hv:lE key ad b=dq key ad b:=if_pos he;have hv2:jQ key ad b=dq key ad b++gW key (dq key ad b) b:=if_pos he;obtain⟨k1,k2,k3,k4⟩:=Ep he;have hj:=dt G [dq key ad b,gW key (dq key ad b) b] (by simp) (by simp[nX,sE]; omega);have hf:[dq key ad b,gW key (dq key ad b) b].flatten=dq key ad b++gW key (dq key ad b) b:=by simp
   rw[hf] at hj;rw[he,hv] at hc;rw[he,hv2];simp only[tu,aj,ae,aa,seval,iteOmega,toNatUp];refine sD (hc) ?_;refine sD (NM G key (dq key ad b) b k1 (nX _ _ _) (by omega)) ?_;refine sD (hj) ?_;exact cx
  ·have hv:lE key ad b=[]:=if_neg he;have hv2:jQ key ad b=[]:=if_neg he;rw[hv] at hc;rw[hv2];rcases Cb key ad b.length with e | e | e | e
   ·exact absurd e he
   all_goals
     rw[e] at hc ⊢;simp only[tu,aj,ae,aa,seval,iteOmega,toNatUp];refine bF hc rfl (.inl rfl) ?_;simp only[ae,aa,seval,iteOmega,toNatUp];exact cx
theorem NQ (G:ak) (key:List UInt8) (ad:List (List UInt8)) (b:List UInt8) (hk:key.length≤9223372036854775807) (hl:ad.length≤9223372036854775807) (hx:∀ x∈ad,x.length≤9223372036854775807) (hb:b.length≤9223372036854775807):ar Try.prog G 52 [.sl (key.map bD),dK ad,.sl (b.map bD)] (.tup [.c (.d (.sl ((jQ key ad b).map bD))),.c (.d (.int .i64 (cJ key ad b.length)))]):=sW (NP G key ad b hk hl hx hb)
theorem Kc {key:List UInt8} {ad:List (List UInt8)} {n:Int} (h:key.length=32) (h2:ad.length≤16) (h3:∀ x∈ad,x.length≤65519) (h4:n≤65519):cJ key ad n=0:=by
  have:gp ad=false:=by
    unfold gp;rw[Sj];intro x hx;have:=h3 x hx
    simpa using this
  unfold cJ;rw[if_neg (by omega),if_neg (by omega),if_neg (by rw[this]; simp; omega)]
theorem Af {key b:List UInt8} {ad:List (List UInt8)} (h:cJ key ad b.length=0):jQ key ad b=dq key ad b++gW key (dq key ad b) b:=if_pos h
end Go.Proofs.Ytofonnokanoflaa
