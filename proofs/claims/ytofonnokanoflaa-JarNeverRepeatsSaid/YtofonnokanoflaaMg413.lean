/- Texts of one's own, merged: from: Layer 6 on data: tags,sealed bytes,opened ones; both codes. Own work. -/
import Derived.Shelf.Abstract
import Derived.Test.YtofonnokanoflaaMg411
import Derived.Test.YtofonnokanoflaaMg410
import Derived.Test.YtofonnokanoflaaMg412
set_option linter.unusedVariables false
set_option linter.unusedSimpArgs false
namespace Go.Proofs.Ytofonnokanoflaa
open Go.RowKit IntWalk
set_option maxHeartbeats 1600000
def i5 (tag:List UInt8):List UInt8:=(tag.set 8 (jB (tag.getD 8 0) 127)).set 12 (jB (tag.getD 12 0) 127)
theorem sT (tag:List UInt8):(i5 tag).length=tag.length:=by unfold i5; rw[Sy,Sy]
def dD (key:List UInt8) (ad:List (List UInt8)) (b:List UInt8):List UInt8:=gF (aB (key.take 16)) (ad++[b])
theorem oA (key:List UInt8) (ad:List (List UInt8)) (b:List UInt8):(dD key ad b).length=16:=J7 _ _
def ie (key tag b:List UInt8):List UInt8:=eT (aB (key.drop 16)) (i5 tag) b
theorem sU (key tag b:List UInt8):(ie key tag b).length=b.length:=nS _ _ _
def gB (l:List (List UInt8)):Bool:=l.any fun x=>decide (65519<x.length)
def cO (key:List UInt8) (ad:List (List UInt8)) (n:Int):Int:=if key.length≠32 then 5 else if 16<ad.length then 8 else if gB ad=true∨65519<n then 2 else 0
def lJ (key:List UInt8) (ad:List (List UInt8)) (b:List UInt8):List UInt8:=if cO key ad b.length=0 then dD key ad b else []
def kf (key:List UInt8) (ad:List (List UInt8)) (b:List UInt8):List UInt8:=if cO key ad b.length=0 then dD key ad b++ie key (dD key ad b) b else []
theorem IL {l:List (List UInt8)} (h:gB l=false):∀ x∈l,x.length≤65519:=by
  unfold gB at h;rw[SE] at h;intro x hx
  simpa using h x hx
theorem Ey {key:List UInt8} {ad:List (List UInt8)} {n:Int} (h:cO key ad n=0):key.length=32∧ad.length≤16∧gB ad=false∧n≤65519:=by
  unfold cO at h;split at h
  ·cases h
  ·split at h
   ·cases h
   ·split at h
    ·cases h
    ·rename_i h1 h2 h3;cases hl:gB ad
     ·exact⟨by omega,by omega,rfl,by omega⟩
     ·exact absurd (.inl hl) h3
theorem Ck (key:List UInt8) (ad:List (List UInt8)) (n:Int):cO key ad n=0∨cO key ad n=5∨cO key ad n=8∨cO key ad n=2:=by
  unfold cO;split
  ·exact .inr (.inl rfl)
  ·split
   ·exact .inr (.inr (.inl rfl))
   ·split
    ·exact .inr (.inr (.inr rfl))
    ·exact .inl rfl
theorem LU {k:List UInt8} {l:List (List UInt8)} (h:k.length=16) (hn:l.length≤17) (hl:∀ x∈l,x.length≤65535):vC k l=gF (aB k) l∧qB k l=0:=by
  have:hH l=false:=by
    unfold hH;rw[SE];intro x hx;have:=hl x hx
    simpa using this
  refine⟨if_pos ⟨h,hn,this⟩,?_⟩;unfold qB;rw[if_neg (by omega),if_neg (by omega),this,if_neg (by simp)]
theorem IM {k c b:List UInt8} (h:k.length=16) (hc:c.length=16) (hb:b.length≤65535):pY k c b=eT (aB k) c b∧hO k c b=0:=by
  refine⟨if_pos ⟨h,hc,hb⟩,?_⟩;unfold hO;rw[if_neg (by omega),if_neg (by omega),if_neg (by omega)]
theorem Ez {ad:List (List UInt8)} {b:List UInt8} (h:gB ad=false) (hb:b.length≤65519):∀ x∈ad++[b],x.length≤65535:=by
  intro x hx;rcases RA.1 hx with hx | hx
  ·have:=IL h x hx; omega
  ·simp only[Rw] at hx; subst hx; omega
def tK:aG:=⟨1,6,.seq (.reg [oO 2 (.mv (.k (.c (.d (.bool false)))))]) (.seq (.reg [oM 3 0,oO 4 (.len (.t 3)),oO 5 (.bin .gtr (.t 4) (kI 65519)),oM 2 5]) (.ret)),[(2,none)]⟩
theorem LV:aD Try.prog { own:=[],comp:=[],frz:=[],nils:=[] } Try.f75=some tK:=by kernel_rfl
theorem N1 (G:ak) (x:List UInt8) (hx:x.length≤9223372036854775807):lF Try.prog G 75 [] [.sl (x.map bD)] (.w (.c (.d (.bool (decide (65519<x.length)))))):=by
  refine⟨enters_of Try.func75 (by kernel_rfl) rfl,?_⟩;refine aI Try.func75 LV rfl rfl ?_;by_cases h:65519<x.length
  ·have hd:decide (65519<x.length)=true:=decide_eq_true h;rw[hd];simp only[tK,ai,ae,aa,seval,iteOmega,toNatUp];exact aO
  ·have hd:decide (65519<x.length)=false:=decide_eq_false h;rw[hd];simp only[tK,ai,ae,aa,seval,iteOmega,toNatUp];exact aO
def lg:aG:=⟨3,21,.seq (.reg [oO 6 (.mv (kI 0))]) (.seq (.seq (.reg [oM 8 0,oO 9 (.len (.t 8)),oO 10 (.bin .neq (.t 9) (kI 32))]) (.cond (.t 10) (.seq (.reg [oO 6 (.mv (kI 5))]) (.ret)) (.skip))) (.seq (.seq (.reg [oM 11 1,oO 12 (.len (.t 11)),oO 13 (.bin .gtr (.t 12) (kI 16))]) (.cond (.t 13) (.seq (.reg [oO 6 (.mv (kI 8))]) (.ret)) (.skip))) (.seq (.reg [oO 7 (.mv (.k (.c (.d (.fn 75 [])))))]) (.seq (.seq (.reg [oM 14 1,oM 15 7,oO 16 (.call 47 [(.t 14),(.t 15)] none),oM 17 16,oG 18 (.mv (.t 2)) 17 false,oG 19 (.bin .gtr (.t 18) (kI 65519)) 17 false,oO 20 (.pick (.t 17) (.k (.c (.d (.bool true)))) (.t 19))]) (.cond (.t 20) (.seq (.reg [oO 6 (.mv (kI 2))]) (.ret)) (.skip))) (.seq (.reg [oO 6 (.mv (kI 0))]) (.ret)))))),[(6,none)]⟩
theorem N2:aD Try.prog { own:=[],comp:=[],frz:=[],nils:=[] } Try.f60=some lg:=by kernel_rfl
theorem PL (G:ak) (key:List UInt8) (ad:List (List UInt8)) (n:Int) (hk:key.length≤9223372036854775807) (hl:ad.length≤9223372036854775807) (hb:∀ x∈ad,x.length≤9223372036854775807):ap Try.prog G 60 [.sl (key.map bD),dT ad,.int .i64 n] (.w (.c (.d (.int .i64 (cO key ad n))))):=by
  refine aI Try.func60 N2 rfl rfl ?_;have hc:=Ei G ad 75 [] (fun x=>decide (65519<x.length)) hl (fun x hx=>N1 G x (hb x hx));have hL:(ad.any fun x=>decide (65519<x.length))=gB ad:=rfl;rw[hL] at hc;unfold cO;by_cases h:key.length=32
  ·rw[if_neg (by omega)];by_cases h2:16<ad.length
   ·rw[if_pos h2];simp only[lg,ai,ae,aa,seval,iteOmega,toNatUp];exact aO
   ·rw[if_neg h2];cases hl:gB ad
    ·rw[hl] at hc;by_cases h3:65519<n
     ·rw[if_pos (.inr h3)];simp only[lg,ai,ae,aa,seval,iteOmega,toNatUp];refine sD (hc) ?_;exact aO
     ·rw[if_neg (by simp; omega)];simp only[lg,ai,ae,aa,seval,iteOmega,toNatUp];refine sD (hc) ?_;exact aO
    ·rw[hl] at hc;rw[if_pos (.inl rfl)];simp only[lg,ai,ae,aa,seval,iteOmega,toNatUp];refine sD (hc) ?_;exact aO
  ·rw[if_pos h];simp only[lg,ai,ae,aa,seval,iteOmega,toNatUp];exact aO
def Cl:aG:=⟨3,23,.seq (.reg [oO 6 (.mv (.k (.c .nil)))]) (.seq (.reg [oM 10 1,oM 11 2,oO 12 (.bldSl false 1 1 (.sl []) [(0,(.t 11))]),oO 13 (.bldSl false 2 1 (.sl []) [(0,(.t 10)),(1,(.t 12))]),oO 14 (.call 78 [(.t 13)] none),oM 7 14]) (.seq (.reg [oM 16 0,oO 17 (.slice 1 (.t 16) none (some (kI 16)) none),oM 18 7,oO 19 (.call 79 [(.t 17),(.t 18)] (some (0,1))),oM 15 19,oO 20 (.extract (.t 15) 0),oO 21 (.extract (.t 15) 1),oM 8 20,oM 9 21]) (.seq (.reg [oM 22 8,oM 6 22]) (.ret)))),[(6,none)]⟩
theorem LW:aD Try.prog { own:=[],comp:=[(19,0)],frz:=[],nils:=[] } Try.f62=some Cl:=by kernel_rfl
theorem N3 (G:ak) (key:List UInt8) (ad:List (List UInt8)) (b:List UInt8) (h:key.length=32) (hn:ad.length≤16) (hl:gB ad=false) (hb:b.length≤65519):ap Try.prog G 62 [.sl (key.map bD),dT ad,.sl (b.map bD)] (.w (.c (.fr 1 ((dD key ad b).map bD)))):=by
  refine aI Try.func62 LW rfl rfl ?_;have hf:[ad,[b]].flatten=ad++[b]:=by simp
  have hc:=Nt G [ad,[b]] (by simp) (by rw[hf]; simp; omega);rw[hf] at hc;have hk:(key.take 16).length=16:=by rw[Rp]; omega
  obtain⟨v1,v2⟩:=LU (l:=ad++[b]) hk (by simp; omega) (Ez hl hb);have hv:=NV G (key.take 16) (ad++[b]) (by omega) (by simp; omega) (fun x hx=>R6 (Ez hl hb x hx) (by decide));rw[v1,v2] at hv;have ht:gF (aB (key.take 16)) (ad++[b])=dD key ad b:=rfl;rw[ht] at hv;simp only[Cl,ai,ae,aa,seval,iteOmega,toNatUp];refine sD (hc) ?_;refine sD (hv) ?_;exact fy
theorem tL {tag:List UInt8} (h:tag.length=16) {i:Nat} (hi:i<16):tag[i]?=some (tag.getD i 0):=by
  rw[Rj,Rh (by omega)]; rfl
theorem LX {tag:List UInt8} (h:tag.length=16) (x:UInt8):(tag.set 8 x)[12]?=some (tag.getD 12 0):=by
  rw[List.getElem?_set_ne (by decide),tL h (by decide)]
def EA:aG:=⟨1,18,.seq (.reg [oO 2 (.mv (.k (.c .nil)))]) (.seq (.reg [oM 4 0,oO 5 (.bldSl false 1 1 (.sl []) [(0,(.t 4))]),oO 6 (.call 30 [(.t 5)] (some (0,1))),oM 3 6]) (.seq (.reg [oM 7 3,oO 8 (.idxSl 1 (.t 7) (kI 8)),oO 9 (.load .sc (.t 8)),oO 10 (.bin .and (.t 9) (.k (.c (.d (.int .u8 127))))),oO 11 (.idxSl 1 (.t 7) (kI 8)),oN (.store .sc (.t 11) (.t 10))]) (.seq (.reg [oM 12 3,oO 13 (.idxSl 1 (.t 12) (kI 12)),oO 14 (.load .sc (.t 13)),oO 15 (.bin .and (.t 14) (.k (.c (.d (.int .u8 127))))),oO 16 (.idxSl 1 (.t 12) (kI 12)),oN (.store .sc (.t 16) (.t 15))]) (.seq (.reg [oM 17 3,oM 2 17]) (.ret))))),[(2,none)]⟩
theorem N4:aD Try.prog { own:=[6],comp:=[],frz:=[],nils:=[] } Try.f77=some EA:=by kernel_rfl
theorem PM (G:ak) (tag:List UInt8) (h:tag.length=16):ap Try.prog G 77 [.sl (tag.map bD)] (.w (.c (.fr 1 ((i5 tag).map bD)))):=by
  refine aI Try.func77 N4 rfl rfl ?_;have hj:=dw G [tag] (by simp) (by simp; omega);have hf:[tag].flatten=tag:=by simp
  rw[hf] at hj;have g1:=tL h (i:=8) (by decide);have g2:=tL h (i:=12) (by decide);have g3:=LX h (jB (tag.getD 8 0) 127);have x1:=D8 (tag.getD 8 0) 127 127 rfl;have x2:=D8 (tag.getD 12 0) 127 127 rfl;have hs:(tag.set 8 (jB (tag.getD 8 0) 127)).set 12 (jB (tag.getD 12 0) 127)=i5 tag:=rfl;simp only[EA,ai,ae,aa,seval,iteOmega,toNatUp];refine sC (hj) ?_;simp only[aR,g1,g2,g3,x1,x2,tm,hs,ae,aa,seval,iteOmega,toNatUp];exact D7 (by simp only[ae,aa,seval,iteOmega,toNatUp,sT])
theorem PN (G:ak) (tag:List UInt8) (h:tag.length=16):ap Try.prog G 77 [.sl (tag.map bD)] (.w (.c (.d (.sl ((i5 tag).map bD))))):=jZ (PM G tag h)
def Cm:aG:=⟨3,19,.seq (.reg [oO 6 (.mv (.k (.c .nil)))]) (.seq (.reg [oM 10 0,oO 11 (.slice 1 (.t 10) (some (kI 16)) none none),oM 12 1,oO 13 (.call 77 [(.t 12)] none),oM 14 2,oO 15 (.call 76 [(.t 11),(.t 13),(.t 14)] (some (0,1))),oM 9 15,oO 16 (.extract (.t 9) 0),oO 17 (.extract (.t 9) 1),oM 7 16,oM 8 17]) (.seq (.reg [oM 18 7,oM 6 18]) (.ret))),[(6,none)]⟩
theorem LY:aD Try.prog { own:=[],comp:=[(15,0)],frz:=[],nils:=[] } Try.f61=some Cm:=by kernel_rfl
theorem N5 (G:ak) (key tag b:List UInt8) (h:key.length=32) (ht:tag.length=16) (hb:b.length≤65535):ap Try.prog G 61 [.sl (key.map bD),.sl (tag.map bD),.sl (b.map bD)] (.w (.c (.fr 1 ((ie key tag b).map bD)))):=by
  refine aI Try.func61 LY rfl rfl ?_;have hk:(key.drop 16).length=16:=by rw[Rv]; omega
  have hk2:(key.drop 16).take 16=key.drop 16:=Ro (by omega);obtain⟨v1,v2⟩:=IM (c:=i5 tag) (b:=b) hk (by rw[sT]; exact ht) hb;have hv:=PH G (key.drop 16) (i5 tag) b (by omega) (by rw[sT]; omega) (by omega);rw[v1,v2] at hv;have hs:eT (aB (key.drop 16)) (i5 tag) b=ie key tag b:=rfl;rw[hs] at hv;simp only[Cm,ai,ae,aa,seval,iteOmega,toNatUp,h];refine sC (PN G tag ht) ?_;simp only[hk2,ae,aa,seval,iteOmega,toNatUp];refine sD (hv) ?_;exact fy
theorem N6 (G:ak) (key tag b:List UInt8) (h:key.length=32) (ht:tag.length=16) (hb:b.length≤65535):ap Try.prog G 61 [.sl (key.map bD),.sl (tag.map bD),.sl (b.map bD)] (.w (.c (.d (.sl ((ie key tag b).map bD))))):=jZ (N5 G key tag b h ht hb)
def uw:aG:=⟨3,21,.seq (.reg [oO 6 (.mv (.k (.c .nil))),oO 7 (.mv (kI 0))]) (.seq (.seq (.reg [oM 9 0,oM 10 1,oM 11 2,oO 12 (.len (.t 11)),oO 13 (.call 60 [(.t 9),(.t 10),(.t 12)] none),oM 8 13]) (.seq (.reg [oM 14 8,oO 15 (.bin .neq (.t 14) (kI 0))]) (.cond (.t 15) (.seq (.reg [oM 16 8,oO 6 (.mv (.k (.c .nil))),oM 7 16]) (.ret)) (.skip)))) (.seq (.reg [oM 17 0,oM 18 1,oM 19 2,oO 20 (.call 62 [(.t 17),(.t 18),(.t 19)] (some (0,1))),oM 6 20,oO 7 (.mv (kI 0))]) (.ret))),[(6,none),(7,none)]⟩
theorem N7:aD Try.prog { own:=[20],comp:=[],frz:=[],nils:=[] } Try.f70=some uw:=by kernel_rfl
theorem PO (G:ak) (key:List UInt8) (ad:List (List UInt8)) (b:List UInt8) (hk:key.length≤9223372036854775807) (hl:ad.length≤9223372036854775807) (hx:∀ x∈ad,x.length≤9223372036854775807) (hb:b.length≤9223372036854775807):ap Try.prog G 70 [.sl (key.map bD),dT ad,.sl (b.map bD)] (.tup [.c (.fr 1 ((lJ key ad b).map bD)),.c (.d (.int .i64 (cO key ad b.length)))]):=by
  refine aI Try.func70 N7 rfl rfl ?_;have hc:=PL G key ad (b.length:Int) hk hl hx;by_cases he:cO key ad (b.length:Int)=0
  ·have hv:lJ key ad b=dD key ad b:=if_pos he;obtain⟨k1,k2,k3,k4⟩:=Ey he;rw[he] at hc ⊢;rw[hv];simp only[uw,ai,ae,aa,seval,iteOmega,toNatUp];refine sD (hc) ?_;refine sD (N3 G key ad b k1 k2 k3 (by omega)) ?_;exact cE
  ·have hv:lJ key ad b=[]:=if_neg he;rw[hv];have hne:cO key ad (b.length:Int)=0↔False:=⟨he,False.elim⟩
   rcases Ck key ad b.length with e | e | e | e
   ·exact absurd e he
   all_goals
     rw[e] at hc ⊢;simp only[uw,ai,ae,aa,seval,iteOmega,toNatUp];refine bL hc rfl (.inl rfl) ?_;simp only[ae,aa,seval,iteOmega,toNatUp];exact cE
theorem PP (G:ak) (key:List UInt8) (ad:List (List UInt8)) (b:List UInt8) (hk:key.length≤9223372036854775807) (hl:ad.length≤9223372036854775807) (hx:∀ x∈ad,x.length≤9223372036854775807) (hb:b.length≤9223372036854775807):ap Try.prog G 70 [.sl (key.map bD),dT ad,.sl (b.map bD)] (.tup [.c (.d (.sl ((lJ key ad b).map bD))),.c (.d (.int .i64 (cO key ad b.length)))]):=tj (PO G key ad b hk hl hx hb)
def tM:aG:=⟨3,27,.seq (.reg [oO 6 (.mv (.k (.c .nil))),oO 7 (.mv (kI 0))]) (.seq (.reg [oM 11 0,oM 12 1,oM 13 2,oO 14 (.call 70 [(.t 11),(.t 12),(.t 13)] none),oM 10 14,oO 15 (.extract (.t 10) 0),oO 16 (.extract (.t 10) 1),oM 8 15,oM 9 16]) (.seq (.seq (.reg [oM 17 9,oO 18 (.bin .neq (.t 17) (kI 0))]) (.cond (.t 18) (.seq (.reg [oM 19 9,oO 6 (.mv (.k (.c .nil))),oM 7 19]) (.ret)) (.skip))) (.seq (.reg [oM 20 8,oM 21 0,oM 22 8,oM 23 2,oO 24 (.call 61 [(.t 21),(.t 22),(.t 23)] none),oO 25 (.bldSl false 2 1 (.sl []) [(0,(.t 20)),(1,(.t 24))]),oO 26 (.call 30 [(.t 25)] (some (0,1))),oM 6 26,oO 7 (.mv (kI 0))]) (.ret)))),[(6,none),(7,none)]⟩
theorem LZ:aD Try.prog { own:=[26],comp:=[],frz:=[],nils:=[] } Try.f52=some tM:=by kernel_rfl
theorem N8 (G:ak) (key:List UInt8) (ad:List (List UInt8)) (b:List UInt8) (hk:key.length≤9223372036854775807) (hl:ad.length≤9223372036854775807) (hx:∀ x∈ad,x.length≤9223372036854775807) (hb:b.length≤9223372036854775807):ap Try.prog G 52 [.sl (key.map bD),dT ad,.sl (b.map bD)] (.tup [.c (.fr 1 ((kf key ad b).map bD)),.c (.d (.int .i64 (cO key ad b.length)))]):=by
  refine aI Try.func52 LZ rfl rfl ?_;have hc:=PP G key ad b hk hl hx hb;by_cases he:cO key ad (b.length:Int)=0
  ·have hv:lJ key ad b=dD key ad b:=if_pos he;have hv2:kf key ad b=dD key ad b++ie key (dD key ad b) b:=if_pos he;obtain⟨k1,k2,k3,k4⟩:=Ey he;have hj:=dw G [dD key ad b,ie key (dD key ad b) b] (by simp) (by simp[oA,sU]; omega);have hf:[dD key ad b,ie key (dD key ad b) b].flatten=dD key ad b++ie key (dD key ad b) b:=by simp
   rw[hf] at hj;rw[he,hv] at hc;rw[he,hv2];simp only[tM,ai,ae,aa,seval,iteOmega,toNatUp];refine sD (hc) ?_;refine sD (N6 G key (dD key ad b) b k1 (oA _ _ _) (by omega)) ?_;refine sD (hj) ?_;exact cE
  ·have hv:lJ key ad b=[]:=if_neg he;have hv2:kf key ad b=[]:=if_neg he;rw[hv] at hc;rw[hv2];rcases Ck key ad b.length with e | e | e | e
   ·exact absurd e he
   all_goals
     rw[e] at hc ⊢;simp only[tM,ai,ae,aa,seval,iteOmega,toNatUp];refine bL hc rfl (.inl rfl) ?_;simp only[ae,aa,seval,iteOmega,toNatUp];exact cE
theorem N9 (G:ak) (key:List UInt8) (ad:List (List UInt8)) (b:List UInt8) (hk:key.length≤9223372036854775807) (hl:ad.length≤9223372036854775807) (hx:∀ x∈ad,x.length≤9223372036854775807) (hb:b.length≤9223372036854775807):ap Try.prog G 52 [.sl (key.map bD),dT ad,.sl (b.map bD)] (.tup [.c (.d (.sl ((kf key ad b).map bD))),.c (.d (.int .i64 (cO key ad b.length)))]):=tj (N8 G key ad b hk hl hx hb)
theorem Kq {key:List UInt8} {ad:List (List UInt8)} {n:Int} (h:key.length=32) (h2:ad.length≤16) (h3:∀ x∈ad,x.length≤65519) (h4:n≤65519):cO key ad n=0:=by
  have:gB ad=false:=by
    unfold gB;rw[SE];intro x hx;have:=h3 x hx
    simpa using this
  unfold cO;rw[if_neg (by omega),if_neg (by omega),if_neg (by rw[this]; simp; omega)]
theorem Ao {key b:List UInt8} {ad:List (List UInt8)} (h:cO key ad b.length=0):kf key ad b=dD key ad b++ie key (dD key ad b) b:=if_pos h
end Go.Proofs.Ytofonnokanoflaa
