/- Texts of one's own, merged: from: Layer 6 on data: tags,sealed bytes,opened ones; both codes. Own work. -/
import Derived.Shelf.Abstract
import Derived.Test.YtlghfnidknfakaaGreatDoorMg412
import Derived.Test.YtlghfnidknfakaaGreatDoorMg410
import Derived.Test.YtlghfnidknfakaaGreatDoorMg413
import Derived.Test.YtlghfnidknfakaaGreatDoorMg47
set_option linter.unusedVariables false
set_option linter.unusedSimpArgs false
namespace Go.Proofs.YtlghfnidknfakaaGreatDoor
open Go.RowKit IntWalk
set_option maxHeartbeats 1600000
def lu (tag:List UInt8):List UInt8:=(tag.set 8 (mz (tag.getD 8 0) 127)).set 12 (mz (tag.getD 12 0) 127)
theorem yX (tag:List UInt8):(lu tag).length=tag.length:=by unfold lu; rw[ach,ach]
def cH (key:List UInt8) (ad:List (List UInt8)) (b:List UInt8):List UInt8:=jy (aP (key.take 16)) (ad++[b])
theorem lT (key:List UInt8) (ad:List (List UInt8)) (b:List UInt8):(cH key ad b).length=16:=Su _ _
def dH (key tag b:List UInt8):List UInt8:=fO (aP (key.drop 16)) (lu tag) b
theorem oE (key tag b:List UInt8):(dH key tag b).length=b.length:=s7 _ _ _
def jv (l:List (List UInt8)):Bool:=l.any fun x=>decide (65519<x.length)
def cU (key:List UInt8) (ad:List (List UInt8)) (n:Int):Int:=if key.length≠32 then 5 else if 16<ad.length then 8 else if jv ad=true∨65519<n then 2 else 0
def p6 (key:List UInt8) (ad:List (List UInt8)) (b:List UInt8):List UInt8:=if cU key ad b.length=0 then cH key ad b else []
def im (key:List UInt8) (ad:List (List UInt8)) (b:List UInt8):List UInt8:=if cU key ad b.length=0 then cH key ad b++dH key (cH key ad b) b else []
def fS (key:List UInt8) (ad:List (List UInt8)) (s:List UInt8):Int :=
  if cU key ad ((s.length:Int)-16)≠0 then cU key ad ((s.length:Int)-16) else if s.length<16 then 1 else if s.take 16=cH key ad (dH key (s.take 16) (s.drop 16)) then 0 else 6
def iy (key:List UInt8) (ad:List (List UInt8)) (s:List UInt8):List UInt8:=if fS key ad s=0 then dH key (s.take 16) (s.drop 16) else []
theorem QL {l:List (List UInt8)} (h:jv l=false):∀ x∈l,x.length≤65519:=by
  unfold jv at h;rw[ab1] at h;intro x hx
  simpa using h x hx
theorem Ay {key:List UInt8} {ad:List (List UInt8)} {n:Int} (h:cU key ad n=0):key.length=32∧ad.length≤16∧jv ad=false∧n≤65519:=by
  unfold cU at h;split at h
  ·cases h
  ·split at h
   ·cases h
   ·split at h
    ·cases h
    ·rename_i h1 h2 h3;cases hl:jv ad
     ·exact⟨by omega,by omega,rfl,by omega⟩
     ·exact absurd (.inl hl) h3
theorem zN (key:List UInt8) (ad:List (List UInt8)) (n:Int):cU key ad n=0∨cU key ad n=5∨cU key ad n=8∨cU key ad n=2:=by
  unfold cU;split
  ·exact .inr (.inl rfl)
  ·split
   ·exact .inr (.inr (.inl rfl))
   ·split
    ·exact .inr (.inr (.inr rfl))
    ·exact .inl rfl
theorem UE {k:List UInt8} {l:List (List UInt8)} (h:k.length=16) (hn:l.length≤17) (hl:∀ x∈l,x.length≤65535):Cb k l=jy (aP k) l∧wI k l=0:=by
  have:j6 l=false:=by
    unfold j6;rw[ab1];intro x hx;have:=hl x hx
    simpa using this
  refine⟨if_pos ⟨h,hn,this⟩,?_⟩;unfold wI;rw[if_neg (by omega),if_neg (by omega),this,if_neg (by simp)]
theorem QM {k c b:List UInt8} (h:k.length=16) (hc:c.length=16) (hb:b.length≤65535):vN k c b=fO (aP k) c b∧j7 k c b=0:=by
  refine⟨if_pos ⟨h,hc,hb⟩,?_⟩;unfold j7;rw[if_neg (by omega),if_neg (by omega),if_neg (by omega)]
theorem LG {ad:List (List UInt8)} {b:List UInt8} (h:jv ad=false) (hb:b.length≤65519):∀ x∈ad++[b],x.length≤65535:=by
  intro x hx;rcases abd.1 hx with hx | hx
  ·have:=QL h x hx; omega
  ·simp only[aa6] at hx; subst hx; omega
def zO:aD:=⟨1,6,.seq (.reg [oO 2 (.mv (.k (.c (.d (.bool false)))))]) (.seq (.reg [oM 3 0,oO 4 (.len (.t 3)),oO 5 (.bin .gtr (.t 4) (kI 65519)),oM 2 5]) (.ret)),[(2,none)]⟩
theorem UF:aB Tryz.prog { own:=[],comp:=[],frz:=[],nils:=[] } Tryz.f134=some zO:=by kernel_rfl
theorem Xd (G:ah) (x:List UInt8) (hx:x.length≤9223372036854775807):ka Tryz.prog G 134 [] [.sl (x.map bD)] (.w (.c (.d (.bool (decide (65519<x.length)))))):=by
  refine⟨enters_of Tryz.func134 (by kernel_rfl) rfl,?_⟩;refine aE Tryz.func134 UF rfl rfl ?_;by_cases h:65519<x.length
  ·have hd:decide (65519<x.length)=true:=decide_eq_true h;rw[hd];simp only[zO,af,ae,aa,seval,iteOmega,toNatUp];exact aF
  ·have hd:decide (65519<x.length)=false:=decide_eq_false h;rw[hd];simp only[zO,af,ae,aa,seval,iteOmega,toNatUp];exact aF
def pc:aD:=⟨3,21,.seq (.reg [oO 6 (.mv (kI 0))]) (.seq (.seq (.reg [oM 8 0,oO 9 (.len (.t 8)),oO 10 (.bin .neq (.t 9) (kI 32))]) (.cond (.t 10) (.seq (.reg [oO 6 (.mv (kI 5))]) (.ret)) (.skip))) (.seq (.seq (.reg [oM 11 1,oO 12 (.len (.t 11)),oO 13 (.bin .gtr (.t 12) (kI 16))]) (.cond (.t 13) (.seq (.reg [oO 6 (.mv (kI 8))]) (.ret)) (.skip))) (.seq (.reg [oO 7 (.mv (.k (.c (.d (.fn 134 [])))))]) (.seq (.seq (.reg [oM 14 1,oM 15 7,oO 16 (.call 135 [(.t 14),(.t 15)] none),oM 17 16,oG 18 (.mv (.t 2)) 17 false,oG 19 (.bin .gtr (.t 18) (kI 65519)) 17 false,oO 20 (.pick (.t 17) (.k (.c (.d (.bool true)))) (.t 19))]) (.cond (.t 20) (.seq (.reg [oO 6 (.mv (kI 2))]) (.ret)) (.skip))) (.seq (.reg [oO 6 (.mv (kI 0))]) (.ret)))))),[(6,none)]⟩
theorem Xe:aB Tryz.prog { own:=[],comp:=[],frz:=[],nils:=[] } Tryz.f121=some pc:=by kernel_rfl
theorem Nq (G:ah) (key:List UInt8) (ad:List (List UInt8)) (n:Int) (hk:key.length≤9223372036854775807) (hl:ad.length≤9223372036854775807) (hb:∀ x∈ad,x.length≤9223372036854775807):am Tryz.prog G 121 [.sl (key.map bD),db ad,.int .i64 n] (.w (.c (.d (.int .i64 (cU key ad n))))):=by
  refine aE Tryz.func121 Xe rfl rfl ?_;have hc:=WE G ad 134 [] (fun x=>decide (65519<x.length)) hl (fun x hx=>Xd G x (hb x hx));have hL:(ad.any fun x=>decide (65519<x.length))=jv ad:=rfl;rw[hL] at hc;unfold cU;by_cases h:key.length=32
  ·rw[if_neg (by omega)];by_cases h2:16<ad.length
   ·rw[if_pos h2];simp only[pc,af,ae,aa,seval,iteOmega,toNatUp];exact aF
   ·rw[if_neg h2];cases hl:jv ad
    ·rw[hl] at hc;by_cases h3:65519<n
     ·rw[if_pos (.inr h3)];simp only[pc,af,ae,aa,seval,iteOmega,toNatUp];refine sD (hc) ?_;exact aF
     ·rw[if_neg (by simp; omega)];simp only[pc,af,ae,aa,seval,iteOmega,toNatUp];refine sD (hc) ?_;exact aF
    ·rw[hl] at hc;rw[if_pos (.inl rfl)];simp only[pc,af,ae,aa,seval,iteOmega,toNatUp];refine sD (hc) ?_;exact aF
  ·rw[if_pos h];simp only[pc,af,ae,aa,seval,iteOmega,toNatUp];exact aF
def Js:aD:=⟨3,23,.seq (.reg [oO 6 (.mv (.k (.c .nil)))]) (.seq (.reg [oM 10 1,oM 11 2,oO 12 (.bldSl false 1 1 (.sl []) [(0,(.t 11))]),oO 13 (.bldSl false 2 1 (.sl []) [(0,(.t 10)),(1,(.t 12))]),oO 14 (.call 138 [(.t 13)] none),oM 7 14]) (.seq (.reg [oM 16 0,oO 17 (.slice 1 (.t 16) none (some (kI 16)) none),oM 18 7,oO 19 (.call 139 [(.t 17),(.t 18)] (some (0,1))),oM 15 19,oO 20 (.extract (.t 15) 0),oO 21 (.extract (.t 15) 1),oM 8 20,oM 9 21]) (.seq (.reg [oM 22 8,oM 6 22]) (.ret)))),[(6,none)]⟩
theorem UG:aB Tryz.prog { own:=[],comp:=[(19,0)],frz:=[],nils:=[] } Tryz.f123=some Js:=by kernel_rfl
theorem LH (G:ah) (key:List UInt8) (ad:List (List UInt8)) (b:List UInt8) (h:key.length=32) (hn:ad.length≤16) (hl:jv ad=false) (hb:b.length≤65519):am Tryz.prog G 123 [.sl (key.map bD),db ad,.sl (b.map bD)] (.w (.c (.fr 1 ((cH key ad b).map bD)))):=by
  refine aE Tryz.func123 UG rfl rfl ?_;have hf:[ad,[b]].flatten=ad++[b]:=by simp
  have hc:=WG G [ad,[b]] (by simp) (by rw[hf]; simp; omega);rw[hf] at hc;have hk:(key.take 16).length=16:=by rw[aa4]; omega
  obtain⟨v1,v2⟩:=UE (l:=ad++[b]) hk (by simp; omega) (LG hl hb);have hv:=W8 G (key.take 16) (ad++[b]) (by omega) (by simp; omega) (fun x hx=>abG (LG hl hb x hx) (by decide));rw[v1,v2] at hv;have ht:jy (aP (key.take 16)) (ad++[b])=cH key ad b:=rfl;rw[ht] at hv;simp only[Js,af,ae,aa,seval,iteOmega,toNatUp];refine sD (hc) ?_;refine sD (hv) ?_;exact eH
theorem zP {tag:List UInt8} (h:tag.length=16) {i:Nat} (hi:i<16):tag[i]?=some (tag.getD i 0):=by
  rw[aa0,aaY (by omega)]; rfl
theorem UH {tag:List UInt8} (h:tag.length=16) (x:UInt8):(tag.set 8 x)[12]?=some (tag.getD 12 0):=by
  rw[List.getElem?_set_ne (by decide),zP h (by decide)]
def LI:aD:=⟨1,18,.seq (.reg [oO 2 (.mv (.k (.c .nil)))]) (.seq (.reg [oM 4 0,oO 5 (.bldSl false 1 1 (.sl []) [(0,(.t 4))]),oO 6 (.call 90 [(.t 5)] (some (0,1))),oM 3 6]) (.seq (.reg [oM 7 3,oO 8 (.idxSl 1 (.t 7) (kI 8)),oO 9 (.load .sc (.t 8)),oO 10 (.bin .and (.t 9) (.k (.c (.d (.int .u8 127))))),oO 11 (.idxSl 1 (.t 7) (kI 8)),oN (.store .sc (.t 11) (.t 10))]) (.seq (.reg [oM 12 3,oO 13 (.idxSl 1 (.t 12) (kI 12)),oO 14 (.load .sc (.t 13)),oO 15 (.bin .and (.t 14) (.k (.c (.d (.int .u8 127))))),oO 16 (.idxSl 1 (.t 12) (kI 12)),oN (.store .sc (.t 16) (.t 15))]) (.seq (.reg [oM 17 3,oM 2 17]) (.ret))))),[(2,none)]⟩
theorem Xf:aB Tryz.prog { own:=[6],comp:=[],frz:=[],nils:=[] } Tryz.f137=some LI:=by kernel_rfl
theorem Zx (G:ah) (tag:List UInt8) (h:tag.length=16):am Tryz.prog G 137 [.sl (tag.map bD)] (.w (.c (.fr 1 ((lu tag).map bD)))):=by
  refine aE Tryz.func137 Xf rfl rfl ?_;have hj:=fj G [tag] (by simp) (by simp; omega);have hf:[tag].flatten=tag:=by simp
  rw[hf] at hj;have g1:=zP h (i:=8) (by decide);have g2:=zP h (i:=12) (by decide);have g3:=UH h (mz (tag.getD 8 0) 127);have x1:=Lj (tag.getD 8 0) 127 127 rfl;have x2:=Lj (tag.getD 12 0) 127 127 rfl;have hs:(tag.set 8 (mz (tag.getD 8 0) 127)).set 12 (mz (tag.getD 12 0) 127)=lu tag:=rfl;simp only[LI,af,ae,aa,seval,iteOmega,toNatUp];refine sC (hj) ?_;simp only[aJ,g1,g2,g3,x1,x2,zu,hs,ae,aa,seval,iteOmega,toNatUp];exact Li (by simp only[ae,aa,seval,iteOmega,toNatUp,yX])
theorem Zy (G:ah) (tag:List UInt8) (h:tag.length=16):am Tryz.prog G 137 [.sl (tag.map bD)] (.w (.c (.d (.sl ((lu tag).map bD))))):=mb (Zx G tag h)
def Jt:aD:=⟨3,19,.seq (.reg [oO 6 (.mv (.k (.c .nil)))]) (.seq (.reg [oM 10 0,oO 11 (.slice 1 (.t 10) (some (kI 16)) none none),oM 12 1,oO 13 (.call 137 [(.t 12)] none),oM 14 2,oO 15 (.call 136 [(.t 11),(.t 13),(.t 14)] (some (0,1))),oM 9 15,oO 16 (.extract (.t 9) 0),oO 17 (.extract (.t 9) 1),oM 7 16,oM 8 17]) (.seq (.reg [oM 18 7,oM 6 18]) (.ret))),[(6,none)]⟩
theorem UI:aB Tryz.prog { own:=[],comp:=[(15,0)],frz:=[],nils:=[] } Tryz.f122=some Jt:=by kernel_rfl
theorem LJ (G:ah) (key tag b:List UInt8) (h:key.length=32) (ht:tag.length=16) (hb:b.length≤65535):am Tryz.prog G 122 [.sl (key.map bD),.sl (tag.map bD),.sl (b.map bD)] (.w (.c (.fr 1 ((dH key tag b).map bD)))):=by
  refine aE Tryz.func122 UI rfl rfl ?_;have hk:(key.drop 16).length=16:=by rw[aa9]; omega
  have hk2:(key.drop 16).take 16=key.drop 16:=aa2 (by omega);obtain⟨v1,v2⟩:=QM (c:=lu tag) (b:=b) hk (by rw[yX]; exact ht) hb;have hv:=Zv G (key.drop 16) (lu tag) b (by omega) (by rw[yX]; omega) (by omega);rw[v1,v2] at hv;have hs:fO (aP (key.drop 16)) (lu tag) b=dH key tag b:=rfl;rw[hs] at hv;simp only[Jt,af,ae,aa,seval,iteOmega,toNatUp,h];refine sC (Zy G tag ht) ?_;simp only[hk2,ae,aa,seval,iteOmega,toNatUp];refine sD (hv) ?_;exact eH
theorem Xg (G:ah) (key tag b:List UInt8) (h:key.length=32) (ht:tag.length=16) (hb:b.length≤65535):am Tryz.prog G 122 [.sl (key.map bD),.sl (tag.map bD),.sl (b.map bD)] (.w (.c (.d (.sl ((dH key tag b).map bD))))):=mb (LJ G key tag b h ht hb)
def Az:aD:=⟨3,21,.seq (.reg [oO 6 (.mv (.k (.c .nil))),oO 7 (.mv (kI 0))]) (.seq (.seq (.reg [oM 9 0,oM 10 1,oM 11 2,oO 12 (.len (.t 11)),oO 13 (.call 121 [(.t 9),(.t 10),(.t 12)] none),oM 8 13]) (.seq (.reg [oM 14 8,oO 15 (.bin .neq (.t 14) (kI 0))]) (.cond (.t 15) (.seq (.reg [oM 16 8,oO 6 (.mv (.k (.c .nil))),oM 7 16]) (.ret)) (.skip)))) (.seq (.reg [oM 17 0,oM 18 1,oM 19 2,oO 20 (.call 123 [(.t 17),(.t 18),(.t 19)] (some (0,1))),oM 6 20,oO 7 (.mv (kI 0))]) (.ret))),[(6,none),(7,none)]⟩
theorem Xh:aB Tryz.prog { own:=[20],comp:=[],frz:=[],nils:=[] } Tryz.f125=some Az:=by kernel_rfl
theorem Zz (G:ah) (key:List UInt8) (ad:List (List UInt8)) (b:List UInt8) (hk:key.length≤9223372036854775807) (hl:ad.length≤9223372036854775807) (hx:∀ x∈ad,x.length≤9223372036854775807) (hb:b.length≤9223372036854775807):am Tryz.prog G 125 [.sl (key.map bD),db ad,.sl (b.map bD)] (.tup [.c (.fr 1 ((p6 key ad b).map bD)),.c (.d (.int .i64 (cU key ad b.length)))]):=by
  refine aE Tryz.func125 Xh rfl rfl ?_;have hc:=Nq G key ad (b.length:Int) hk hl hx;by_cases he:cU key ad (b.length:Int)=0
  ·have hv:p6 key ad b=cH key ad b:=if_pos he;obtain⟨k1,k2,k3,k4⟩:=Ay he;rw[he] at hc ⊢;rw[hv];simp only[Az,af,ae,aa,seval,iteOmega,toNatUp];refine sD (hc) ?_;refine sD (LH G key ad b k1 k2 k3 (by omega)) ?_;exact dQ
  ·have hv:p6 key ad b=[]:=if_neg he;rw[hv];have hne:cU key ad (b.length:Int)=0↔False:=⟨he,False.elim⟩
   rcases zN key ad b.length with e | e | e | e
   ·exact absurd e he
   all_goals
     rw[e] at hc ⊢;simp only[Az,af,ae,aa,seval,iteOmega,toNatUp];refine a8 hc rfl (.inl rfl) ?_;simp only[ae,aa,seval,iteOmega,toNatUp];exact dQ
theorem ZA (G:ah) (key:List UInt8) (ad:List (List UInt8)) (b:List UInt8) (hk:key.length≤9223372036854775807) (hl:ad.length≤9223372036854775807) (hx:∀ x∈ad,x.length≤9223372036854775807) (hb:b.length≤9223372036854775807):am Tryz.prog G 125 [.sl (key.map bD),db ad,.sl (b.map bD)] (.tup [.c (.d (.sl ((p6 key ad b).map bD))),.c (.d (.int .i64 (cU key ad b.length)))]):=qW (Zz G key ad b hk hl hx hb)
def zQ:aD:=⟨3,27,.seq (.reg [oO 6 (.mv (.k (.c .nil))),oO 7 (.mv (kI 0))]) (.seq (.reg [oM 11 0,oM 12 1,oM 13 2,oO 14 (.call 125 [(.t 11),(.t 12),(.t 13)] none),oM 10 14,oO 15 (.extract (.t 10) 0),oO 16 (.extract (.t 10) 1),oM 8 15,oM 9 16]) (.seq (.seq (.reg [oM 17 9,oO 18 (.bin .neq (.t 17) (kI 0))]) (.cond (.t 18) (.seq (.reg [oM 19 9,oO 6 (.mv (.k (.c .nil))),oM 7 19]) (.ret)) (.skip))) (.seq (.reg [oM 20 8,oM 21 0,oM 22 8,oM 23 2,oO 24 (.call 122 [(.t 21),(.t 22),(.t 23)] none),oO 25 (.bldSl false 2 1 (.sl []) [(0,(.t 20)),(1,(.t 24))]),oO 26 (.call 90 [(.t 25)] (some (0,1))),oM 6 26,oO 7 (.mv (kI 0))]) (.ret)))),[(6,none),(7,none)]⟩
theorem UJ:aB Tryz.prog { own:=[26],comp:=[],frz:=[],nils:=[] } Tryz.f92=some zQ:=by kernel_rfl
theorem Xi (G:ah) (key:List UInt8) (ad:List (List UInt8)) (b:List UInt8) (hk:key.length≤9223372036854775807) (hl:ad.length≤9223372036854775807) (hx:∀ x∈ad,x.length≤9223372036854775807) (hb:b.length≤9223372036854775807):am Tryz.prog G 92 [.sl (key.map bD),db ad,.sl (b.map bD)] (.tup [.c (.fr 1 ((im key ad b).map bD)),.c (.d (.int .i64 (cU key ad b.length)))]):=by
  refine aE Tryz.func92 UJ rfl rfl ?_;have hc:=ZA G key ad b hk hl hx hb;by_cases he:cU key ad (b.length:Int)=0
  ·have hv:p6 key ad b=cH key ad b:=if_pos he;have hv2:im key ad b=cH key ad b++dH key (cH key ad b) b:=if_pos he;obtain⟨k1,k2,k3,k4⟩:=Ay he;have hj:=fj G [cH key ad b,dH key (cH key ad b) b] (by simp) (by simp[lT,oE]; omega);have hf:[cH key ad b,dH key (cH key ad b) b].flatten=cH key ad b++dH key (cH key ad b) b:=by simp
   rw[hf] at hj;rw[he,hv] at hc;rw[he,hv2];simp only[zQ,af,ae,aa,seval,iteOmega,toNatUp];refine sD (hc) ?_;refine sD (Xg G key (cH key ad b) b k1 (lT _ _ _) (by omega)) ?_;refine sD (hj) ?_;exact dQ
  ·have hv:p6 key ad b=[]:=if_neg he;have hv2:im key ad b=[]:=if_neg he;rw[hv] at hc;rw[hv2];rcases zN key ad b.length with e | e | e | e
   ·exact absurd e he
   all_goals
     rw[e] at hc ⊢;simp only[zQ,af,ae,aa,seval,iteOmega,toNatUp];refine a8 hc rfl (.inl rfl) ?_;simp only[ae,aa,seval,iteOmega,toNatUp];exact dQ
theorem Xj (G:ah) (key:List UInt8) (ad:List (List UInt8)) (b:List UInt8) (hk:key.length≤9223372036854775807) (hl:ad.length≤9223372036854775807) (hx:∀ x∈ad,x.length≤9223372036854775807) (hb:b.length≤9223372036854775807):am Tryz.prog G 92 [.sl (key.map bD),db ad,.sl (b.map bD)] (.tup [.c (.d (.sl ((im key ad b).map bD))),.c (.d (.int .i64 (cU key ad b.length)))]):=qW (Xi G key ad b hk hl hx hb)
theorem UK {key:List UInt8} {ad:List (List UInt8)} {s:List UInt8} (h:cU key ad ((s.length:Int)-16)≠0):fS key ad s=cU key ad ((s.length:Int)-16)∧iy key ad s=[]:=by
  have:fS key ad s=cU key ad ((s.length:Int)-16):=if_pos h;refine⟨this,?_⟩;unfold iy;rw[if_neg (by rw[this]; exact h)]
theorem QN {key:List UInt8} {ad:List (List UInt8)} {s:List UInt8} (h:cU key ad ((s.length:Int)-16)=0) (hs:s.length<16):fS key ad s=1∧iy key ad s=[]:=by
  have:fS key ad s=1:=by unfold fS; rw[if_neg (by simp[h]),if_pos hs]
  refine⟨this,?_⟩;unfold iy;rw[if_neg (by rw[this]; decide)]
theorem LK {key:List UInt8} {ad:List (List UInt8)} {s:List UInt8} (h:cU key ad ((s.length:Int)-16)=0) (hs:¬ s.length<16) (ht:s.take 16=cH key ad (dH key (s.take 16) (s.drop 16))):fS key ad s=0∧iy key ad s=dH key (s.take 16) (s.drop 16):=by
  have:fS key ad s=0:=by unfold fS; rw[if_neg (by simp[h]),if_neg hs,if_pos ht]
  exact⟨this,if_pos this⟩
theorem SL {key:List UInt8} {ad:List (List UInt8)} {s:List UInt8} (h:cU key ad ((s.length:Int)-16)=0) (hs:¬ s.length<16) (ht:s.take 16≠cH key ad (dH key (s.take 16) (s.drop 16))):fS key ad s=6∧iy key ad s=[]:=by
  have:fS key ad s=6:=by unfold fS; rw[if_neg (by simp[h]),if_neg hs,if_neg ht]
  refine⟨this,?_⟩;unfold iy;rw[if_neg (by rw[this]; decide)]
def rr:aD:=⟨3,38,.seq (.reg [oO 6 (.mv (.k (.c .nil))),oO 7 (.mv (kI 0))]) (.seq (.seq (.reg [oM 11 0,oM 12 1,oM 13 2,oO 14 (.len (.t 13)),oO 15 (.bin .sub (.t 14) (kI 16)),oO 16 (.call 121 [(.t 11),(.t 12),(.t 15)] none),oM 8 16]) (.seq (.reg [oM 17 8,oO 18 (.bin .neq (.t 17) (kI 0))]) (.cond (.t 18) (.seq (.reg [oM 19 8,oO 6 (.mv (.k (.c .nil))),oM 7 19]) (.ret)) (.skip)))) (.seq (.seq (.reg [oM 20 2,oO 21 (.len (.t 20)),oO 22 (.bin .lss (.t 21) (kI 16))]) (.cond (.t 22) (.seq (.reg [oO 6 (.mv (.k (.c .nil))),oO 7 (.mv (kI 1))]) (.ret)) (.skip))) (.seq (.reg [oM 23 2,oO 24 (.slice 1 (.t 23) none (some (kI 16)) none),oM 9 24]) (.seq (.reg [oM 25 0,oM 26 9,oM 27 2,oO 28 (.slice 1 (.t 27) (some (kI 16)) none none),oO 29 (.call 122 [(.t 25),(.t 26),(.t 28)] (some (0,1))),oM 10 29]) (.seq (.seq (.reg [oM 30 9,
 oM 31 0,oM 32 1,oM 33 10,oO 34 (.call 123 [(.t 31),(.t 32),(.t 33)] none),oO 35 (.call 104 [(.t 30),(.t 34)] none),oO 36 (.un .not (.t 35))]) (.cond (.t 36) (.seq (.reg [oO 6 (.mv (.k (.c .nil))),oO 7 (.mv (kI 6))]) (.ret)) (.skip))) (.seq (.reg [oM 37 10,oM 6 37,oO 7 (.mv (kI 0))]) (.ret))))))),[(6,none),(7,none)]⟩
theorem Xk:aB Tryz.prog { own:=[29],comp:=[],frz:=[],nils:=[] } Tryz.f88=some rr:=by kernel_rfl
theorem ZB (G:ah) (key:List UInt8) (ad:List (List UInt8)) (s:List UInt8) (hk:key.length≤9223372036854775807) (hl:ad.length≤9223372036854775807) (hx:∀ x∈ad,x.length≤9223372036854775807) (hb:s.length≤9223372036854775807):am Tryz.prog G 88 [.sl (key.map bD),db ad,.sl (s.map bD)] (.tup [.c (.fr 1 ((iy key ad s).map bD)),.c (.d (.int .i64 (fS key ad s)))]):=by
  refine aE Tryz.func88 Xk rfl rfl ?_;have hc:=Nq G key ad ((s.length:Int)-16) hk hl hx;by_cases he:cU key ad ((s.length:Int)-16)=0
  ·obtain⟨k1,k2,k3,k4⟩:=Ay he;rw[he] at hc;by_cases hs:s.length<16
   ·obtain⟨e1,e2⟩:=QN he hs;rw[e1,e2];simp only[rr,af,ae,aa,seval,iteOmega,toNatUp];refine sD (hc) ?_;exact dQ
   ·have ht:(s.take 16).length=16:=by rw[aa4]; omega
    have hd:(s.drop 16).length=s.length-16:=aa9;have hd2:(s.drop 16).take (s.length-16)=s.drop 16:=aa2 (by omega);have c1:=LJ G key (s.take 16) (s.drop 16) k1 ht (by omega);have c2:=LH G key ad (dH key (s.take 16) (s.drop 16)) k1 k2 k3 (by rw[oE]; omega);have c3:=uZ G (s.take 16) (cH key ad (dH key (s.take 16) (s.drop 16)));by_cases hq:s.take 16=cH key ad (dH key (s.take 16) (s.drop 16))
    ·obtain⟨e1,e2⟩:=LK he hs hq;have hb:(s.take 16==cH key ad (dH key (s.take 16) (s.drop 16)))=true:=beq_iff_eq.2 hq;rw[hb] at c3;rw[e1,e2];simp only[rr,af,ae,aa,seval,iteOmega,toNatUp];refine sC (hc) ?_;simp only[hd2,ae,aa,seval,iteOmega,toNatUp];refine sD (c1) ?_;refine a8 (c2) (by simp only[ae,aa,seval,iteOmega,toNatUp]) (.inr (pX _ _)) ?_;simp only[ae,aa,seval,iteOmega,toNatUp];refine sD (c3) ?_;exact dQ
    ·obtain⟨e1,e2⟩:=SL he hs hq;have hb:(s.take 16==cH key ad (dH key (s.take 16) (s.drop 16)))=false:=by simpa using hq
     rw[hb] at c3;rw[e1,e2];simp only[rr,af,ae,aa,seval,iteOmega,toNatUp];refine sC (hc) ?_;simp only[hd2,ae,aa,seval,iteOmega,toNatUp];refine sD (c1) ?_;refine a8 (c2) (by simp only[ae,aa,seval,iteOmega,toNatUp]) (.inr (pX _ _)) ?_;simp only[ae,aa,seval,iteOmega,toNatUp];refine sD (c3) ?_;exact dQ
  ·obtain⟨e1,e2⟩:=UK he;rw[e1,e2];rcases zN key ad ((s.length:Int)-16) with e | e | e | e
   ·exact absurd e he
   all_goals
     rw[e] at hc ⊢;simp only[rr,af,ae,aa,seval,iteOmega,toNatUp];refine a8 hc rfl (.inl rfl) ?_;simp only[ae,aa,seval,iteOmega,toNatUp];exact dQ
theorem ZC (G:ah) (key:List UInt8) (ad:List (List UInt8)) (s:List UInt8) (hk:key.length≤9223372036854775807) (hl:ad.length≤9223372036854775807) (hx:∀ x∈ad,x.length≤9223372036854775807) (hb:s.length≤9223372036854775807):am Tryz.prog G 88 [.sl (key.map bD),db ad,.sl (s.map bD)] (.tup [.c (.d (.sl ((iy key ad s).map bD))),.c (.d (.int .i64 (fS key ad s)))]):=qW (ZB G key ad s hk hl hx hb)
theorem Hk {key:List UInt8} {ad:List (List UInt8)} {n:Int} (h:key.length=32) (h2:ad.length≤16) (h3:∀ x∈ad,x.length≤65519) (h4:n≤65519):cU key ad n=0:=by
  have:jv ad=false:=by
    unfold jv;rw[ab1];intro x hx;have:=h3 x hx
    simpa using this
  unfold cU;rw[if_neg (by omega),if_neg (by omega),if_neg (by rw[this]; simp; omega)]
theorem Du (key tag b:List UInt8):dH key tag (dH key tag b)=b:=OV _ _ _
theorem yY {key b:List UInt8} {ad:List (List UInt8)} (h:cU key ad b.length=0):im key ad b=cH key ad b++dH key (cH key ad b) b:=if_pos h
theorem EO {key b:List UInt8} {ad:List (List UInt8)} (T:List UInt8):(cH key ad b++T).take 16=cH key ad b:=by
  rw[List.take_append_of_le_length (by rw[lT]; exact aba _),aa2 (by rw[lT]; exact aba _)]
theorem EP {key b:List UInt8} {ad:List (List UInt8)} (T:List UInt8):(cH key ad b++T).drop 16=T:=by
  have:=List.drop_left (l₁:=cH key ad b) (l₂:=T);rw[lT] at this;exact this
theorem SN {key b:List UInt8} {ad:List (List UInt8)} (h:cU key ad b.length=0):fS key ad (cH key ad b++dH key (cH key ad b) b)=0∧iy key ad (cH key ad b++dH key (cH key ad b) b)=b:=by
  have hl:(cH key ad b++dH key (cH key ad b) b).length=16+b.length:=by rw[aa1,lT,oE]
  have he:cU key ad (((cH key ad b++dH key (cH key ad b) b).length:Int)-16)=0:=by rw[hl,show ((16+b.length:Nat):Int)-16=(b.length:Int) by omega]; exact h
  obtain⟨e1,e2⟩:=LK he (by omega) (by rw[EO,EP,Du]);refine⟨e1,?_⟩;rw[e2,EO,EP,Du]
def rM:List UInt8:=[115,101,99,116,105,109,101,32,117,112]
def rN:List UInt8:=[115,101,99,116,105,109,101,32,100,111,119,110]
def jw:List UInt8:=[115,101,99,116,105,109,101,32,101,120,112,111,114,116]
structure Ch where
  cl:Bool
  se:List UInt8
  sk:List UInt8
  rk:List UInt8
  n:Int
  m:Int
def bG (c:Ch):D:=.agg [.bool c.cl,.sl (c.se.map bD),.sl (c.sk.map bD),.sl (c.rk.map bD),.int .i64 c.n,.int .i64 c.m]
def lG (K:List UInt8):List UInt8:=fa K rM 32
def mN (K:List UInt8):List UInt8:=fa K rN 32
def bn (cl:Bool) (K:List UInt8) (n m:Int):Ch:=⟨cl,K,bif cl then lG K else mN K,bif cl then mN K else lG K,n,m⟩
def sw:Ch:=⟨false,[],[],[],0,0⟩
def dK (c:Ch):Prop:=c.se.length=32∧(0≤c.n∧c.n≤1099511627776)∧(0≤c.m∧c.m≤1099511627776)∧c.sk=(bif c.cl then lG c.se else mN c.se)∧c.rk=(bif c.cl then mN c.se else lG c.se)
instance (c:Ch):Decidable (dK c):=by unfold dK; exact inferInstance
def qg (s:List UInt8):Int:=if s.length<16∨65535<s.length then 5 else 0
def qh (cl:Bool) (s h:List UInt8):Ch:=if qg s=0 then bn cl (eF (bL h) s) 0 0 else sw
def Oy (c:Ch) (n:Int):Int:=if dK c then mI n else 3
def wJ (c:Ch) (l x:List UInt8) (n:Int):List UInt8:=if dK c then i7 c.se (hZ jw l x) n else []
theorem r8 {cl:Bool} {K:List UInt8} {n m:Int} (h:K.length=32) (h1:0≤n∧n≤1099511627776) (h2:0≤m∧m≤1099511627776):dK (bn cl K n m):=⟨h,h1,h2,rfl,rfl⟩
def xg:ByteArray:=⟨#[115,101,99,116,105,109,101,32,117,112]⟩
def xh:ByteArray:=⟨#[115,101,99,116,105,109,101,32,100,111,119,110]⟩
def sB (K:List UInt8):Nat→List D
  | 0=>[.sl [],.sl []]
  | 1=>[.sl ((lG K).map bD),.sl []]
  | _=>[.sl ((lG K).map bD),.sl ((mN K).map bD)]
def sg (cl:Bool) (K:List UInt8) (i:Nat):St:=⟨aT [(0,.w (.c (.d (.bool cl)))),(1,.w (.c (.d (.sl (K.map bD))))),(7,.w (.c (.pa 1 1))),(11,.w (.c (.d (.agg [.str xg,.str xh])))),(12,.w (.c (.d (.int .i64 (i:Int)))))],hL [(1,.row 1 (sB K i))],uL [1]⟩
def qS:aL := .seq (.reg [oO 13 (.bin .lss (.t 12) (kI 2))]) (.seq (.cond (.t 13) (.skip) (.exit 0)) (.seq (.block 1 (.seq (.reg [oM 14 12,oO 15 (.idxArr 1 2 .sc (.t 11) (.t 12)),oM 8 14,oM 9 15]) (.reg [oM 17 8,oM 18 1,oM 19 9,oO 20 (.s2b false (.t 19)),oO 21 (.call 128 [(.t 18),(.t 20),(kI 32)] none),oM 16 21,oO 22 (.extract (.t 16) 0),oO 23 (.extract (.t 16) 1),oO 24 (.idxPa 1 2 (.t 7) (.t 17)),oN (.store .sc (.t 24) (.t 22))]))) (.reg [oO 25 (.bin .add (.t 12) (kI 1)),oM 12 25])))
def L9:aD:=⟨2,35,.seq (.reg [oO 4 (.mv (.k (.c .nil))),oO 5 (.mv (.k (.c .nil)))]) (.seq (.reg [oO 10 (.build [(.d (.str ⟨#[]⟩)),(.d (.str ⟨#[]⟩))] [(0,1,(.k (.c (.d (.str ⟨#[115,101,99,116,105,109,101,32,117,112]⟩))))),(1,1,(.k (.c (.d (.str ⟨#[115,101,99,116,105,109,101,32,100,111,119,110]⟩)))))]),oO 6 (.allocArr [(.str ⟨#[]⟩),(.str ⟨#[]⟩)]),oN (.store (.ag 2) (.t 6) (.t 10))]) (.seq (.reg [oO 7 (.allocArr [(.sl []),(.sl [])])]) (.seq (.seq (.reg [oO 11 (.load (.ag 2) (.t 6)),oO 12 (.mv (kI 0))]) (.block 0 (.loop qS))) (.seq (.seq (.reg [oM 26 0]) (.cond (.t 26) (.seq (.reg [oO 27 (.idxPa 1 2 (.t 7) (kI 0)),oO 28 (.load .sc (.t 27)),oO 29 (.idxPa 1 2 (.t 7) (kI 1)),oO 30 (.load .sc (.t 29)),oM 4 28,oM 5 30]) (.ret)) (.skip))) (.seq (.reg [oO 31 (.idxPa 1 2 (.t 7) (kI 1)),oO 32 (.load .sc (.t 31)),
 oO 33 (.idxPa 1 2 (.t 7) (kI 0)),oO 34 (.load .sc (.t 33)),oM 4 32,oM 5 34]) (.ret)))))),[(4,none),(5,none)]⟩
theorem XD:aB Tryz.prog { own:=[],comp:=[],frz:=[],nils:=[] } Tryz.f103=some L9:=by kernel_rfl
theorem ZK (G:ah) (hF:G.at 0=some (.ra (bA.map wD))) (hG:G.at 1=some (.ra (bw.map wD))) (cl:Bool) (K:List UInt8) (hK:K.length≤140737488355328):am Tryz.prog G 103 [.bool cl,.sl (K.map bD)] (.tup [.c (.d (.sl ((bn cl K 0 0).sk.map bD))),.c (.d (.sl ((bn cl K 0 0).rk.map bD)))]):=by
  refine aE Tryz.func103 XD rfl rfl ?_;have s1:xg.size≤maxLen:=by unfold maxLen; decide
  have s2:xh.size≤maxLen:=by unfold maxLen; decide
  have c1:=Bw G hF hG K xg.data.toList hK (by decide) 32 (by decide) (by decide);have c2:=Bw G hF hG K xh.data.toList hK (by decide) 32 (by decide) (by decide);rw[show i7 K xg.data.toList 32=lG K from lX K rM (by decide),nc (by decide)] at c1;rw[show i7 K xh.data.toList 32=mN K from lX K rN (by decide),nc (by decide)] at c2;simp only[L9,af,ae,aa,seval,iteOmega,toNatUp];refine be (sg cl K) (fun i=>2-i) (fun i=>i≤2) 0 (by decide) ?_ ?_
  ·refine aA (fun i=>56) ?_ ?_ rfl rfl <;> simp only[wx,aw,aG,aa,seval,iteOmega,toNatUp] <;> first | rfl | exact⟨rfl,rfl⟩ | skip
  ·intro i hi;have h3:i=0∨i=1∨i=2:=by omega
   rcases h3 with rfl | rfl | rfl
   ·simp only[qS,sg,sB,ae,aa,seval,iteOmega,toNatUp,s1];refine sD (c1) ?_;refine aV 1 (by decide) (by decide) (aA (fun i=>i) ?_ ?_ rfl rfl) <;> simp only[wx,aw,aG,aa,seval,iteOmega,toNatUp] <;> first | rfl | exact⟨rfl,rfl⟩ | skip
   ·simp only[qS,sg,sB,ae,aa,seval,iteOmega,toNatUp,s2];refine sD (c2) ?_;refine aV 2 (by decide) (by decide) (aA (fun i=>i) ?_ ?_ rfl rfl) <;> simp only[wx,aw,aG,aa,seval,iteOmega,toNatUp] <;> first | rfl | exact⟨rfl,rfl⟩ | skip
   ·unfold bn;cases cl
    ·rw[cond_false,cond_false];simp only[qS,sg,sB,ae,aa,seval,iteOmega,toNatUp];exact aY
    ·rw[cond_true,cond_true];simp only[qS,sg,sB,ae,aa,seval,iteOmega,toNatUp];exact aY
def nT (n:Int):Bool:=decide (0≤n∧n≤1099511627776)
def u7:aD:=⟨1,9,.seq (.reg [oO 2 (.mv (.k (.c (.d (.bool false)))))]) (.seq (.reg [oM 3 0,oO 4 (.bin .leq (kI 0) (.t 3)),oM 5 4,oG 6 (.mv (.t 0)) 5 true,oG 7 (.bin .leq (.t 6) (kI 1099511627776)) 5 true,oO 8 (.pick (.t 5) (.t 7) (.k (.c (.d (.bool false))))),oM 2 8]) (.ret)),[(2,none)]⟩
theorem XE:aB Tryz.prog { own:=[],comp:=[],frz:=[],nils:=[] } Tryz.f102=some u7:=by kernel_rfl
theorem Nu (G:ah) (n:Int):am Tryz.prog G 102 [.int .i64 n] (.w (.c (.d (.bool (nT n))))):=by
  refine aE Tryz.func102 XE rfl rfl ?_;unfold nT;by_cases h1:0≤n
  ·have g1:(0≤n)=True:=eq_true h1;by_cases h2:n≤1099511627776
   ·have g2:(n≤1099511627776)=True:=eq_true h2;rw[decide_eq_true (And.intro h1 h2)];simp only[u7,af,ae,aa,seval,iteOmega,toNatUp,g1,g2];exact aF
   ·have g2:(n≤1099511627776)=False:=eq_false h2;rw[decide_eq_false (fun h=>h2 h.2)];simp only[u7,af,ae,aa,seval,iteOmega,toNatUp,g1,g2];exact aF
  ·have g1:(0≤n)=False:=eq_false h1;rw[decide_eq_false (fun h=>h1 h.1)];simp only[u7,af,ae,aa,seval,iteOmega,toNatUp,g1];exact aF
theorem vdb (c:Ch):decide (dK c)=(decide (c.se.length=32)&&nT c.n&&nT c.m&&(c.sk==(bn c.cl c.se 0 0).sk)&&(c.rk==(bn c.cl c.se 0 0).rk)):=by
  rw[Bool.eq_iff_iff];unfold dK nT bn;simp only[decide_eq_true_eq,abu,beq_iff_eq,and_assoc]
def pf:aD:=⟨1,39,.seq (.reg [oO 1 (.box .roBox (.t 0)),oO 2 (.mv (.k (.c (.d (.bool false)))))]) (.seq (.seq (.reg [oO 5 (.fieldAddr 1 (.t 1)),oO 6 (.load .sc (.t 5)),oO 7 (.len (.t 6)),oO 8 (.bin .neq (.t 7) (kI 32)),oM 9 8,oG 10 (.fieldAddr 4 (.t 1)) 9 false,oG 11 (.load .sc (.t 10)) 9 false,oG 12 (.call 102 [(.t 11)] none) 9 false,oG 13 (.un .not (.t 12)) 9 false,oO 14 (.pick (.t 9) (.k (.c (.d (.bool true)))) (.t 13)),oM 15 14,oG 16 (.fieldAddr 5 (.t 1)) 15 false,oG 17 (.load .sc (.t 16)) 15 false,oG 18 (.call 102 [(.t 17)] none) 15 false,oG 19 (.un .not (.t 18)) 15 false,oO 20 (.pick (.t 15) (.k (.c (.d (.bool true)))) (.t 19))]) (.cond (.t 20) (.seq (.reg [oO 2 (.mv (.k (.c (.d (.bool false)))))]) (.ret)) (.skip))) (.seq (.reg [oO 22 (.fieldAddr 0 (.t 1)),oO 23 (.load .sc (.t 22)),
 oO 24 (.fieldAddr 1 (.t 1)),oO 25 (.load .sc (.t 24)),oO 26 (.call 103 [(.t 23),(.t 25)] none),oM 21 26,oO 27 (.extract (.t 21) 0),oO 28 (.extract (.t 21) 1),oM 3 27,oM 4 28]) (.seq (.reg [oO 29 (.fieldAddr 2 (.t 1)),oO 30 (.load .sc (.t 29)),oM 31 3,oO 32 (.call 104 [(.t 30),(.t 31)] none),oM 33 32,oG 34 (.fieldAddr 3 (.t 1)) 33 true,oG 35 (.load .sc (.t 34)) 33 true,oG 36 (.mv (.t 4)) 33 true,oG 37 (.call 104 [(.t 35),(.t 36)] none) 33 true,oO 38 (.pick (.t 33) (.t 37) (.k (.c (.d (.bool false))))),oM 2 38]) (.ret)))),[(2,none)]⟩
theorem XF:aB Tryz.prog { own:=[],comp:=[],frz:=[],nils:=[] } Tryz.f62=some pf:=by kernel_rfl
theorem v4 (G:ah) (hF:G.at 0=some (.ra (bA.map wD))) (hG:G.at 1=some (.ra (bw.map wD))) (c:Ch):am Tryz.prog G 62 [bG c] (.w (.c (.d (.bool (decide (dK c)))))):=by
  refine aE Tryz.func62 XF rfl rfl ?_;rw[vdb];have c1:=Nu G c.n;have c2:=Nu G c.m;by_cases h:c.se.length=32
  ·have g:(((c.se.length:Nat):Int)=32)=True:=eq_true (by omega);have c3:=ZK G hF hG c.cl c.se (by omega);have c4:=uZ G c.sk (bn c.cl c.se 0 0).sk;have c5:=uZ G c.rk (bn c.cl c.se 0 0).rk;rw[decide_eq_true h];generalize (bn c.cl c.se 0 0).sk=S at *
   generalize (bn c.cl c.se 0 0).rk=R at *
   generalize (c.sk==S)=q1 at *
   generalize (c.rk==R)=q2 at *
   generalize nT c.n=q3 at *
   generalize nT c.m=q4 at *
   unfold bG;cases q3
   ·simp only[pf,af,ae,aa,seval,iteOmega,toNatUp,g];refine sD (c1) ?_;exact aF
   ·cases q4
    ·simp only[pf,af,ae,aa,seval,iteOmega,toNatUp,g];refine sD (c1) ?_;refine sD (c2) ?_;exact aF
    ·cases q1
     ·simp only[pf,af,ae,aa,seval,iteOmega,toNatUp,g];refine sD (c1) ?_;refine sD (c2) ?_;refine sD (c3) ?_;refine sD (c4) ?_;exact aF
     ·simp only[pf,af,ae,aa,seval,iteOmega,toNatUp,g];refine sD (c1) ?_;refine sD (c2) ?_;refine sD (c3) ?_;refine sD (c4) ?_;refine sD (c5) ?_;exact aF
  ·have g:(((c.se.length:Nat):Int)=32)=False:=eq_false (by omega);rw[decide_eq_false h];unfold bG;simp only[pf,af,ae,aa,seval,iteOmega,toNatUp,g];exact aF
def Oz:ByteArray:=⟨#[115,101,99,116,105,109,101,32,101,120,112,111,114,116]⟩
def AF:aD:=⟨4,22,.seq (.reg [oO 4 (.box .roBox (.t 0)),oO 8 (.mv (.k (.c .nil))),oO 9 (.mv (kI 0))]) (.seq (.seq (.reg [oO 10 (.load (.ag 6) (.t 4)),oO 11 (.call 62 [(.t 10)] none),oO 12 (.un .not (.t 11))]) (.cond (.t 12) (.seq (.reg [oO 8 (.mv (.k (.c .nil))),oO 9 (.mv (kI 3))]) (.ret)) (.skip))) (.seq (.reg [oO 13 (.fieldAddr 1 (.t 4)),oO 14 (.load .sc (.t 13)),oM 15 1,oM 16 2,oO 17 (.call 130 [(.k (.c (.d (.str ⟨#[115,101,99,116,105,109,101,32,101,120,112,111,114,116]⟩)))),(.t 15),(.t 16)] none),oM 18 3,oO 19 (.call 128 [(.t 14),(.t 17),(.t 18)] none),oO 20 (.extract (.t 19) 0),oO 21 (.extract (.t 19) 1),oM 8 20,oM 9 21]) (.ret))),[(8,none),(9,none)]⟩
theorem XG:aB Tryz.prog { own:=[],comp:=[],frz:=[],nils:=[] } Tryz.f105=some AF:=by kernel_rfl
theorem ZL (G:ah) (hF:G.at 0=some (.ra (bA.map wD))) (hG:G.at 1=some (.ra (bw.map wD))) (c:Ch) (l:ByteArray) (x:List UInt8) (n:Int) (hl:l.size≤1099511627776) (hx:x.length≤140737488355328) (hn1:-9223372036854775808≤n) (hn2:n≤9223372036854775807):am Tryz.prog G 105 [bG c,.str l,.sl (x.map bD),.int .i64 n] (.tup [.c (.d (.sl ((wJ c l.data.toList x n).map bD))),.c (.d (.int .i64 (Oy c n)))]):=by
  refine aE Tryz.func105 XG rfl rfl ?_;have c1:=v4 G hF hG c;unfold wJ Oy;by_cases h:dK c
  ·rw[decide_eq_true h] at c1;rw[if_pos h,if_pos h];have c2:=ZG G hF hG Oz l x (by decide) hl hx;rw[show Oz.data.toList=jw from rfl] at c2;have hs:l.data.toList.length=l.size:=rfl;have c3:=Bw G hF hG c.se (hZ jw l.data.toList x) (by rw[h.1]; decide) (by rw[S4,hs]; have:jw.length=14:=rfl; omega) n hn1 hn2;generalize hZ jw l.data.toList x=L at *
   generalize i7 c.se L n=E at *
   generalize mI n=e at *
   unfold bG at *
   simp only[AF,af,ae,aa,seval,iteOmega,toNatUp];refine sD (c1) ?_;refine a8 c2 (by simp only[ae,aa,seval,iteOmega,toNatUp] <;> rfl) (.inl rfl) ?_;simp only[ae,aa,seval,iteOmega,toNatUp];refine sD (c3) ?_;exact aY
  ·rw[decide_eq_false h] at c1;rw[if_neg h,if_neg h];unfold bG at *
   simp only[AF,af,ae,aa,seval,iteOmega,toNatUp];refine sD (c1) ?_;exact aY

def AG:aD:=⟨2,32,.seq (.reg [oO 4 (.alloc [(.d (.bool false)),.nil,.nil,.nil,(.d (.int .i64 0)),(.d (.int .i64 0))])]) (.seq (.reg [oM 10 1,oO 11 (.bldSl true 10 1 (.int .u8 0) [(0,(.k (.c (.d (.int .u8 115))))),(1,(.k (.c (.d (.int .u8 101))))),(2,(.k (.c (.d (.int .u8 99))))),(3,(.k (.c (.d (.int .u8 116))))),(4,(.k (.c (.d (.int .u8 105))))),(5,(.k (.c (.d (.int .u8 109))))),(6,(.k (.c (.d (.int .u8 101))))),(7,(.k (.c (.d (.int .u8 32))))),(8,(.k (.c (.d (.int .u8 117))))),(9,(.k (.c (.d (.int .u8 112)))))]),oO 12 (.markF (.t 11)),oO 13 (.call 101 [(.t 10),(.t 12),(kI 32)] none),oM 9 13,oO 14 (.extract (.t 9) 0),oO 15 (.extract (.t 9) 1),oM 5 14,oM 6 15]) (.seq (.reg [oM 17 1,oO 18 (.bldSl true 12 1 (.int .u8 0) [(0,(.k (.c (.d (.int .u8 115))))),(1,(.k (.c (.d (.int .u8 101))))),(2,(.k (.c (.d (.int .u8 99))))),(3,(.k (.c (.d (.int .u8 116))))),(4,(.k (.c (.d (.int .u8 105))))),(5,(.k (.c (.d (.int .u8 109))))),(6,(.k (.c (.d (.int .u8 101))))),(7,(.k (.c (.d (.int .u8 32))))),(8,(.k (.c (.d (.int .u8 100))))),(9,(.k (.c (.d (.int .u8 111))))),(10,(.k (.c (.d (.int .u8 119))))),(11,(.k (.c (.d (.int .u8 110)))))]),
 oO 19 (.markF (.t 18)),oO 20 (.call 101 [(.t 17),(.t 19),(kI 32)] none),oM 16 20,oO 21 (.extract (.t 16) 0),oO 22 (.extract (.t 16) 1),oM 7 21,oM 8 22]) (.seq (.seq (.reg [oM 23 0]) (.cond (.t 23) (.seq (.reg [oM 24 1,oM 25 5,oM 26 7,oO 27 (.build [(.d (.bool false)),.nil,.nil,.nil,(.d (.int .i64 0)),(.d (.int .i64 0))] [(0,1,(.k (.c (.d (.bool true))))),(1,1,(.t 24)),(2,1,(.t 25)),(3,1,(.t 26))]),oN (.store (.ag 6) (.t 4) (.t 27))]) (.ret)) (.skip))) (.seq (.reg [oM 28 1,oM 29 7,oM 30 5,oO 31 (.build [(.d (.bool false)),.nil,.nil,.nil,(.d (.int .i64 0)),(.d (.int .i64 0))] [(1,1,(.t 28)),(2,1,(.t 29)),(3,1,(.t 30))]),oN (.store (.ag 6) (.t 4) (.t 31))]) (.ret))))),[(4,(some (.ag 6)))]⟩
theorem XI:aB Tryz.prog { own:=[11,18],comp:=[],frz:=[12,19],nils:=[] } Tryz.f98=some AG:=by kernel_rfl
theorem ZM (G:ah) (cl:Bool) (K:List UInt8) (hK:K.length≤140737488355328):am Tryz.prog G 98 [.bool cl,.sl (K.map bD)] (.w (.c (.d (bG (bn cl K 0 0))))):=by
  refine aE Tryz.func98 XI rfl rfl ?_;have c1:=u5 G K rM hK (by decide) 32 (by decide) (by decide);have c2:=u5 G K rN hK (by decide) 32 (by decide) (by decide);rw[show i7 K rM 32=lG K from lX K rM (by decide),nc (by decide)] at c1;rw[show i7 K rN 32=mN K from lX K rN (by decide),nc (by decide)] at c2;unfold bG bn;dsimp only;generalize lG K=U at *
  generalize mN K=W at *
  cases cl
  ·rw[cond_false,cond_false];simp only[AG,af,ae,aa,seval,iteOmega,toNatUp];refine a8 c1 (by simp only[ae,aa,seval,iteOmega,toNatUp] <;> rfl) (.inl rfl) ?_;simp only[ae,aa,seval,iteOmega,toNatUp];refine a8 c2 (by simp only[ae,aa,seval,iteOmega,toNatUp] <;> rfl) (.inl rfl) ?_;simp only[ae,aa,seval,iteOmega,toNatUp];exact aF
  ·rw[cond_true,cond_true];simp only[AG,af,ae,aa,seval,iteOmega,toNatUp];refine a8 c1 (by simp only[ae,aa,seval,iteOmega,toNatUp] <;> rfl) (.inl rfl) ?_;simp only[ae,aa,seval,iteOmega,toNatUp];refine a8 c2 (by simp only[ae,aa,seval,iteOmega,toNatUp] <;> rfl) (.inl rfl) ?_;simp only[ae,aa,seval,iteOmega,toNatUp];exact aF
def u9:aD:=⟨3,23,.seq (.reg [oO 6 (.alloc [(.d (.bool false)),.nil,.nil,.nil,(.d (.int .i64 0)),(.d (.int .i64 0))]),oO 7 (.mv (kI 0))]) (.seq (.seq (.reg [oM 8 1,oO 9 (.len (.t 8)),oO 10 (.bin .lss (.t 9) (kI 16)),oM 11 10,oG 12 (.mv (.t 1)) 11 false,oG 13 (.len (.t 12)) 11 false,oG 14 (.bin .gtr (.t 13) (kI 65535)) 11 false,oO 15 (.pick (.t 11) (.k (.c (.d (.bool true)))) (.t 14))]) (.cond (.t 15) (.seq (.reg [oO 16 (.build [(.d (.bool false)),.nil,.nil,.nil,(.d (.int .i64 0)),(.d (.int .i64 0))] []),oN (.store (.ag 6) (.t 6) (.t 16)),oO 7 (.mv (kI 5))]) (.ret)) (.skip))) (.seq (.reg [oM 17 0,oM 18 2,oO 19 (.call 84 [(.t 18)] none),oM 20 1,oO 21 (.call 100 [(.t 19),(.t 20)] none),oO 22 (.call 98 [(.t 17),(.t 21)] none),oN (.store (.ag 6) (.t 6) (.t 22)),oO 7 (.mv (kI 0))]) (.ret))),
 [(6,(some (.ag 6))),(7,none)]⟩
theorem XJ:aB Tryz.prog { own:=[],comp:=[],frz:=[],nils:=[] } Tryz.f58=some u9:=by kernel_rfl
theorem Nv (G:ah) (cl:Bool) (s h:List UInt8) (hs:s.length≤9223372036854775807) (hh:h.length≤140737488355328):am Tryz.prog G 58 [.bool cl,.sl (s.map bD),.sl (h.map bD)] (.tup [.c (.d (bG (qh cl s h))),.c (.d (.int .i64 (qg s)))]):=by
  refine aE Tryz.func58 XJ rfl rfl ?_;by_cases h1:s.length<16
  ·have e:qg s=5:=if_pos (.inl h1);rw[show qh cl s h=sw from if_neg (by rw[e]; decide),e];have g1:((s.length:Int)<16)=True:=eq_true (by omega);unfold bG sw;simp only[u9,af,ae,aa,seval,iteOmega,toNatUp,g1];exact aY
  ·have g1:((s.length:Int)<16)=False:=eq_false (by omega);by_cases h2:65535<s.length
   ·have e:qg s=5:=if_pos (.inr h2);rw[show qh cl s h=sw from if_neg (by rw[e]; decide),e];have g2:((s.length:Int)>65535)=True:=eq_true (by omega);unfold bG sw;simp only[u9,af,ae,aa,seval,iteOmega,toNatUp,g1,g2];exact aY
   ·have e:qg s=0:=if_neg (by omega);rw[show qh cl s h=bn cl (eF (bL h) s) 0 0 from if_pos e,e];have g2:((s.length:Int)>65535)=False:=eq_false (by omega);have c1:=ru G h hh;have c2:=Xs G (bL h) s (by rw[gz]; decide) (by omega);have c3:=ZM G cl (eF (bL h) s) (by rw[na]; decide);generalize bn cl (eF (bL h) s) 0 0=C at *
    generalize eF (bL h) s=M at *
    generalize bL h=H at *
    unfold bG at *
    simp only[u9,af,ae,aa,seval,iteOmega,toNatUp,g1,g2];refine sD (c1) ?_;refine sD (c2) ?_;refine sD (c3) ?_;exact aY
def bW (s:Int):List UInt8:=eF (bL (aQ s 20)) (aQ s 32)
theorem ux (s:Int):(bW s).length=32:=na _ _
def Md:aD:=⟨1,26,.seq (.reg [oO 2 (.alloc [(.d (.bool false)),.nil,.nil,.nil,(.d (.int .i64 0)),(.d (.int .i64 0))]),oO 3 (.alloc [(.d (.bool false)),.nil,.nil,.nil,(.d (.int .i64 0)),(.d (.int .i64 0))])]) (.seq (.reg [oM 9 0,oO 10 (.call 59 [(.t 9)] none),oM 11 0,oO 12 (.call 35 [(.t 11),(kI 20)] none),oO 13 (.call 58 [(.k (.c (.d (.bool true)))),(.t 10),(.t 12)] none),oM 8 13,oO 14 (.extract (.t 8) 0),oO 15 (.extract (.t 8) 1),oO 4 (.alloc [(.d (.bool false)),.nil,.nil,.nil,(.d (.int .i64 0)),(.d (.int .i64 0))]),oN (.store (.ag 6) (.t 4) (.t 14)),oM 5 15]) (.seq (.reg [oM 17 0,oO 18 (.call 59 [(.t 17)] none),oM 19 0,oO 20 (.call 35 [(.t 19),(kI 20)] none),oO 21 (.call 58 [(.k (.c (.d (.bool false)))),(.t 18),(.t 20)] none),oM 16 21,oO 22 (.extract (.t 16) 0),oO 23 (.extract (.t 16) 1),
 oO 6 (.alloc [(.d (.bool false)),.nil,.nil,.nil,(.d (.int .i64 0)),(.d (.int .i64 0))]),oN (.store (.ag 6) (.t 6) (.t 22)),oM 7 23]) (.seq (.reg [oO 24 (.loadX (.ag 6) (.t 4) [(.t 2),(.t 3)]),oO 25 (.loadX (.ag 6) (.t 6) [(.t 2),(.t 3)]),oN (.store (.ag 6) (.t 2) (.t 24)),oN (.store (.ag 6) (.t 3) (.t 25))]) (.ret)))),[(2,(some (.ag 6))),(3,(some (.ag 6)))]⟩
theorem XK:aB Tryz.prog { own:=[],comp:=[],frz:=[],nils:=[],lx:=[(24,[2,3]),(25,[2,3])] } Tryz.f23=some Md:=by kernel_rfl
theorem Nw (G:ah) (s:Int):am Tryz.prog G 23 [.int .i64 s] (.tup [.c (.d (bG (bn true (bW s) 0 0))),.c (.d (bG (bn false (bW s) 0 0)))]):=by
  refine aE Tryz.func23 XK rfl rfl ?_;have c1:=Mc G s;have c2:=qQ G s 20 (by decide);have l1:(aQ s 32).length=32:=lS _ _;have l2:(aQ s 20).length=20:=lS _ _;have e:qg (aQ s 32)=0:=if_neg (by omega);have c3:=Nv G true (aQ s 32) (aQ s 20) (by omega) (by omega);have c4:=Nv G false (aQ s 32) (aQ s 20) (by omega) (by omega);rw[show qh true (aQ s 32) (aQ s 20)=bn true (bW s) 0 0 from if_pos e,e] at c3;rw[show qh false (aQ s 32) (aQ s 20)=bn false (bW s) 0 0 from if_pos e,e] at c4;generalize aQ s 32=B1 at *
  generalize aQ s 20=B2 at *
  generalize bn true (bW s) 0 0=X at *
  generalize bn false (bW s) 0 0=Y at *
  unfold bG at *
  simp only[Md,af,ae,aa,seval,iteOmega,toNatUp];refine sD (c1) ?_;refine sD (c2) ?_;refine sD (c3) ?_;refine sD (c1) ?_;refine sD (c2) ?_;refine sD (c4) ?_;exact aY

end Go.Proofs.YtlghfnidknfakaaGreatDoor
