/- Texts of one's own, merged: from: Layer 6 on data: tags,sealed bytes,opened ones; both codes. Own work. -/
import Derived.Shelf.Abstract
import Derived.Test.YtlghfnidknfakaaGreatDoorMg512
import Derived.Test.YtlghfnidknfakaaGreatDoorMg510
import Derived.Test.YtlghfnidknfakaaGreatDoorMg513
import Derived.Test.YtlghfnidknfakaaGreatDoorMg57
set_option linter.unusedVariables false
set_option linter.unusedSimpArgs false
namespace Go.Proofs.YtlghfnidknfakaaGreatDoor
open Go.RowKit IntWalk
set_option maxHeartbeats 1600000
def kK (tag:List UInt8):List UInt8:=(tag.set 8 (lM (tag.getD 8 0) 127)).set 12 (lM (tag.getD 12 0) 127)
theorem w5 (tag:List UInt8):(kK tag).length=tag.length:=by unfold kK; rw[Zg,Zg]
def ch (key:List UInt8) (ad:List (List UInt8)) (b:List UInt8):List UInt8:=je (aQ (key.take 16)) (ad++[b])
theorem iY (key:List UInt8) (ad:List (List UInt8)) (b:List UInt8):(ch key ad b).length=16:=Qs _ _
def dE (key tag b:List UInt8):List UInt8:=fQ (aQ (key.drop 16)) (kK tag) b
theorem jV (key tag b:List UInt8):(dE key tag b).length=b.length:=rI _ _ _
def jc (l:List (List UInt8)):Bool:=l.any fun x=>decide (65519<x.length)
def cJ (key:List UInt8) (ad:List (List UInt8)) (n:Int):Int:=if key.length≠32 then 5 else if 16<ad.length then 8 else if jc ad=true∨65519<n then 2 else 0
def oY (key:List UInt8) (ad:List (List UInt8)) (b:List UInt8):List UInt8:=if cJ key ad b.length=0 then ch key ad b else []
def dr (key:List UInt8) (ad:List (List UInt8)) (b:List UInt8):List UInt8:=if cJ key ad b.length=0 then ch key ad b++dE key (ch key ad b) b else []
def fo (key:List UInt8) (ad:List (List UInt8)) (s:List UInt8):Int :=
  if cJ key ad ((s.length:Int)-16)≠0 then cJ key ad ((s.length:Int)-16) else if s.length<16 then 1 else if s.take 16=ch key ad (dE key (s.take 16) (s.drop 16)) then 0 else 6
def gj (key:List UInt8) (ad:List (List UInt8)) (s:List UInt8):List UInt8:=if fo key ad s=0 then dE key (s.take 16) (s.drop 16) else []
theorem OV {l:List (List UInt8)} (h:jc l=false):∀ x∈l,x.length≤65519:=by
  unfold jc at h;rw[Y1] at h;intro x hx
  simpa using h x hx
theorem yH {key:List UInt8} {ad:List (List UInt8)} {n:Int} (h:cJ key ad n=0):key.length=32∧ad.length≤16∧jc ad=false∧n≤65519:=by
  unfold cJ at h;split at h
  ·cases h
  ·split at h
   ·cases h
   ·split at h
    ·cases h
    ·rename_i h1 h2 h3;cases hl:jc ad
     ·exact⟨by omega,by omega,rfl,by omega⟩
     ·exact absurd (.inl hl) h3
theorem xR (key:List UInt8) (ad:List (List UInt8)) (n:Int):cJ key ad n=0∨cJ key ad n=5∨cJ key ad n=8∨cJ key ad n=2:=by
  unfold cJ;split
  ·exact .inr (.inl rfl)
  ·split
   ·exact .inr (.inr (.inl rfl))
   ·split
    ·exact .inr (.inr (.inr rfl))
    ·exact .inl rfl
theorem SC {k:List UInt8} {l:List (List UInt8)} (h:k.length=16) (hn:l.length≤17) (hl:∀ x∈l,x.length≤65535):Aj k l=je (aQ k) l∧uR k l=0:=by
  have:jz l=false:=by
    unfold jz;rw[Y1];intro x hx;have:=hl x hx
    simpa using this
  refine⟨if_pos ⟨h,hn,this⟩,?_⟩;unfold uR;rw[if_neg (by omega),if_neg (by omega),this,if_neg (by simp)]
theorem OW {k c b:List UInt8} (h:k.length=16) (hc:c.length=16) (hb:b.length≤65535):t7 k c b=fQ (aQ k) c b∧jA k c b=0:=by
  refine⟨if_pos ⟨h,hc,hb⟩,?_⟩;unfold jA;rw[if_neg (by omega),if_neg (by omega),if_neg (by omega)]
theorem JP {ad:List (List UInt8)} {b:List UInt8} (h:jc ad=false) (hb:b.length≤65519):∀ x∈ad++[b],x.length≤65535:=by
  intro x hx;rcases Yj.1 hx with hx | hx
  ·have:=OV h x hx; omega
  ·simp only[X9] at hx; subst hx; omega
def xS:aA:=⟨1,6,.seq (.reg [oO 2 (.mv (.k (.c (.d (.bool false)))))]) (.seq (.reg [oM 3 0,oO 4 (.len (.t 3)),oO 5 (.bin .gtr (.t 4) (kI 65519)),oM 2 5]) (.ret)),[(2,none)]⟩
theorem SD:aw Tryz.prog { own:=[],comp:=[],frz:=[],nils:=[] } Tryz.f134=some xS:=by kernel_rfl
theorem US (G:ah) (x:List UInt8) (hx:x.length≤9223372036854775807):jD Tryz.prog G 134 [] [.sl (x.map bD)] (.w (.c (.d (.bool (decide (65519<x.length)))))):=by
  refine⟨enters_of Tryz.func134 (by kernel_rfl) rfl,?_⟩;refine aB Tryz.func134 SD rfl rfl ?_;by_cases h:65519<x.length
  ·have hd:decide (65519<x.length)=true:=decide_eq_true h;rw[hd];simp only[xS,af,ae,aa,seval,iteOmega,toNatUp];exact aF
  ·have hd:decide (65519<x.length)=false:=decide_eq_false h;rw[hd];simp only[xS,af,ae,aa,seval,iteOmega,toNatUp];exact aF
def nX:aA:=⟨3,21,.seq (.reg [oO 6 (.mv (kI 0))]) (.seq (.seq (.reg [oM 8 0,oO 9 (.len (.t 8)),oO 10 (.bin .neq (.t 9) (kI 32))]) (.cond (.t 10) (.seq (.reg [oO 6 (.mv (kI 5))]) (.ret)) (.skip))) (.seq (.seq (.reg [oM 11 1,oO 12 (.len (.t 11)),oO 13 (.bin .gtr (.t 12) (kI 16))]) (.cond (.t 13) (.seq (.reg [oO 6 (.mv (kI 8))]) (.ret)) (.skip))) (.seq (.reg [oO 7 (.mv (.k (.c (.d (.fn 134 [])))))]) (.seq (.seq (.reg [oM 14 1,oM 15 7,oO 16 (.call 135 [(.t 14),(.t 15)] none),oM 17 16,oG 18 (.mv (.t 2)) 17 false,oG 19 (.bin .gtr (.t 18) (kI 65519)) 17 false,oO 20 (.pick (.t 17) (.k (.c (.d (.bool true)))) (.t 19))]) (.cond (.t 20) (.seq (.reg [oO 6 (.mv (kI 2))]) (.ret)) (.skip))) (.seq (.reg [oO 6 (.mv (kI 0))]) (.ret)))))),[(6,none)]⟩
theorem UT:aw Tryz.prog { own:=[],comp:=[],frz:=[],nils:=[] } Tryz.f121=some nX:=by kernel_rfl
theorem Lt (G:ah) (key:List UInt8) (ad:List (List UInt8)) (n:Int) (hk:key.length≤9223372036854775807) (hl:ad.length≤9223372036854775807) (hb:∀ x∈ad,x.length≤9223372036854775807):aj Tryz.prog G 121 [.sl (key.map bD),cx ad,.int .i64 n] (.w (.c (.d (.int .i64 (cJ key ad n))))):=by
  refine aB Tryz.func121 UT rfl rfl ?_;have hc:=Um G ad 134 [] (fun x=>decide (65519<x.length)) hl (fun x hx=>US G x (hb x hx));have hL:(ad.any fun x=>decide (65519<x.length))=jc ad:=rfl;rw[hL] at hc;unfold cJ;by_cases h:key.length=32
  ·rw[if_neg (by omega)];by_cases h2:16<ad.length
   ·rw[if_pos h2];simp only[nX,af,ae,aa,seval,iteOmega,toNatUp];exact aF
   ·rw[if_neg h2];cases hl:jc ad
    ·rw[hl] at hc;by_cases h3:65519<n
     ·rw[if_pos (.inr h3)];simp only[nX,af,ae,aa,seval,iteOmega,toNatUp];refine sD (hc) ?_;exact aF
     ·rw[if_neg (by simp; omega)];simp only[nX,af,ae,aa,seval,iteOmega,toNatUp];refine sD (hc) ?_;exact aF
    ·rw[hl] at hc;rw[if_pos (.inl rfl)];simp only[nX,af,ae,aa,seval,iteOmega,toNatUp];refine sD (hc) ?_;exact aF
  ·rw[if_pos h];simp only[nX,af,ae,aa,seval,iteOmega,toNatUp];exact aF
def Hy:aA:=⟨3,23,.seq (.reg [oO 6 (.mv (.k (.c .nil)))]) (.seq (.reg [oM 10 1,oM 11 2,oO 12 (.bldSl false 1 1 (.sl []) [(0,(.t 11))]),oO 13 (.bldSl false 2 1 (.sl []) [(0,(.t 10)),(1,(.t 12))]),oO 14 (.call 138 [(.t 13)] none),oM 7 14]) (.seq (.reg [oM 16 0,oO 17 (.slice 1 (.t 16) none (some (kI 16)) none),oM 18 7,oO 19 (.call 139 [(.t 17),(.t 18)] (some (0,1))),oM 15 19,oO 20 (.extract (.t 15) 0),oO 21 (.extract (.t 15) 1),oM 8 20,oM 9 21]) (.seq (.reg [oM 22 8,oM 6 22]) (.ret)))),[(6,none)]⟩
theorem SE:aw Tryz.prog { own:=[],comp:=[(19,0)],frz:=[],nils:=[] } Tryz.f123=some Hy:=by kernel_rfl
theorem JQ (G:ah) (key:List UInt8) (ad:List (List UInt8)) (b:List UInt8) (h:key.length=32) (hn:ad.length≤16) (hl:jc ad=false) (hb:b.length≤65519):aj Tryz.prog G 123 [.sl (key.map bD),cx ad,.sl (b.map bD)] (.w (.c (.fr 1 ((ch key ad b).map bD)))):=by
  refine aB Tryz.func123 SE rfl rfl ?_;have hf:[ad,[b]].flatten=ad++[b]:=by simp
  have hc:=Uo G [ad,[b]] (by simp) (by rw[hf]; simp; omega);rw[hf] at hc;have hk:(key.take 16).length=16:=by rw[Yb]; omega
  obtain⟨v1,v2⟩:=SC (l:=ad++[b]) hk (by simp; omega) (JP hl hb);have hv:=UN G (key.take 16) (ad++[b]) (by omega) (by simp; omega) (fun x hx=>YJ (JP hl hb x hx) (by decide));rw[v1,v2] at hv;have ht:je (aQ (key.take 16)) (ad++[b])=ch key ad b:=rfl;rw[ht] at hv;simp only[Hy,af,ae,aa,seval,iteOmega,toNatUp];refine sD (hc) ?_;refine sD (hv) ?_;exact ec
theorem xT {tag:List UInt8} (h:tag.length=16) {i:Nat} (hi:i<16):tag[i]?=some (tag.getD i 0):=by
  rw[X6,X3 (by omega)]; rfl
theorem SF {tag:List UInt8} (h:tag.length=16) (x:UInt8):(tag.set 8 x)[12]?=some (tag.getD 12 0):=by
  rw[List.getElem?_set_ne (by decide),xT h (by decide)]
def JR:aA:=⟨1,18,.seq (.reg [oO 2 (.mv (.k (.c .nil)))]) (.seq (.reg [oM 4 0,oO 5 (.bldSl false 1 1 (.sl []) [(0,(.t 4))]),oO 6 (.call 90 [(.t 5)] (some (0,1))),oM 3 6]) (.seq (.reg [oM 7 3,oO 8 (.idxSl 1 (.t 7) (kI 8)),oO 9 (.load .sc (.t 8)),oO 10 (.bin .and (.t 9) (.k (.c (.d (.int .u8 127))))),oO 11 (.idxSl 1 (.t 7) (kI 8)),oN (.store .sc (.t 11) (.t 10))]) (.seq (.reg [oM 12 3,oO 13 (.idxSl 1 (.t 12) (kI 12)),oO 14 (.load .sc (.t 13)),oO 15 (.bin .and (.t 14) (.k (.c (.d (.int .u8 127))))),oO 16 (.idxSl 1 (.t 12) (kI 12)),oN (.store .sc (.t 16) (.t 15))]) (.seq (.reg [oM 17 3,oM 2 17]) (.ret))))),[(2,none)]⟩
theorem UU:aw Tryz.prog { own:=[6],comp:=[],frz:=[],nils:=[] } Tryz.f137=some JR:=by kernel_rfl
theorem W9 (G:ah) (tag:List UInt8) (h:tag.length=16):aj Tryz.prog G 137 [.sl (tag.map bD)] (.w (.c (.fr 1 ((kK tag).map bD)))):=by
  refine aB Tryz.func137 UU rfl rfl ?_;have hj:=dU G [tag] (by simp) (by simp; omega);have hf:[tag].flatten=tag:=by simp
  rw[hf] at hj;have g1:=xT h (i:=8) (by decide);have g2:=xT h (i:=12) (by decide);have g3:=SF h (lM (tag.getD 8 0) 127);have x1:=Js (tag.getD 8 0) 127 127 rfl;have x2:=Js (tag.getD 12 0) 127 127 rfl;have hs:(tag.set 8 (lM (tag.getD 8 0) 127)).set 12 (lM (tag.getD 12 0) 127)=kK tag:=rfl;simp only[JR,af,ae,aa,seval,iteOmega,toNatUp];refine sC (hj) ?_;simp only[aL,g1,g2,g3,x1,x2,xC,hs,ae,aa,seval,iteOmega,toNatUp];exact Jr (by simp only[ae,aa,seval,iteOmega,toNatUp,w5])
theorem Xa (G:ah) (tag:List UInt8) (h:tag.length=16):aj Tryz.prog G 137 [.sl (tag.map bD)] (.w (.c (.d (.sl ((kK tag).map bD))))):=mn (W9 G tag h)
def Hz:aA:=⟨3,19,.seq (.reg [oO 6 (.mv (.k (.c .nil)))]) (.seq (.reg [oM 10 0,oO 11 (.slice 1 (.t 10) (some (kI 16)) none none),oM 12 1,oO 13 (.call 137 [(.t 12)] none),oM 14 2,oO 15 (.call 136 [(.t 11),(.t 13),(.t 14)] (some (0,1))),oM 9 15,oO 16 (.extract (.t 9) 0),oO 17 (.extract (.t 9) 1),oM 7 16,oM 8 17]) (.seq (.reg [oM 18 7,oM 6 18]) (.ret))),[(6,none)]⟩
theorem SG:aw Tryz.prog { own:=[],comp:=[(15,0)],frz:=[],nils:=[] } Tryz.f122=some Hz:=by kernel_rfl
theorem JS (G:ah) (key tag b:List UInt8) (h:key.length=32) (ht:tag.length=16) (hb:b.length≤65535):aj Tryz.prog G 122 [.sl (key.map bD),.sl (tag.map bD),.sl (b.map bD)] (.w (.c (.fr 1 ((dE key tag b).map bD)))):=by
  refine aB Tryz.func122 SG rfl rfl ?_;have hk:(key.drop 16).length=16:=by rw[Yg]; omega
  have hk2:(key.drop 16).take 16=key.drop 16:=X7 (by omega);obtain⟨v1,v2⟩:=OW (c:=kK tag) (b:=b) hk (by rw[w5]; exact ht) hb;have hv:=W7 G (key.drop 16) (kK tag) b (by omega) (by rw[w5]; omega) (by omega);rw[v1,v2] at hv;have hs:fQ (aQ (key.drop 16)) (kK tag) b=dE key tag b:=rfl;rw[hs] at hv;simp only[Hz,af,ae,aa,seval,iteOmega,toNatUp,h];refine sC (Xa G tag ht) ?_;simp only[hk2,ae,aa,seval,iteOmega,toNatUp];refine sD (hv) ?_;exact ec
theorem UV (G:ah) (key tag b:List UInt8) (h:key.length=32) (ht:tag.length=16) (hb:b.length≤65535):aj Tryz.prog G 122 [.sl (key.map bD),.sl (tag.map bD),.sl (b.map bD)] (.w (.c (.d (.sl ((dE key tag b).map bD))))):=mn (JS G key tag b h ht hb)
def yI:aA:=⟨3,21,.seq (.reg [oO 6 (.mv (.k (.c .nil))),oO 7 (.mv (kI 0))]) (.seq (.seq (.reg [oM 9 0,oM 10 1,oM 11 2,oO 12 (.len (.t 11)),oO 13 (.call 121 [(.t 9),(.t 10),(.t 12)] none),oM 8 13]) (.seq (.reg [oM 14 8,oO 15 (.bin .neq (.t 14) (kI 0))]) (.cond (.t 15) (.seq (.reg [oM 16 8,oO 6 (.mv (.k (.c .nil))),oM 7 16]) (.ret)) (.skip)))) (.seq (.reg [oM 17 0,oM 18 1,oM 19 2,oO 20 (.call 123 [(.t 17),(.t 18),(.t 19)] (some (0,1))),oM 6 20,oO 7 (.mv (kI 0))]) (.ret))),[(6,none),(7,none)]⟩
theorem UW:aw Tryz.prog { own:=[20],comp:=[],frz:=[],nils:=[] } Tryz.f125=some yI:=by kernel_rfl
theorem Xb (G:ah) (key:List UInt8) (ad:List (List UInt8)) (b:List UInt8) (hk:key.length≤9223372036854775807) (hl:ad.length≤9223372036854775807) (hx:∀ x∈ad,x.length≤9223372036854775807) (hb:b.length≤9223372036854775807):aj Tryz.prog G 125 [.sl (key.map bD),cx ad,.sl (b.map bD)] (.tup [.c (.fr 1 ((oY key ad b).map bD)),.c (.d (.int .i64 (cJ key ad b.length)))]):=by
  refine aB Tryz.func125 UW rfl rfl ?_;have hc:=Lt G key ad (b.length:Int) hk hl hx;by_cases he:cJ key ad (b.length:Int)=0
  ·have hv:oY key ad b=ch key ad b:=if_pos he;obtain⟨k1,k2,k3,k4⟩:=yH he;rw[he] at hc ⊢;rw[hv];simp only[yI,af,ae,aa,seval,iteOmega,toNatUp];refine sD (hc) ?_;refine sD (JQ G key ad b k1 k2 k3 (by omega)) ?_;exact dw
  ·have hv:oY key ad b=[]:=if_neg he;rw[hv];have hne:cJ key ad (b.length:Int)=0↔False:=⟨he,False.elim⟩
   rcases xR key ad b.length with e | e | e | e
   ·exact absurd e he
   all_goals
     rw[e] at hc ⊢;simp only[yI,af,ae,aa,seval,iteOmega,toNatUp];refine a8 hc rfl (.inl rfl) ?_;simp only[ae,aa,seval,iteOmega,toNatUp];exact dw
theorem Xc (G:ah) (key:List UInt8) (ad:List (List UInt8)) (b:List UInt8) (hk:key.length≤9223372036854775807) (hl:ad.length≤9223372036854775807) (hx:∀ x∈ad,x.length≤9223372036854775807) (hb:b.length≤9223372036854775807):aj Tryz.prog G 125 [.sl (key.map bD),cx ad,.sl (b.map bD)] (.tup [.c (.d (.sl ((oY key ad b).map bD))),.c (.d (.int .i64 (cJ key ad b.length)))]):=pZ (Xb G key ad b hk hl hx hb)
def xU:aA:=⟨3,27,.seq (.reg [oO 6 (.mv (.k (.c .nil))),oO 7 (.mv (kI 0))]) (.seq (.reg [oM 11 0,oM 12 1,oM 13 2,oO 14 (.call 125 [(.t 11),(.t 12),(.t 13)] none),oM 10 14,oO 15 (.extract (.t 10) 0),oO 16 (.extract (.t 10) 1),oM 8 15,oM 9 16]) (.seq (.seq (.reg [oM 17 9,oO 18 (.bin .neq (.t 17) (kI 0))]) (.cond (.t 18) (.seq (.reg [oM 19 9,oO 6 (.mv (.k (.c .nil))),oM 7 19]) (.ret)) (.skip))) (.seq (.reg [oM 20 8,oM 21 0,oM 22 8,oM 23 2,oO 24 (.call 122 [(.t 21),(.t 22),(.t 23)] none),oO 25 (.bldSl false 2 1 (.sl []) [(0,(.t 20)),(1,(.t 24))]),oO 26 (.call 90 [(.t 25)] (some (0,1))),oM 6 26,oO 7 (.mv (kI 0))]) (.ret)))),[(6,none),(7,none)]⟩
theorem SH:aw Tryz.prog { own:=[26],comp:=[],frz:=[],nils:=[] } Tryz.f92=some xU:=by kernel_rfl
theorem UX (G:ah) (key:List UInt8) (ad:List (List UInt8)) (b:List UInt8) (hk:key.length≤9223372036854775807) (hl:ad.length≤9223372036854775807) (hx:∀ x∈ad,x.length≤9223372036854775807) (hb:b.length≤9223372036854775807):aj Tryz.prog G 92 [.sl (key.map bD),cx ad,.sl (b.map bD)] (.tup [.c (.fr 1 ((dr key ad b).map bD)),.c (.d (.int .i64 (cJ key ad b.length)))]):=by
  refine aB Tryz.func92 SH rfl rfl ?_;have hc:=Xc G key ad b hk hl hx hb;by_cases he:cJ key ad (b.length:Int)=0
  ·have hv:oY key ad b=ch key ad b:=if_pos he;have hv2:dr key ad b=ch key ad b++dE key (ch key ad b) b:=if_pos he;obtain⟨k1,k2,k3,k4⟩:=yH he;have hj:=dU G [ch key ad b,dE key (ch key ad b) b] (by simp) (by simp[iY,jV]; omega);have hf:[ch key ad b,dE key (ch key ad b) b].flatten=ch key ad b++dE key (ch key ad b) b:=by simp
   rw[hf] at hj;rw[he,hv] at hc;rw[he,hv2];simp only[xU,af,ae,aa,seval,iteOmega,toNatUp];refine sD (hc) ?_;refine sD (UV G key (ch key ad b) b k1 (iY _ _ _) (by omega)) ?_;refine sD (hj) ?_;exact dw
  ·have hv:oY key ad b=[]:=if_neg he;have hv2:dr key ad b=[]:=if_neg he;rw[hv] at hc;rw[hv2];rcases xR key ad b.length with e | e | e | e
   ·exact absurd e he
   all_goals
     rw[e] at hc ⊢;simp only[xU,af,ae,aa,seval,iteOmega,toNatUp];refine a8 hc rfl (.inl rfl) ?_;simp only[ae,aa,seval,iteOmega,toNatUp];exact dw
theorem JU (G:ah) (key:List UInt8) (ad:List (List UInt8)) (b:List UInt8) (hk:key.length≤9223372036854775807) (hl:ad.length≤9223372036854775807) (hx:∀ x∈ad,x.length≤9223372036854775807) (hb:b.length≤9223372036854775807):aj Tryz.prog G 92 [.sl (key.map bD),cx ad,.sl (b.map bD)] (.tup [.c (.d (.sl ((dr key ad b).map bD))),.c (.d (.int .i64 (cJ key ad b.length)))]):=pZ (UX G key ad b hk hl hx hb)
theorem SI {key:List UInt8} {ad:List (List UInt8)} {s:List UInt8} (h:cJ key ad ((s.length:Int)-16)≠0):fo key ad s=cJ key ad ((s.length:Int)-16)∧gj key ad s=[]:=by
  have:fo key ad s=cJ key ad ((s.length:Int)-16):=if_pos h;refine⟨this,?_⟩;unfold gj;rw[if_neg (by rw[this]; exact h)]
theorem OX {key:List UInt8} {ad:List (List UInt8)} {s:List UInt8} (h:cJ key ad ((s.length:Int)-16)=0) (hs:s.length<16):fo key ad s=1∧gj key ad s=[]:=by
  have:fo key ad s=1:=by unfold fo; rw[if_neg (by simp[h]),if_pos hs]
  refine⟨this,?_⟩;unfold gj;rw[if_neg (by rw[this]; decide)]
theorem JV {key:List UInt8} {ad:List (List UInt8)} {s:List UInt8} (h:cJ key ad ((s.length:Int)-16)=0) (hs:¬ s.length<16) (ht:s.take 16=ch key ad (dE key (s.take 16) (s.drop 16))):fo key ad s=0∧gj key ad s=dE key (s.take 16) (s.drop 16):=by
  have:fo key ad s=0:=by unfold fo; rw[if_neg (by simp[h]),if_neg hs,if_pos ht]
  exact⟨this,if_pos this⟩
theorem QJ {key:List UInt8} {ad:List (List UInt8)} {s:List UInt8} (h:cJ key ad ((s.length:Int)-16)=0) (hs:¬ s.length<16) (ht:s.take 16≠ch key ad (dE key (s.take 16) (s.drop 16))):fo key ad s=6∧gj key ad s=[]:=by
  have:fo key ad s=6:=by unfold fo; rw[if_neg (by simp[h]),if_neg hs,if_neg ht]
  refine⟨this,?_⟩;unfold gj;rw[if_neg (by rw[this]; decide)]
def qj:aA:=⟨3,38,.seq (.reg [oO 6 (.mv (.k (.c .nil))),oO 7 (.mv (kI 0))]) (.seq (.seq (.reg [oM 11 0,oM 12 1,oM 13 2,oO 14 (.len (.t 13)),oO 15 (.bin .sub (.t 14) (kI 16)),oO 16 (.call 121 [(.t 11),(.t 12),(.t 15)] none),oM 8 16]) (.seq (.reg [oM 17 8,oO 18 (.bin .neq (.t 17) (kI 0))]) (.cond (.t 18) (.seq (.reg [oM 19 8,oO 6 (.mv (.k (.c .nil))),oM 7 19]) (.ret)) (.skip)))) (.seq (.seq (.reg [oM 20 2,oO 21 (.len (.t 20)),oO 22 (.bin .lss (.t 21) (kI 16))]) (.cond (.t 22) (.seq (.reg [oO 6 (.mv (.k (.c .nil))),oO 7 (.mv (kI 1))]) (.ret)) (.skip))) (.seq (.reg [oM 23 2,oO 24 (.slice 1 (.t 23) none (some (kI 16)) none),oM 9 24]) (.seq (.reg [oM 25 0,oM 26 9,oM 27 2,oO 28 (.slice 1 (.t 27) (some (kI 16)) none none),oO 29 (.call 122 [(.t 25),(.t 26),(.t 28)] (some (0,1))),oM 10 29]) (.seq (.seq (.reg [oM 30 9,
 oM 31 0,oM 32 1,oM 33 10,oO 34 (.call 123 [(.t 31),(.t 32),(.t 33)] none),oO 35 (.call 104 [(.t 30),(.t 34)] none),oO 36 (.un .not (.t 35))]) (.cond (.t 36) (.seq (.reg [oO 6 (.mv (.k (.c .nil))),oO 7 (.mv (kI 6))]) (.ret)) (.skip))) (.seq (.reg [oM 37 10,oM 6 37,oO 7 (.mv (kI 0))]) (.ret))))))),[(6,none),(7,none)]⟩
theorem UY:aw Tryz.prog { own:=[29],comp:=[],frz:=[],nils:=[] } Tryz.f88=some qj:=by kernel_rfl
theorem Xd (G:ah) (key:List UInt8) (ad:List (List UInt8)) (s:List UInt8) (hk:key.length≤9223372036854775807) (hl:ad.length≤9223372036854775807) (hx:∀ x∈ad,x.length≤9223372036854775807) (hb:s.length≤9223372036854775807):aj Tryz.prog G 88 [.sl (key.map bD),cx ad,.sl (s.map bD)] (.tup [.c (.fr 1 ((gj key ad s).map bD)),.c (.d (.int .i64 (fo key ad s)))]):=by
  refine aB Tryz.func88 UY rfl rfl ?_;have hc:=Lt G key ad ((s.length:Int)-16) hk hl hx;by_cases he:cJ key ad ((s.length:Int)-16)=0
  ·obtain⟨k1,k2,k3,k4⟩:=yH he;rw[he] at hc;by_cases hs:s.length<16
   ·obtain⟨e1,e2⟩:=OX he hs;rw[e1,e2];simp only[qj,af,ae,aa,seval,iteOmega,toNatUp];refine sD (hc) ?_;exact dw
   ·have ht:(s.take 16).length=16:=by rw[Yb]; omega
    have hd:(s.drop 16).length=s.length-16:=Yg;have hd2:(s.drop 16).take (s.length-16)=s.drop 16:=X7 (by omega);have c1:=JS G key (s.take 16) (s.drop 16) k1 ht (by omega);have c2:=JQ G key ad (dE key (s.take 16) (s.drop 16)) k1 k2 k3 (by rw[jV]; omega);have c3:=tq G (s.take 16) (ch key ad (dE key (s.take 16) (s.drop 16)));by_cases hq:s.take 16=ch key ad (dE key (s.take 16) (s.drop 16))
    ·obtain⟨e1,e2⟩:=JV he hs hq;have hb:(s.take 16==ch key ad (dE key (s.take 16) (s.drop 16)))=true:=beq_iff_eq.2 hq;rw[hb] at c3;rw[e1,e2];simp only[qj,af,ae,aa,seval,iteOmega,toNatUp];refine sC (hc) ?_;simp only[hd2,ae,aa,seval,iteOmega,toNatUp];refine sD (c1) ?_;refine a8 (c2) (by simp only[ae,aa,seval,iteOmega,toNatUp]) (.inr (oS _ _)) ?_;simp only[ae,aa,seval,iteOmega,toNatUp];refine sD (c3) ?_;exact dw
    ·obtain⟨e1,e2⟩:=QJ he hs hq;have hb:(s.take 16==ch key ad (dE key (s.take 16) (s.drop 16)))=false:=by simpa using hq
     rw[hb] at c3;rw[e1,e2];simp only[qj,af,ae,aa,seval,iteOmega,toNatUp];refine sC (hc) ?_;simp only[hd2,ae,aa,seval,iteOmega,toNatUp];refine sD (c1) ?_;refine a8 (c2) (by simp only[ae,aa,seval,iteOmega,toNatUp]) (.inr (oS _ _)) ?_;simp only[ae,aa,seval,iteOmega,toNatUp];refine sD (c3) ?_;exact dw
  ·obtain⟨e1,e2⟩:=SI he;rw[e1,e2];rcases xR key ad ((s.length:Int)-16) with e | e | e | e
   ·exact absurd e he
   all_goals
     rw[e] at hc ⊢;simp only[qj,af,ae,aa,seval,iteOmega,toNatUp];refine a8 hc rfl (.inl rfl) ?_;simp only[ae,aa,seval,iteOmega,toNatUp];exact dw
theorem Lu (G:ah) (key:List UInt8) (ad:List (List UInt8)) (s:List UInt8) (hk:key.length≤9223372036854775807) (hl:ad.length≤9223372036854775807) (hx:∀ x∈ad,x.length≤9223372036854775807) (hb:s.length≤9223372036854775807):aj Tryz.prog G 88 [.sl (key.map bD),cx ad,.sl (s.map bD)] (.tup [.c (.d (.sl ((gj key ad s).map bD))),.c (.d (.int .i64 (fo key ad s)))]):=pZ (Xd G key ad s hk hl hx hb)
theorem w6 {key:List UInt8} {ad:List (List UInt8)} {n:Int} (h:key.length=32) (h2:ad.length≤16) (h3:∀ x∈ad,x.length≤65519) (h4:n≤65519):cJ key ad n=0:=by
  have:jc ad=false:=by
    unfold jc;rw[Y1];intro x hx;have:=h3 x hx
    simpa using this
  unfold cJ;rw[if_neg (by omega),if_neg (by omega),if_neg (by rw[this]; simp; omega)]
theorem Bv (key tag b:List UInt8):dE key tag (dE key tag b)=b:=M5 _ _ _
theorem nF {key b:List UInt8} {ad:List (List UInt8)} (h:cJ key ad b.length=0):dr key ad b=ch key ad b++dE key (ch key ad b) b:=if_pos h
theorem CP {key b:List UInt8} {ad:List (List UInt8)} (T:List UInt8):(ch key ad b++T).take 16=ch key ad b:=by
  rw[List.take_append_of_le_length (by rw[iY]; exact Ye _),X7 (by rw[iY]; exact Ye _)]
theorem CQ {key b:List UInt8} {ad:List (List UInt8)} (T:List UInt8):(ch key ad b++T).drop 16=T:=by
  have:=List.drop_left (l₁:=ch key ad b) (l₂:=T);rw[iY] at this;exact this
theorem Fj {key b:List UInt8} {ad:List (List UInt8)} (h:cJ key ad b.length=0):fo key ad (ch key ad b++dE key (ch key ad b) b)=0∧gj key ad (ch key ad b++dE key (ch key ad b) b)=b:=by
  have hl:(ch key ad b++dE key (ch key ad b) b).length=16+b.length:=by rw[X5,iY,jV]
  have he:cJ key ad (((ch key ad b++dE key (ch key ad b) b).length:Int)-16)=0:=by rw[hl,show ((16+b.length:Nat):Int)-16=(b.length:Int) by omega]; exact h
  obtain⟨e1,e2⟩:=JV he (by omega) (by rw[CP,CQ,Bv]);refine⟨e1,?_⟩;rw[e2,CP,CQ,Bv]
def qF:List UInt8:=[115,101,99,116,105,109,101,32,117,112]
def qG:List UInt8:=[115,101,99,116,105,109,101,32,100,111,119,110]
def gy:List UInt8:=[115,101,99,116,105,109,101,32,101,120,112,111,114,116]
structure Ch where
  cl:Bool
  se:List UInt8
  sk:List UInt8
  rk:List UInt8
  n:Int
  m:Int
def aT (c:Ch):D:=.agg [.bool c.cl,.sl (c.se.map bD),.sl (c.sk.map bD),.sl (c.rk.map bD),.int .i64 c.n,.int .i64 c.m]
def ee (K:List UInt8):List UInt8:=fp K qF 32
def eF (K:List UInt8):List UInt8:=fp K qG 32
theorem S6 (K:List UInt8):(ee K).length=32:=pR _ _ _
theorem S7 (K:List UInt8):(eF K).length=32:=pR _ _ _
def aJ (cl:Bool) (K:List UInt8) (n m:Int):Ch:=⟨cl,K,bif cl then ee K else eF K,bif cl then eF K else ee K,n,m⟩
def dR:Ch:=⟨false,[],[],[],0,0⟩
def cy (c:Ch):Prop:=c.se.length=32∧(0≤c.n∧c.n≤1099511627776)∧(0≤c.m∧c.m≤1099511627776)∧c.sk=(bif c.cl then ee c.se else eF c.se)∧c.rk=(bif c.cl then eF c.se else ee c.se)
instance (c:Ch):Decidable (cy c):=by unfold cy; exact inferInstance
theorem yN (cl:Bool) (K:List UInt8):(bif cl then ee K else eF K).length=32:=by
  cases cl
  ·rw[cond_false]; exact S7 K
  ·rw[cond_true]; exact S6 K
theorem Ve (cl:Bool) (K:List UInt8) (m n:Int):(aJ (!cl) K m n).rk=(bif cl then ee K else eF K):=by
  show (bif !cl then eF K else ee K)=_
  cases cl
  ·rw[Bool.not_false,cond_true,cond_false]
  ·rw[Bool.not_true,cond_false,cond_true]
theorem zL {c:Ch} (h:cy c):c.sk.length=32:=by
  obtain⟨_,_,_,e,_⟩:=h;rw[e];exact yN _ _
theorem zM {c:Ch} (h:cy c):c.rk.length=32:=by
  obtain⟨_,_,_,_,e⟩:=h;rw[e];have:=yN (!c.cl) c.se;cases hc:c.cl
  ·rw[hc,Bool.not_false,cond_true] at this;rw[cond_false]; exact this
  ·rw[hc,Bool.not_true,cond_false] at this;rw[cond_true]; exact this
def o8 (s:List UInt8):Int:=if s.length<16∨65535<s.length then 5 else 0
def o9 (cl:Bool) (s h:List UInt8):Ch:=if o8 s=0 then aJ cl (eC (bW h) s) 0 0 else dR
def bT (k:Int) (n:Nat):List UInt8:=UInt8.ofNat k.toNat::aP (n+16) 2
theorem mi (k:Int) (n:Nat):(bT k n).length=3:=rfl
def dz (n:Int) (h:List UInt8):List (List UInt8):=[aP n.toNat 8,h]
def fF (c:Ch) (k:Int) (b:List UInt8):Int:=if ¬ cy c then 3 else if k<0∨255<k then 4 else if 16384<b.length then 2 else if c.n=1099511627776 then 7 else 0
def u1 (c:Ch) (k:Int) (b:List UInt8):Ch:=if fF c k b=0 then ⟨c.cl,c.se,c.sk,c.rk,c.n+1,c.m⟩ else dR
def u4 (c:Ch) (k:Int) (b:List UInt8):List UInt8:=if fF c k b=0 then bT k b.length++dr c.sk (dz c.n (bT k b.length)) b else []
def mY (c:Ch) (r:List UInt8):Int:=fo c.rk (dz c.m (r.take 3)) (r.drop 3)
def gG (r:List UInt8):Int:=if r.length<3 then 1 else if r.length-3<aR (aI r 1 2) then 1 else if aR (aI r 1 2)<r.length-3∨16400<aR (aI r 1 2) then 2 else 0
def fG (c:Ch) (r:List UInt8):Int:=if ¬ cy c then 3 else if ¬ gG r=0 then gG r else if c.m=1099511627776 then 7 else if mY c r=0 then 0 else 6
def re (c:Ch) (r:List UInt8):Ch:=if fG c r=0 then ⟨c.cl,c.se,c.sk,c.rk,c.n,c.m+1⟩ else dR
def pb (c:Ch) (r:List UInt8):Int:=if fG c r=0 then ((r.getD 0 0).toNat:Int) else 0
def pc (c:Ch) (r:List UInt8):List UInt8:=if fG c r=0 then gj c.rk (dz c.m (r.take 3)) (r.drop 3) else []
def pd (c:Ch) (n:Int):Int:=if cy c then kL n else 3
def lS (c:Ch) (l x:List UInt8) (n:Int):List UInt8:=if cy c then ik c.se (fq gy l x) n else []
def iP (c:Ch) (f:List UInt8):Int:=if ¬ cy c then 3 else if f.length<16∨64<f.length then 5 else 0
def pf (c:Ch) (f:List UInt8):Ch:=if iP c f=0 then aJ c.cl (eC f c.se) 0 0 else dR
theorem kM {cl:Bool} {K:List UInt8} {n m:Int} (h:K.length=32) (h1:0≤n∧n≤1099511627776) (h2:0≤m∧m≤1099511627776):cy (aJ cl K n m):=⟨h,h1,h2,rfl,rfl⟩
theorem Mo {cl:Bool} {K f:List UInt8} {n m:Int} (h:K.length=32) (h1:0≤n∧n≤1099511627776) (h2:0≤m∧m≤1099511627776) (hf:16≤f.length∧f.length≤64):iP (aJ cl K n m) f=0∧pf (aJ cl K n m) f=aJ cl (eC f K) 0 0:=by
  have e:iP (aJ cl K n m) f=0:=by
    unfold iP;rw[if_neg (not_not_intro (kM h h1 h2)),if_neg (by omega)]
  exact⟨e,if_pos e⟩
theorem QY (k:Int) (n:Nat) (S:List UInt8):(bT k n++S).take 3=bT k n∧(bT k n++S).drop 3=S∧aI (bT k n++S) 1 2=aP (n+16) 2∧(bT k n++S).getD 0 0=UInt8.ofNat k.toNat:=by
  refine⟨List.take_left' (mi k n),List.drop_left' (mi k n),?_,rfl⟩;have:=me [UInt8.ofNat k.toNat] (aP (n+16) 2) S;rw[bN] at this;exact this
theorem HL {cl:Bool} {K b:List UInt8} {n m k:Int} (h:K.length=32) (h1:0≤n∧n<1099511627776) (h2:0≤m∧m≤1099511627776) (hk:0≤k∧k≤255) (hb:b.length≤16384) :
    ∃ R:List UInt8,(fF (aJ cl K n m) k b=0∧u1 (aJ cl K n m) k b=aJ cl K (n+1) m∧u4 (aJ cl K n m) k b=R∧R.length=b.length+19) ∧
      (fG (aJ (!cl) K m n) R=0∧re (aJ (!cl) K m n) R=aJ (!cl) K m (n+1)∧pb (aJ (!cl) K m n) R=k∧pc (aJ (!cl) K m n) R=b):=by
  have e:fF (aJ cl K n m) k b=0:=by
    unfold fF;rw[if_neg (not_not_intro (kM h ⟨h1.1,by omega⟩ h2)),if_neg (by omega),if_neg (by omega),if_neg (show ¬ (aJ cl K n m).n=1099511627776 from fun q=>absurd (show n=1099511627776 from q) (by omega))]
  have ks:(bif cl then ee K else eF K).length=32:=yN cl K;have kr:(aJ (!cl) K m n).rk=(bif cl then ee K else eF K):=Ve cl K m n;have ha:cJ (bif cl then ee K else eF K) (dz n (bT k b.length)) b.length=0:=w6 ks (show (2:Nat)≤16 by decide) (fun x hx=>by
    rcases Yi.1 hx with rfl | hx
    ·rw[bN]; decide
    ·rw[X9.1 hx,mi]; decide) (by omega)
  obtain⟨o1,o2⟩:=Fj ha;refine⟨_,⟨e,if_pos e,if_pos e,?_⟩,?_⟩
  ·show (bT k b.length++dr (bif cl then ee K else eF K) (dz n (bT k b.length)) b).length=_
   rw[nF ha,X5,X5,mi,iY,jV]; omega
  ·show fG _ (bT k b.length++dr (bif cl then ee K else eF K) (dz n (bT k b.length)) b)=0∧re _ (bT k b.length++dr (bif cl then ee K else eF K) (dz n (bT k b.length)) b)=_∧pb _ (bT k b.length++dr (bif cl then ee K else eF K) (dz n (bT k b.length)) b)=k∧pc _ (bT k b.length++dr (bif cl then ee K else eF K) (dz n (bT k b.length)) b)=b
   have hl:(dr (bif cl then ee K else eF K) (dz n (bT k b.length)) b).length=b.length+16:=by rw[nF ha,X5,iY,jV]; omega
   rw[← nF ha] at o1 o2;generalize dr (bif cl then ee K else eF K) (dz n (bT k b.length)) b=S at *
   obtain⟨t3,d3,c3,w3⟩:=QY k b.length S;have g3:aR (aI (bT k b.length++S) 1 2)=b.length+16:=by rw[c3,get_put 2 (by decide)]; omega
   have ll:(bT k b.length++S).length=b.length+19:=by rw[X5,mi,hl]; omega
   have hx:mY (aJ (!cl) K m n) (bT k b.length++S)=0:=by
     unfold mY;rw[t3,d3,kr];exact o1
   have pe:gG (bT k b.length++S)=0:=by
     unfold gG;rw[if_neg (by omega),if_neg (by omega),if_neg (by omega)]
   have e2:fG (aJ (!cl) K m n) (bT k b.length++S)=0:=by
     unfold fG;rw[if_neg (not_not_intro (kM h h2 ⟨h1.1,by omega⟩)),if_neg (not_not_intro pe),if_neg (show ¬ (aJ (!cl) K m n).m=1099511627776 from fun q=>absurd (show n=1099511627776 from q) (by omega)),if_pos hx]
   refine⟨e2,if_pos e2,?_,?_⟩
   ·unfold pb;rw[if_pos e2];rw[w3,UInt8.toNat_ofNat'];omega
   ·unfold pc;rw[if_pos e2,t3,d3,kr];exact o2
def u7:ByteArray:=⟨#[115,101,99,116,105,109,101,32,117,112]⟩
def u9:ByteArray:=⟨#[115,101,99,116,105,109,101,32,100,111,119,110]⟩
def rj (K:List UInt8):Nat→List D
  | 0=>[.sl [],.sl []]
  | 1=>[.sl ((ee K).map bD),.sl []]
  | _=>[.sl ((ee K).map bD),.sl ((eF K).map bD)]
def qX (cl:Bool) (K:List UInt8) (i:Nat):St:=⟨aY [(0,.w (.c (.d (.bool cl)))),(1,.w (.c (.d (.sl (K.map bD))))),(7,.w (.c (.pa 1 1))),(11,.w (.c (.d (.agg [.str u7,.str u9])))),(12,.w (.c (.d (.int .i64 (i:Int)))))],hL [(1,.row 1 (rj K i))],uL [1]⟩
def pV:aO := .seq (.reg [oO 13 (.bin .lss (.t 12) (kI 2))]) (.seq (.cond (.t 13) (.skip) (.exit 0)) (.seq (.block 1 (.seq (.reg [oM 14 12,oO 15 (.idxArr 1 2 .sc (.t 11) (.t 12)),oM 8 14,oM 9 15]) (.reg [oM 17 8,oM 18 1,oM 19 9,oO 20 (.s2b false (.t 19)),oO 21 (.call 128 [(.t 18),(.t 20),(kI 32)] none),oM 16 21,oO 22 (.extract (.t 16) 0),oO 23 (.extract (.t 16) 1),oO 24 (.idxPa 1 2 (.t 7) (.t 17)),oN (.store .sc (.t 24) (.t 22))]))) (.reg [oO 25 (.bin .add (.t 12) (kI 1)),oM 12 25])))
def Ki:aA:=⟨2,35,.seq (.reg [oO 4 (.mv (.k (.c .nil))),oO 5 (.mv (.k (.c .nil)))]) (.seq (.reg [oO 10 (.build [(.d (.str ⟨#[]⟩)),(.d (.str ⟨#[]⟩))] [(0,1,(.k (.c (.d (.str ⟨#[115,101,99,116,105,109,101,32,117,112]⟩))))),(1,1,(.k (.c (.d (.str ⟨#[115,101,99,116,105,109,101,32,100,111,119,110]⟩)))))]),oO 6 (.allocArr [(.str ⟨#[]⟩),(.str ⟨#[]⟩)]),oN (.store (.ag 2) (.t 6) (.t 10))]) (.seq (.reg [oO 7 (.allocArr [(.sl []),(.sl [])])]) (.seq (.seq (.reg [oO 11 (.load (.ag 2) (.t 6)),oO 12 (.mv (kI 0))]) (.block 0 (.loop pV))) (.seq (.seq (.reg [oM 26 0]) (.cond (.t 26) (.seq (.reg [oO 27 (.idxPa 1 2 (.t 7) (kI 0)),oO 28 (.load .sc (.t 27)),oO 29 (.idxPa 1 2 (.t 7) (kI 1)),oO 30 (.load .sc (.t 29)),oM 4 28,oM 5 30]) (.ret)) (.skip))) (.seq (.reg [oO 31 (.idxPa 1 2 (.t 7) (kI 1)),oO 32 (.load .sc (.t 31)),
 oO 33 (.idxPa 1 2 (.t 7) (kI 0)),oO 34 (.load .sc (.t 33)),oM 4 32,oM 5 34]) (.ret)))))),[(4,none),(5,none)]⟩
theorem Vn:aw Tryz.prog { own:=[],comp:=[],frz:=[],nils:=[] } Tryz.f103=some Ki:=by kernel_rfl
theorem Ly (G:ah) (hF:G.at 0=some (.ra (cQ.map wD))) (hG:G.at 1=some (.ra (bp.map wD))) (cl:Bool) (K:List UInt8) (hK:K.length≤140737488355328):aj Tryz.prog G 103 [.bool cl,.sl (K.map bD)] (.tup [.c (.d (.sl ((aJ cl K 0 0).sk.map bD))),.c (.d (.sl ((aJ cl K 0 0).rk.map bD)))]):=by
  refine aB Tryz.func103 Vn rfl rfl ?_;have s1:u7.size≤maxLen:=by unfold maxLen; decide
  have s2:u9.size≤maxLen:=by unfold maxLen; decide
  have c1:=zK G hF hG K u7.data.toList hK (by decide) 32 (by decide) (by decide);have c2:=zK G hF hG K u9.data.toList hK (by decide) 32 (by decide) (by decide);rw[show ik K u7.data.toList 32=ee K from j8 K qF (by decide),lh (by decide)] at c1;rw[show ik K u9.data.toList 32=eF K from j8 K qG (by decide),lh (by decide)] at c2;simp only[Ki,af,ae,aa,seval,iteOmega,toNatUp];refine bf (qX cl K) (fun i=>2-i) (fun i=>i≤2) 0 (by decide) ?_ ?_
  ·refine aD (fun i=>56) ?_ ?_ rfl rfl <;> simp only[wx,aC,aK,aa,seval,iteOmega,toNatUp] <;> first | rfl | exact⟨rfl,rfl⟩ | skip
  ·intro i hi;have h3:i=0∨i=1∨i=2:=by omega
   rcases h3 with rfl | rfl | rfl
   ·simp only[pV,qX,rj,ae,aa,seval,iteOmega,toNatUp,s1];refine sD (c1) ?_;refine a6 1 (by decide) (by decide) (aD (fun i=>i) ?_ ?_ rfl rfl) <;> simp only[wx,aC,aK,aa,seval,iteOmega,toNatUp] <;> first | rfl | exact⟨rfl,rfl⟩ | skip
   ·simp only[pV,qX,rj,ae,aa,seval,iteOmega,toNatUp,s2];refine sD (c2) ?_;refine a6 2 (by decide) (by decide) (aD (fun i=>i) ?_ ?_ rfl rfl) <;> simp only[wx,aC,aK,aa,seval,iteOmega,toNatUp] <;> first | rfl | exact⟨rfl,rfl⟩ | skip
   ·unfold aJ;cases cl
    ·rw[cond_false,cond_false];simp only[pV,qX,rj,ae,aa,seval,iteOmega,toNatUp];exact aW
    ·rw[cond_true,cond_true];simp only[pV,qX,rj,ae,aa,seval,iteOmega,toNatUp];exact aW
def Kj:aA:=⟨2,18,.seq (.reg [oO 4 (.alloc [(.d (.bool false)),.nil,.nil,.nil,(.d (.int .i64 0)),(.d (.int .i64 0))])]) (.seq (.reg [oM 8 0,oM 9 1,oO 10 (.call 103 [(.t 8),(.t 9)] none),oM 7 10,oO 11 (.extract (.t 7) 0),oO 12 (.extract (.t 7) 1),oM 5 11,oM 6 12]) (.seq (.reg [oM 13 0,oM 14 1,oM 15 5,oM 16 6,oO 17 (.build [(.d (.bool false)),.nil,.nil,.nil,(.d (.int .i64 0)),(.d (.int .i64 0))] [(0,1,(.t 13)),(1,1,(.t 14)),(2,1,(.t 15)),(3,1,(.t 16))]),oN (.store (.ag 6) (.t 4) (.t 17))]) (.ret))),[(4,(some (.ag 6)))]⟩
theorem Vo:aw Tryz.prog { own:=[],comp:=[],frz:=[],nils:=[] } Tryz.f96=some Kj:=by kernel_rfl
theorem Xm (G:ah) (hF:G.at 0=some (.ra (cQ.map wD))) (hG:G.at 1=some (.ra (bp.map wD))) (cl:Bool) (K:List UInt8) (hK:K.length≤140737488355328):aj Tryz.prog G 96 [.bool cl,.sl (K.map bD)] (.w (.c (.d (aT (aJ cl K 0 0))))):=by
  refine aB Tryz.func96 Vo rfl rfl ?_;have c:=Ly G hF hG cl K hK;unfold aT;generalize hs:(aJ cl K 0 0).sk=S at *
  generalize hr:(aJ cl K 0 0).rk=R at *
  rw[show (aJ cl K 0 0).cl=cl from rfl,show (aJ cl K 0 0).se=K from rfl,show (aJ cl K 0 0).n=0 from rfl,show (aJ cl K 0 0).m=0 from rfl];simp only[Kj,af,ae,aa,seval,iteOmega,toNatUp];refine sD (c) ?_;exact aF
def lX (n:Int):Bool:=decide (0≤n∧n≤1099511627776)
def tx:aA:=⟨1,9,.seq (.reg [oO 2 (.mv (.k (.c (.d (.bool false)))))]) (.seq (.reg [oM 3 0,oO 4 (.bin .leq (kI 0) (.t 3)),oM 5 4,oG 6 (.mv (.t 0)) 5 true,oG 7 (.bin .leq (.t 6) (kI 1099511627776)) 5 true,oO 8 (.pick (.t 5) (.t 7) (.k (.c (.d (.bool false))))),oM 2 8]) (.ret)),[(2,none)]⟩
theorem Vp:aw Tryz.prog { own:=[],comp:=[],frz:=[],nils:=[] } Tryz.f102=some tx:=by kernel_rfl
theorem Lz (G:ah) (n:Int):aj Tryz.prog G 102 [.int .i64 n] (.w (.c (.d (.bool (lX n))))):=by
  refine aB Tryz.func102 Vp rfl rfl ?_;unfold lX;by_cases h1:0≤n
  ·have g1:(0≤n)=True:=eq_true h1;by_cases h2:n≤1099511627776
   ·have g2:(n≤1099511627776)=True:=eq_true h2;rw[decide_eq_true (And.intro h1 h2)];simp only[tx,af,ae,aa,seval,iteOmega,toNatUp,g1,g2];exact aF
   ·have g2:(n≤1099511627776)=False:=eq_false h2;rw[decide_eq_false (fun h=>h2 h.2)];simp only[tx,af,ae,aa,seval,iteOmega,toNatUp,g1,g2];exact aF
  ·have g1:(0≤n)=False:=eq_false h1;rw[decide_eq_false (fun h=>h1 h.1)];simp only[tx,af,ae,aa,seval,iteOmega,toNatUp,g1];exact aF
theorem MF (c:Ch):decide (cy c)=(decide (c.se.length=32)&&lX c.n&&lX c.m&&(c.sk==(aJ c.cl c.se 0 0).sk)&&(c.rk==(aJ c.cl c.se 0 0).rk)):=by
  rw[Bool.eq_iff_iff];unfold cy lX aJ;simp only[decide_eq_true_eq,Ys,beq_iff_eq,and_assoc]
def nZ:aA:=⟨1,39,.seq (.reg [oO 1 (.box .roBox (.t 0)),oO 2 (.mv (.k (.c (.d (.bool false)))))]) (.seq (.seq (.reg [oO 5 (.fieldAddr 1 (.t 1)),oO 6 (.load .sc (.t 5)),oO 7 (.len (.t 6)),oO 8 (.bin .neq (.t 7) (kI 32)),oM 9 8,oG 10 (.fieldAddr 4 (.t 1)) 9 false,oG 11 (.load .sc (.t 10)) 9 false,oG 12 (.call 102 [(.t 11)] none) 9 false,oG 13 (.un .not (.t 12)) 9 false,oO 14 (.pick (.t 9) (.k (.c (.d (.bool true)))) (.t 13)),oM 15 14,oG 16 (.fieldAddr 5 (.t 1)) 15 false,oG 17 (.load .sc (.t 16)) 15 false,oG 18 (.call 102 [(.t 17)] none) 15 false,oG 19 (.un .not (.t 18)) 15 false,oO 20 (.pick (.t 15) (.k (.c (.d (.bool true)))) (.t 19))]) (.cond (.t 20) (.seq (.reg [oO 2 (.mv (.k (.c (.d (.bool false)))))]) (.ret)) (.skip))) (.seq (.reg [oO 22 (.fieldAddr 0 (.t 1)),oO 23 (.load .sc (.t 22)),
 oO 24 (.fieldAddr 1 (.t 1)),oO 25 (.load .sc (.t 24)),oO 26 (.call 103 [(.t 23),(.t 25)] none),oM 21 26,oO 27 (.extract (.t 21) 0),oO 28 (.extract (.t 21) 1),oM 3 27,oM 4 28]) (.seq (.reg [oO 29 (.fieldAddr 2 (.t 1)),oO 30 (.load .sc (.t 29)),oM 31 3,oO 32 (.call 104 [(.t 30),(.t 31)] none),oM 33 32,oG 34 (.fieldAddr 3 (.t 1)) 33 true,oG 35 (.load .sc (.t 34)) 33 true,oG 36 (.mv (.t 4)) 33 true,oG 37 (.call 104 [(.t 35),(.t 36)] none) 33 true,oO 38 (.pick (.t 33) (.t 37) (.k (.c (.d (.bool false))))),oM 2 38]) (.ret)))),[(2,none)]⟩
theorem Vq:aw Tryz.prog { own:=[],comp:=[],frz:=[],nils:=[] } Tryz.f62=some nZ:=by kernel_rfl
theorem mM (G:ah) (hF:G.at 0=some (.ra (cQ.map wD))) (hG:G.at 1=some (.ra (bp.map wD))) (c:Ch):aj Tryz.prog G 62 [aT c] (.w (.c (.d (.bool (decide (cy c)))))):=by
  refine aB Tryz.func62 Vq rfl rfl ?_;rw[MF];have c1:=Lz G c.n;have c2:=Lz G c.m;by_cases h:c.se.length=32
  ·have g:(((c.se.length:Nat):Int)=32)=True:=eq_true (by omega);have c3:=Ly G hF hG c.cl c.se (by omega);have c4:=tq G c.sk (aJ c.cl c.se 0 0).sk;have c5:=tq G c.rk (aJ c.cl c.se 0 0).rk;rw[decide_eq_true h];generalize (aJ c.cl c.se 0 0).sk=S at *
   generalize (aJ c.cl c.se 0 0).rk=R at *
   generalize (c.sk==S)=q1 at *
   generalize (c.rk==R)=q2 at *
   generalize lX c.n=q3 at *
   generalize lX c.m=q4 at *
   unfold aT;cases q3
   ·simp only[nZ,af,ae,aa,seval,iteOmega,toNatUp,g];refine sD (c1) ?_;exact aF
   ·cases q4
    ·simp only[nZ,af,ae,aa,seval,iteOmega,toNatUp,g];refine sD (c1) ?_;refine sD (c2) ?_;exact aF
    ·cases q1
     ·simp only[nZ,af,ae,aa,seval,iteOmega,toNatUp,g];refine sD (c1) ?_;refine sD (c2) ?_;refine sD (c3) ?_;refine sD (c4) ?_;exact aF
     ·simp only[nZ,af,ae,aa,seval,iteOmega,toNatUp,g];refine sD (c1) ?_;refine sD (c2) ?_;refine sD (c3) ?_;refine sD (c4) ?_;refine sD (c5) ?_;exact aF
  ·have g:(((c.se.length:Nat):Int)=32)=False:=eq_false (by omega);rw[decide_eq_false h];unfold aT;simp only[nZ,af,ae,aa,seval,iteOmega,toNatUp,g];exact aF
def va:ByteArray:=⟨#[115,101,99,116,105,109,101,32,101,120,112,111,114,116]⟩
def yT:aA:=⟨4,22,.seq (.reg [oO 4 (.box .roBox (.t 0)),oO 8 (.mv (.k (.c .nil))),oO 9 (.mv (kI 0))]) (.seq (.seq (.reg [oO 10 (.load (.ag 6) (.t 4)),oO 11 (.call 62 [(.t 10)] none),oO 12 (.un .not (.t 11))]) (.cond (.t 12) (.seq (.reg [oO 8 (.mv (.k (.c .nil))),oO 9 (.mv (kI 3))]) (.ret)) (.skip))) (.seq (.reg [oO 13 (.fieldAddr 1 (.t 4)),oO 14 (.load .sc (.t 13)),oM 15 1,oM 16 2,oO 17 (.call 130 [(.k (.c (.d (.str ⟨#[115,101,99,116,105,109,101,32,101,120,112,111,114,116]⟩)))),(.t 15),(.t 16)] none),oM 18 3,oO 19 (.call 128 [(.t 14),(.t 17),(.t 18)] none),oO 20 (.extract (.t 19) 0),oO 21 (.extract (.t 19) 1),oM 8 20,oM 9 21]) (.ret))),[(8,none),(9,none)]⟩
theorem Vr:aw Tryz.prog { own:=[],comp:=[],frz:=[],nils:=[] } Tryz.f105=some yT:=by kernel_rfl
theorem Xn (G:ah) (hF:G.at 0=some (.ra (cQ.map wD))) (hG:G.at 1=some (.ra (bp.map wD))) (c:Ch) (l:ByteArray) (x:List UInt8) (n:Int) (hl:l.size≤1099511627776) (hx:x.length≤140737488355328) (hn1:-9223372036854775808≤n) (hn2:n≤9223372036854775807):aj Tryz.prog G 105 [aT c,.str l,.sl (x.map bD),.int .i64 n] (.tup [.c (.d (.sl ((lS c l.data.toList x n).map bD))),.c (.d (.int .i64 (pd c n)))]):=by
  refine aB Tryz.func105 Vr rfl rfl ?_;have c1:=mM G hF hG c;unfold lS pd;by_cases h:cy c
  ·rw[decide_eq_true h] at c1;rw[if_pos h,if_pos h];have c2:=Xh G hF hG va l x (by decide) hl hx;rw[show va.data.toList=gy from rfl] at c2;have hs:l.data.toList.length=l.size:=rfl;have c3:=zK G hF hG c.se (fq gy l.data.toList x) (by rw[h.1]; decide) (by rw[Fv,hs]; have:gy.length=14:=rfl; omega) n hn1 hn2;generalize fq gy l.data.toList x=L at *
   generalize ik c.se L n=E at *
   generalize kL n=e at *
   unfold aT at *
   simp only[yT,af,ae,aa,seval,iteOmega,toNatUp];refine sD (c1) ?_;refine a8 c2 (by simp only[ae,aa,seval,iteOmega,toNatUp] <;> rfl) (.inl rfl) ?_;simp only[ae,aa,seval,iteOmega,toNatUp];refine sD (c3) ?_;exact aW
  ·rw[decide_eq_false h] at c1;rw[if_neg h,if_neg h];unfold aT at *
   simp only[yT,af,ae,aa,seval,iteOmega,toNatUp];refine sD (c1) ?_;exact aW
def qn:aA:=⟨2,26,.seq (.reg [oO 2 (.box .roBox (.t 0)),oO 4 (.alloc [(.d (.bool false)),.nil,.nil,.nil,(.d (.int .i64 0)),(.d (.int .i64 0))]),oO 5 (.mv (kI 0))]) (.seq (.seq (.reg [oO 6 (.load (.ag 6) (.t 2)),oO 7 (.call 62 [(.t 6)] none),oO 8 (.un .not (.t 7))]) (.cond (.t 8) (.seq (.reg [oO 9 (.build [(.d (.bool false)),.nil,.nil,.nil,(.d (.int .i64 0)),(.d (.int .i64 0))] []),oN (.store (.ag 6) (.t 4) (.t 9)),oO 5 (.mv (kI 3))]) (.ret)) (.skip))) (.seq (.seq (.reg [oM 10 1,oO 11 (.len (.t 10)),oO 12 (.bin .lss (.t 11) (kI 16)),oM 13 12,oG 14 (.mv (.t 1)) 13 false,oG 15 (.len (.t 14)) 13 false,oG 16 (.bin .gtr (.t 15) (kI 64)) 13 false,oO 17 (.pick (.t 13) (.k (.c (.d (.bool true)))) (.t 16))]) (.cond (.t 17) (.seq (.reg [oO 18 (.build [(.d (.bool false)),.nil,.nil,.nil,(.d (.int .i64 0)),(.d (.int .i64 0))] []),
 oN (.store (.ag 6) (.t 4) (.t 18)),oO 5 (.mv (kI 5))]) (.ret)) (.skip))) (.seq (.reg [oO 19 (.fieldAddr 0 (.t 2)),oO 20 (.load .sc (.t 19)),oM 21 1,oO 22 (.fieldAddr 1 (.t 2)),oO 23 (.load .sc (.t 22)),oO 24 (.call 97 [(.t 21),(.t 23)] none),oO 25 (.call 96 [(.t 20),(.t 24)] none),oN (.store (.ag 6) (.t 4) (.t 25)),oO 5 (.mv (kI 0))]) (.ret)))),[(4,(some (.ag 6))),(5,none)]⟩
theorem Vs:aw Tryz.prog { own:=[],comp:=[],frz:=[],nils:=[] } Tryz.f40=some qn:=by kernel_rfl
theorem LA (G:ah) (hF:G.at 0=some (.ra (cQ.map wD))) (hG:G.at 1=some (.ra (bp.map wD))) (c:Ch) (f:List UInt8) (hf:f.length≤9223372036854775807):aj Tryz.prog G 40 [aT c,.sl (f.map bD)] (.tup [.c (.d (aT (pf c f))),.c (.d (.int .i64 (iP c f)))]):=by
  refine aB Tryz.func40 Vs rfl rfl ?_;have c1:=mM G hF hG c;by_cases h:cy c
  ·rw[decide_eq_true h] at c1;by_cases h1:f.length<16
   ·have e:iP c f=5:=by unfold iP; rw[if_neg (not_not_intro h),if_pos (.inl h1)]
    rw[show pf c f=dR from if_neg (by rw[e]; decide),e];have g1:((f.length:Int)<16)=True:=eq_true (by omega);unfold aT dR at *
    simp only[qn,af,ae,aa,seval,iteOmega,toNatUp,g1];refine sC (c1) ?_;simp only[g1,ae,aa,seval,iteOmega,toNatUp];exact aW
   ·have g1:((f.length:Int)<16)=False:=eq_false (by omega);by_cases h2:64<f.length
    ·have e:iP c f=5:=by unfold iP; rw[if_neg (not_not_intro h),if_pos (.inr h2)]
     rw[show pf c f=dR from if_neg (by rw[e]; decide),e];have g2:((f.length:Int)>64)=True:=eq_true (by omega);unfold aT dR at *
     simp only[qn,af,ae,aa,seval,iteOmega,toNatUp,g1];refine sC (c1) ?_;simp only[g1,g2,ae,aa,seval,iteOmega,toNatUp];exact aW
    ·have g2:((f.length:Int)>64)=False:=eq_false (by omega);have e:iP c f=0:=by unfold iP; rw[if_neg (not_not_intro h),if_neg (by omega)]
     rw[show pf c f=aJ c.cl (eC f c.se) 0 0 from if_pos e,e];have c2:=Xg G hF hG f c.se (by omega) (by rw[h.1]; decide);have c3:=Xm G hF hG c.cl (eC f c.se) (by rw[lc]; decide);generalize aJ c.cl (eC f c.se) 0 0=C at *
     generalize eC f c.se=M at *
     unfold aT at *
     simp only[qn,af,ae,aa,seval,iteOmega,toNatUp,g1];refine sC (c1) ?_;simp only[g1,g2,ae,aa,seval,iteOmega,toNatUp];refine sD (c2) ?_;refine sD (c3) ?_;exact aW
  ·rw[decide_eq_false h] at c1;have e:iP c f=3:=if_pos h;rw[show pf c f=dR from if_neg (by rw[e]; decide),e];unfold aT dR at *
   simp only[qn,af,ae,aa,seval,iteOmega,toNatUp];refine sD (c1) ?_;exact aW
def Kl:aA:=⟨2,10,.seq (.reg [oO 4 (.mv (.k (.c .nil)))]) (.seq (.reg [oM 5 0,oO 6 (.conv .u64 (.t 5)),oO 7 (.call 91 [(.t 6),(kI 8)] none),oM 8 1,oO 9 (.bldSl false 2 1 (.sl []) [(0,(.t 7)),(1,(.t 8))]),oM 4 9]) (.ret)),[(4,none)]⟩
theorem Vu:aw Tryz.prog { own:=[],comp:=[],frz:=[],nils:=[] } Tryz.f93=some Kl:=by kernel_rfl
theorem LB (G:ah) (n:Int) (h:List UInt8) (hn:0≤n∧n≤9223372036854775807):aj Tryz.prog G 93 [.int .i64 n,.sl (h.map bD)] (.w (.c (.d (cx (dz n h))))):=by
  refine aB Tryz.func93 Vu rfl rfl ?_;obtain⟨a,rfl⟩:=YR hn.1;have c:=kf G a 8 (by decide);rw[show (8:Int).toNat=8 from rfl] at c;unfold dz cx;rw[show ((a:Nat):Int).toNat=a from rfl];generalize aP a 8=P at *
  simp only[Kl,af,ae,aa,seval,iteOmega,toNatUp,Ya,Yo];refine sD (c) ?_;exact aF
def Km:aA:=⟨3,30,.seq (.reg [oO 3 (.box .roBox (.t 0)),oO 6 (.alloc [(.d (.bool false)),.nil,.nil,.nil,(.d (.int .i64 0)),(.d (.int .i64 0))])]) (.seq (.reg [oO 7 (.fieldAddr 0 (.t 3)),oO 8 (.load .sc (.t 7)),oO 9 (.fieldAddr 1 (.t 3)),oO 10 (.load .sc (.t 9)),oO 11 (.bldSl false 1 1 (.sl []) [(0,(.t 10))]),oO 12 (.call 90 [(.t 11)] none),oO 13 (.fieldAddr 2 (.t 3)),oO 14 (.load .sc (.t 13)),oO 15 (.bldSl false 1 1 (.sl []) [(0,(.t 14))]),oO 16 (.call 90 [(.t 15)] none),oO 17 (.fieldAddr 3 (.t 3)),oO 18 (.load .sc (.t 17)),oO 19 (.bldSl false 1 1 (.sl []) [(0,(.t 18))]),oO 20 (.call 90 [(.t 19)] none),oO 21 (.fieldAddr 4 (.t 3)),oO 22 (.load .sc (.t 21)),oM 23 1,oO 24 (.bin .add (.t 22) (.t 23)),oO 25 (.fieldAddr 5 (.t 3)),oO 26 (.load .sc (.t 25)),oM 27 2,oO 28 (.bin .add (.t 26) (.t 27)),
 oO 29 (.build [(.d (.bool false)),.nil,.nil,.nil,(.d (.int .i64 0)),(.d (.int .i64 0))] [(0,1,(.t 8)),(1,1,(.t 12)),(2,1,(.t 16)),(3,1,(.t 20)),(4,1,(.t 24)),(5,1,(.t 28))]),oN (.store (.ag 6) (.t 6) (.t 29))]) (.ret)),[(6,(some (.ag 6)))]⟩
theorem Vv:aw Tryz.prog { own:=[],comp:=[],frz:=[],nils:=[] } Tryz.f94=some Km:=by kernel_rfl
theorem LC (G:ah) (c:Ch) (x y:Int) (h1:c.se.length≤140737488355328) (h2:c.sk.length≤140737488355328) (h3:c.rk.length≤140737488355328) (h4:0≤c.n∧c.n≤1099511627776) (h5:0≤c.m∧c.m≤1099511627776) (hx:0≤x∧x≤1) (hy:0≤y∧y≤1):aj Tryz.prog G 94 [aT c,.int .i64 x,.int .i64 y] (.w (.c (.d (aT ⟨c.cl,c.se,c.sk,c.rk,c.n+x,c.m+y⟩)))):=by
  refine aB Tryz.func94 Vv rfl rfl ?_;have c1:=dU G [c.se] (by simp) (by simp; omega);have c2:=dU G [c.sk] (by simp) (by simp; omega);have c3:=dU G [c.rk] (by simp) (by simp; omega);simp only[Ya,Yo,ZH,Zt,Ym] at c1 c2 c3;obtain⟨cl,se,sk,rk,n,m⟩:=c;dsimp only at *
  unfold aT;dsimp only;simp only[Km,af,ae,aa,seval,iteOmega,toNatUp];refine sD (c1) ?_;refine sD (c2) ?_;refine sD (c3) ?_;exact aF
def oa:aA:=⟨1,33,.seq (.reg [oO 2 (.mv (.k (.c .nil))),oO 3 (.mv (.k (.c .nil))),oO 4 (.mv (kI 0))]) (.seq (.reg [oM 8 0,oO 9 (.call 124 [(.t 8),(kI 3)] none),oM 7 9,oO 10 (.extract (.t 7) 0),oO 11 (.extract (.t 7) 1),oO 12 (.extract (.t 7) 2),oM 2 10,oM 3 11,oM 5 12]) (.seq (.seq (.reg [oM 13 5,oO 14 (.un .not (.t 13))]) (.cond (.t 14) (.seq (.reg [oO 2 (.mv (.k (.c .nil))),oO 3 (.mv (.k (.c .nil))),oO 4 (.mv (kI 1))]) (.ret)) (.skip))) (.seq (.reg [oM 15 2,oO 16 (.slice 1 (.t 15) (some (kI 1)) none none),oO 17 (.call 48 [(.t 16)] none),oO 18 (.conv .i64 (.t 17)),oM 6 18]) (.seq (.seq (.reg [oM 19 3,oO 20 (.len (.t 19)),oM 21 6,oO 22 (.bin .lss (.t 20) (.t 21))]) (.cond (.t 22) (.seq (.reg [oO 2 (.mv (.k (.c .nil))),oO 3 (.mv (.k (.c .nil))),oO 4 (.mv (kI 1))]) (.ret)) (.skip))) (.seq (.seq (.reg [oM 23 3,
 oO 24 (.len (.t 23)),oM 25 6,oO 26 (.bin .gtr (.t 24) (.t 25)),oM 27 26,oG 28 (.mv (.t 6)) 27 false,oG 29 (.bin .gtr (.t 28) (kI 16400)) 27 false,oO 30 (.pick (.t 27) (.k (.c (.d (.bool true)))) (.t 29))]) (.cond (.t 30) (.seq (.reg [oO 2 (.mv (.k (.c .nil))),oO 3 (.mv (.k (.c .nil))),oO 4 (.mv (kI 2))]) (.ret)) (.skip))) (.seq (.reg [oM 31 2,oM 32 3,oM 2 31,oM 3 32,oO 4 (.mv (kI 0))]) (.ret))))))),[(2,none),(3,none),(4,none)]⟩
theorem Vw:aw Tryz.prog { own:=[],comp:=[],frz:=[],nils:=[] } Tryz.f95=some oa:=by kernel_rfl
theorem Xo (G:ah) (r:List UInt8) (hr:r.length≤1099511627776):aj Tryz.prog G 95 [.sl (r.map bD)] (.tup [.c (.d (.sl ((if gG r=0 then r.take 3 else []).map bD))),.c (.d (.sl ((if gG r=0 then r.drop 3 else []).map bD))),.c (.d (.int .i64 (gG r)))]):=by
  refine aB Tryz.func95 Vw rfl rfl ?_;by_cases h1:r.length<3
  ·have e:gG r=1:=if_pos h1;rw[e,if_neg (by decide),if_neg (by decide)];have c1:=Vt G r 3 (.inr (by omega));simp only[oa,af,ae,aa,seval,iteOmega,toNatUp];refine sD (c1) ?_;exact iN
  ·have c1:=yU G r 3 (by omega) hr;have e1:(r.take 3).drop 1=aI r 1 2:=by unfold aI; rw[List.drop_take]
   have l1:(aI r 1 2).length=2:=jr (by omega);have t1:(aI r 1 2).take 2=aI r 1 2:=X7 (by omega);have c2:=jx G (aI r 1 2) (by omega);have b2:=(iV 2 (aI r 1 2) l1 (by decide)).1;have hl:(r.drop 3).length=r.length-3:=Yg;have l3:(r.take 3).length=3:=by simp; omega
   have pe:gG r=if r.length-3<aR (aI r 1 2) then 1 else if aR (aI r 1 2)<r.length-3∨16400<aR (aI r 1 2) then 2 else 0:=if_neg h1
   rw[← hl] at pe;generalize aR (aI r 1 2)=N at *
   generalize r.drop 3=S at *
   generalize hH:r.take 3=H at *
   by_cases h2:S.length<N
   ·rw[if_pos h2] at pe;rw[pe,if_neg (by decide),if_neg (by decide)];have g2:((S.length:Int)<(N:Int))=True:=eq_true (by omega);simp only[oa,af,ae,aa,seval,iteOmega,toNatUp];refine sC (c1) ?_;simp only[l3,e1,l1,t1,ae,aa,seval,iteOmega,toNatUp];refine sC (c2) ?_;simp only[g2,ae,aa,seval,iteOmega,toNatUp];exact iN
   ·rw[if_neg h2] at pe;have g2:((S.length:Int)<(N:Int))=False:=eq_false (by omega);by_cases h3:N<S.length
    ·rw[if_pos (.inl h3)] at pe;rw[pe,if_neg (by decide),if_neg (by decide)];have g3:((S.length:Int)>(N:Int))=True:=eq_true (by omega);simp only[oa,af,ae,aa,seval,iteOmega,toNatUp];refine sC (c1) ?_;simp only[l3,e1,l1,t1,ae,aa,seval,iteOmega,toNatUp];refine sC (c2) ?_;simp only[g2,g3,ae,aa,seval,iteOmega,toNatUp];exact iN
    ·have g3:((S.length:Int)>(N:Int))=False:=eq_false (by omega);by_cases h4:16400<N
     ·rw[if_pos (.inr h4)] at pe;rw[pe,if_neg (by decide),if_neg (by decide)];have g4:((N:Int)>16400)=True:=eq_true (by omega);simp only[oa,af,ae,aa,seval,iteOmega,toNatUp];refine sC (c1) ?_;simp only[l3,e1,l1,t1,ae,aa,seval,iteOmega,toNatUp];refine sC (c2) ?_;simp only[g2,g3,g4,ae,aa,seval,iteOmega,toNatUp];exact iN
     ·rw[if_neg (by omega)] at pe;rw[pe,if_pos rfl,if_pos rfl];have g4:((N:Int)>16400)=False:=eq_false (by omega);simp only[oa,af,ae,aa,seval,iteOmega,toNatUp];refine sC (c1) ?_;simp only[l3,e1,l1,t1,ae,aa,seval,iteOmega,toNatUp];refine sC (c2) ?_;simp only[g2,g3,g4,ae,aa,seval,iteOmega,toNatUp];exact iN
theorem qI {c:Ch} {k:Int} {b:List UInt8} {e:Int} (h:fF c k b=e) (he:e≠0):u1 c k b=dR∧u4 c k b=[]:=⟨if_neg (by rw[h]; exact he),if_neg (by rw[h]; exact he)⟩
def mz:aA:=⟨3,58,.seq (.reg [oO 3 (.box .roBox (.t 0)),oO 6 (.alloc [(.d (.bool false)),.nil,.nil,.nil,(.d (.int .i64 0)),(.d (.int .i64 0))]),oO 7 (.mv (.k (.c .nil))),oO 8 (.mv (kI 0))]) (.seq (.seq (.reg [oO 12 (.load (.ag 6) (.t 3)),oO 13 (.call 62 [(.t 12)] none),oO 14 (.un .not (.t 13))]) (.cond (.t 14) (.seq (.reg [oO 15 (.build [(.d (.bool false)),.nil,.nil,.nil,(.d (.int .i64 0)),(.d (.int .i64 0))] []),oN (.store (.ag 6) (.t 6) (.t 15)),oO 7 (.mv (.k (.c .nil))),oO 8 (.mv (kI 3))]) (.ret)) (.skip))) (.seq (.seq (.reg [oM 16 1,oO 17 (.bin .lss (.t 16) (kI 0)),oM 18 17,oG 19 (.mv (.t 1)) 18 false,oG 20 (.bin .geq (.t 19) (kI 256)) 18 false,oO 21 (.pick (.t 18) (.k (.c (.d (.bool true)))) (.t 20))]) (.cond (.t 21) (.seq (.reg [oO 22 (.build [(.d (.bool false)),.nil,.nil,.nil,(.d (.int .i64 0)),(.d (.int .i64 0))] []),
 oN (.store (.ag 6) (.t 6) (.t 22)),oO 7 (.mv (.k (.c .nil))),oO 8 (.mv (kI 4))]) (.ret)) (.skip))) (.seq (.seq (.reg [oM 23 2,oO 24 (.len (.t 23)),oO 25 (.bin .gtr (.t 24) (kI 16384))]) (.cond (.t 25) (.seq (.reg [oO 26 (.build [(.d (.bool false)),.nil,.nil,.nil,(.d (.int .i64 0)),(.d (.int .i64 0))] []),oN (.store (.ag 6) (.t 6) (.t 26)),oO 7 (.mv (.k (.c .nil))),oO 8 (.mv (kI 2))]) (.ret)) (.skip))) (.seq (.seq (.reg [oO 27 (.fieldAddr 4 (.t 3)),oO 28 (.load .sc (.t 27)),oO 29 (.bin .eql (.t 28) (kI 1099511627776))]) (.cond (.t 29) (.seq (.reg [oO 30 (.build [(.d (.bool false)),.nil,.nil,.nil,(.d (.int .i64 0)),(.d (.int .i64 0))] []),oN (.store (.ag 6) (.t 6) (.t 30)),oO 7 (.mv (.k (.c .nil))),oO 8 (.mv (kI 7))]) (.ret)) (.skip))) (.seq (.reg [oM 31 1,oO 32 (.conv .u64 (.t 31)),oO 33 (.call 91 [(.t 32),(kI 1)] none),
 oM 34 2,oO 35 (.len (.t 34)),oO 36 (.bin .add (.t 35) (kI 16)),oO 37 (.conv .u64 (.t 36)),oO 38 (.call 91 [(.t 37),(kI 2)] none),oO 39 (.bldSl false 2 1 (.sl []) [(0,(.t 33)),(1,(.t 38))]),oO 40 (.call 90 [(.t 39)] none),oM 9 40]) (.seq (.reg [oO 42 (.fieldAddr 2 (.t 3)),oO 43 (.load .sc (.t 42)),oO 44 (.fieldAddr 4 (.t 3)),oO 45 (.load .sc (.t 44)),oM 46 9,oO 47 (.call 93 [(.t 45),(.t 46)] none),oM 48 2,oO 49 (.call 92 [(.t 43),(.t 47),(.t 48)] none),oM 41 49,oO 50 (.extract (.t 41) 0),oO 51 (.extract (.t 41) 1),oM 10 50,oM 11 51]) (.seq (.reg [oO 52 (.load (.ag 6) (.t 3)),oO 53 (.call 94 [(.t 52),(kI 1),(kI 0)] none),oM 54 9,oM 55 10,oO 56 (.bldSl false 2 1 (.sl []) [(0,(.t 54)),(1,(.t 55))]),oO 57 (.call 90 [(.t 56)] none),oN (.store (.ag 6) (.t 6) (.t 53)),oM 7 57,oO 8 (.mv (kI 0))]) (.ret)))))))),
 [(6,(some (.ag 6))),(7,none),(8,none)]⟩
theorem Vx:aw Tryz.prog { own:=[],comp:=[],frz:=[],nils:=[] } Tryz.f37=some mz:=by kernel_rfl
theorem LD (G:ah) (hF:G.at 0=some (.ra (cQ.map wD))) (hG:G.at 1=some (.ra (bp.map wD))) (c:Ch) (k:Int) (b:List UInt8) (hb:b.length≤9223372036854775807):aj Tryz.prog G 37 [aT c,.int .i64 k,.sl (b.map bD)] (.tup [.c (.d (aT (u1 c k b))),.c (.d (.sl ((u4 c k b).map bD))),.c (.d (.int .i64 (fF c k b)))]):=by
  refine aB Tryz.func37 Vx rfl rfl ?_;have c1:=mM G hF hG c;by_cases h:cy c
  ·rw[decide_eq_true h] at c1;by_cases k1:k<0
   ·have g1:(k<0)=True:=eq_true k1;have e:fF c k b=4:=by unfold fF; rw[if_neg (not_not_intro h),if_pos (.inl k1)]
    obtain⟨q1,q2⟩:=qI e (by decide);rw[q1,q2,e];unfold aT dR at *
    simp only[mz,af,ae,aa,seval,iteOmega,toNatUp];refine sC (c1) ?_;simp only[g1,ae,aa,seval,iteOmega,toNatUp];exact iN
   ·have g1:(k<0)=False:=eq_false k1;by_cases k2:255<k
    ·have g2:(k≥256)=True:=eq_true (by omega);have e:fF c k b=4:=by unfold fF; rw[if_neg (not_not_intro h),if_pos (.inr k2)]
     obtain⟨q1,q2⟩:=qI e (by decide);rw[q1,q2,e];unfold aT dR at *
     simp only[mz,af,ae,aa,seval,iteOmega,toNatUp];refine sC (c1) ?_;simp only[g1,g2,ae,aa,seval,iteOmega,toNatUp];exact iN
    ·have g2:(k≥256)=False:=eq_false (by omega);by_cases h3:16384<b.length
     ·have g3:((b.length:Int)>16384)=True:=eq_true (by omega);have e:fF c k b=2:=by unfold fF; rw[if_neg (not_not_intro h),if_neg (by omega),if_pos h3]
      obtain⟨q1,q2⟩:=qI e (by decide);rw[q1,q2,e];unfold aT dR at *
      simp only[mz,af,ae,aa,seval,iteOmega,toNatUp];refine sC (c1) ?_;simp only[g1,g2,g3,ae,aa,seval,iteOmega,toNatUp];exact iN
     ·have g3:((b.length:Int)>16384)=False:=eq_false (by omega);by_cases h4:c.n=1099511627776
      ·have g4:(c.n=1099511627776)=True:=eq_true h4;have e:fF c k b=7:=by unfold fF; rw[if_neg (not_not_intro h),if_neg (by omega),if_neg h3,if_pos h4]
       obtain⟨q1,q2⟩:=qI e (by decide);rw[q1,q2,e];unfold aT dR at *
       simp only[mz,af,ae,aa,seval,iteOmega,toNatUp];refine sC (c1) ?_;simp only[g1,g2,g3,g4,ae,aa,seval,iteOmega,toNatUp];exact iN
      ·have g4:(c.n=1099511627776)=False:=eq_false h4;have e:fF c k b=0:=by unfold fF; rw[if_neg (not_not_intro h),if_neg (by omega),if_neg h3,if_neg h4]
       rw[show u1 c k b=_ from if_pos e,show u4 c k b=_ from if_pos e,e];obtain⟨a,ha⟩:=YR (show 0≤k by omega);have ha:k=(a:Int):=ha;subst ha;have c2:=kf G a 1 (by decide);have c3:=kf G (b.length+16) 2 (by decide);rw[show (1:Int).toNat=1 from rfl] at c2;rw[show (2:Int).toNat=2 from rfl] at c3;have c4:=dU G [aP a 1,aP (b.length+16) 2] (by simp) (by simp[bN]);rw[show [aP a 1,aP (b.length+16) 2].flatten=bT (a:Int) b.length from by simp[bT,Mn]] at c4;have c5:=LB G c.n (bT (a:Int) b.length) (by have:=h.2.1; omega);have c6:=JU G c.sk (dz c.n (bT (a:Int) b.length)) b (by rw[zL h]; decide) (show (2:Nat)≤_ by decide) (fun x hx=>by
         rcases Yi.1 hx with rfl | hx
         ·rw[bN]; decide
         ·rw[X9.1 hx,mi]; decide) (by omega)
       have c7:=LC G c 1 0 (by rw[h.1]; decide) (by rw[zL h]; decide) (by rw[zM h]; decide) h.2.1 h.2.2.1 (by decide) (by decide);rw[Int.add_zero] at c7;have hl:(dr c.sk (dz c.n (bT (a:Int) b.length)) b).length≤20000:=by
         unfold dr;split
         ·rw[X5,iY,jV]; omega
         ·exact Yd _
       have c8:=dU G [bT (a:Int) b.length,dr c.sk (dz c.n (bT (a:Int) b.length)) b] (by simp) (by simp[mi]; omega);rw[show [bT (a:Int) b.length,dr c.sk (dz c.n (bT (a:Int) b.length)) b].flatten=bT (a:Int) b.length++dr c.sk (dz c.n (bT (a:Int) b.length)) b from by simp] at c8;simp only[Ya,Yo] at c4 c8;generalize dr c.sk (dz c.n (bT (a:Int) b.length)) b=S at *
       generalize cJ c.sk (dz c.n (bT (a:Int) b.length)) b.length=q at *
       generalize cx (dz c.n (bT (a:Int) b.length))=A at *
       generalize bT (a:Int) b.length=H at *
       generalize aP a 1=P1 at *
       generalize aP (b.length+16) 2=P2 at *
       unfold aT at *
       dsimp only at c7;dsimp only;simp only[mz,af,ae,aa,seval,iteOmega,toNatUp];refine sC (c1) ?_;simp only[g1,g2,g3,g4,ae,aa,seval,iteOmega,toNatUp];refine sD (c2) ?_;refine sD (c3) ?_;refine sD (c4) ?_;refine sD (c5) ?_;refine sD (c6) ?_;refine sD (c7) ?_;refine sD (c8) ?_;exact iN
  ·rw[decide_eq_false h] at c1;have e:fF c k b=3:=if_pos h;obtain⟨q1,q2⟩:=qI e (by decide);rw[q1,q2,e];unfold aT dR at *
   simp only[mz,af,ae,aa,seval,iteOmega,toNatUp];refine sD (c1) ?_;exact iN
theorem uk {c:Ch} {r:List UInt8} {e:Int} (h:fG c r=e) (he:e≠0):re c r=dR∧pb c r=0∧pc c r=[]:=⟨if_neg (by rw[h]; exact he),if_neg (by rw[h]; exact he),if_neg (by rw[h]; exact he)⟩
theorem Vy {r:List UInt8} (h:gG r=0):3≤r.length∧r.length≤16403:=by
  unfold gG at h;by_cases h1:r.length<3
  ·rw[if_pos h1] at h; exact absurd h (by decide)
  ·rw[if_neg h1] at h;by_cases h2:r.length-3<aR (aI r 1 2)
   ·rw[if_pos h2] at h; exact absurd h (by decide)
   ·rw[if_neg h2] at h;by_cases h3:aR (aI r 1 2)<r.length-3∨16400<aR (aI r 1 2)
    ·rw[if_pos h3] at h; exact absurd h (by decide)
    ·omega
theorem Xp {r:List UInt8} (h:3≤r.length):(r.take 3).take 1=[r.getD 0 0]:=by
  match r,h with
  | a::b::c::l,_=>rfl
def oc:aA:=⟨2,49,.seq (.reg [oO 2 (.box .roBox (.t 0)),oO 4 (.alloc [(.d (.bool false)),.nil,.nil,.nil,(.d (.int .i64 0)),(.d (.int .i64 0))]),oO 5 (.mv (kI 0)),oO 6 (.mv (.k (.c .nil))),oO 7 (.mv (kI 0))]) (.seq (.seq (.reg [oO 10 (.load (.ag 6) (.t 2)),oO 11 (.call 62 [(.t 10)] none),oO 12 (.un .not (.t 11))]) (.cond (.t 12) (.seq (.reg [oO 13 (.build [(.d (.bool false)),.nil,.nil,.nil,(.d (.int .i64 0)),(.d (.int .i64 0))] []),oN (.store (.ag 6) (.t 4) (.t 13)),oO 5 (.mv (kI 0)),oO 6 (.mv (.k (.c .nil))),oO 7 (.mv (kI 3))]) (.ret)) (.skip))) (.seq (.reg [oM 15 1,oO 16 (.call 95 [(.t 15)] none),oM 14 16,oO 17 (.extract (.t 14) 0),oO 18 (.extract (.t 14) 1),oO 19 (.extract (.t 14) 2),oM 8 17,oM 9 18,oM 7 19]) (.seq (.seq (.reg [oM 20 7,oO 21 (.bin .neq (.t 20) (kI 0))]) (.cond (.t 21) (.seq (.reg [oO 22 (.build [(.d (.bool false)),.nil,.nil,.nil,(.d (.int .i64 0)),(.d (.int .i64 0))] []),
 oM 23 7,oN (.store (.ag 6) (.t 4) (.t 22)),oO 5 (.mv (kI 0)),oO 6 (.mv (.k (.c .nil))),oM 7 23]) (.ret)) (.skip))) (.seq (.seq (.reg [oO 24 (.fieldAddr 5 (.t 2)),oO 25 (.load .sc (.t 24)),oO 26 (.bin .eql (.t 25) (kI 1099511627776))]) (.cond (.t 26) (.seq (.reg [oO 27 (.build [(.d (.bool false)),.nil,.nil,.nil,(.d (.int .i64 0)),(.d (.int .i64 0))] []),oN (.store (.ag 6) (.t 4) (.t 27)),oO 5 (.mv (kI 0)),oO 6 (.mv (.k (.c .nil))),oO 7 (.mv (kI 7))]) (.ret)) (.skip))) (.seq (.reg [oO 29 (.fieldAddr 3 (.t 2)),oO 30 (.load .sc (.t 29)),oO 31 (.fieldAddr 5 (.t 2)),oO 32 (.load .sc (.t 31)),oM 33 8,oO 34 (.call 93 [(.t 32),(.t 33)] none),oM 35 9,oO 36 (.call 88 [(.t 30),(.t 34),(.t 35)] none),oM 28 36,oO 37 (.extract (.t 28) 0),oO 38 (.extract (.t 28) 1),oM 6 37,oM 7 38]) (.seq (.seq (.reg [oM 39 7,
 oO 40 (.bin .neq (.t 39) (kI 0))]) (.cond (.t 40) (.seq (.reg [oO 41 (.build [(.d (.bool false)),.nil,.nil,.nil,(.d (.int .i64 0)),(.d (.int .i64 0))] []),oN (.store (.ag 6) (.t 4) (.t 41)),oO 5 (.mv (kI 0)),oO 6 (.mv (.k (.c .nil))),oO 7 (.mv (kI 6))]) (.ret)) (.skip))) (.seq (.reg [oO 42 (.load (.ag 6) (.t 2)),oO 43 (.call 94 [(.t 42),(kI 0),(kI 1)] none),oM 44 8,oO 45 (.slice 1 (.t 44) none (some (kI 1)) none),oO 46 (.call 48 [(.t 45)] none),oO 47 (.conv .i64 (.t 46)),oM 48 6,oN (.store (.ag 6) (.t 4) (.t 43)),oM 5 47,oM 6 48,oO 7 (.mv (kI 0))]) (.ret)))))))),[(4,(some (.ag 6))),(5,none),(6,none),(7,none)]⟩
theorem Vz:aw Tryz.prog { own:=[],comp:=[],frz:=[],nils:=[] } Tryz.f38=some oc:=by kernel_rfl
theorem LE (G:ah) (hF:G.at 0=some (.ra (cQ.map wD))) (hG:G.at 1=some (.ra (bp.map wD))) (c:Ch) (r:List UInt8) (hr:r.length≤1099511627776):aj Tryz.prog G 38 [aT c,.sl (r.map bD)] (.tup [.c (.d (aT (re c r))),.c (.d (.int .i64 (pb c r))),.c (.d (.sl ((pc c r).map bD))),.c (.d (.int .i64 (fG c r)))]):=by
  refine aB Tryz.func38 Vz rfl rfl ?_;have c1:=mM G hF hG c;have c2:=Xo G r hr;by_cases h:cy c
  ·rw[decide_eq_true h] at c1;by_cases h1:gG r=0
   ·rw[if_pos h1,if_pos h1,h1] at c2;by_cases h4:c.m=1099511627776
    ·have g4:(c.m=1099511627776)=True:=eq_true h4;have e:fG c r=7:=by unfold fG; rw[if_neg (not_not_intro h),if_neg (not_not_intro h1),if_pos h4]
     obtain⟨q1,q2,q3⟩:=uk e (by decide);rw[q1,q2,q3,e];unfold aT dR at *
     simp only[oc,af,ae,aa,seval,iteOmega,toNatUp];refine sD (c1) ?_;refine sC (c2) ?_;simp only[g4,ae,aa,seval,iteOmega,toNatUp];exact q9
    ·have g4:(c.m=1099511627776)=False:=eq_false h4;obtain⟨l1,l2⟩:=Vy h1;have l3:(r.take 3).length=3:=by simp; omega
     have c3:=LB G c.m (r.take 3) (by have:=h.2.2.1; omega);have c4:=Lu G c.rk (dz c.m (r.take 3)) (r.drop 3) (by rw[zM h]; decide) (show (2:Nat)≤_ by decide) (fun x hx=>by
       rcases Yi.1 hx with rfl | hx
       ·rw[bN]; decide
       ·rw[X9.1 hx,l3]; decide) (by simp; omega)
     rw[show fo c.rk (dz c.m (r.take 3)) (r.drop 3)=mY c r from rfl] at c4;by_cases x0:mY c r=0
     ·have e:fG c r=0:=by unfold fG; rw[if_neg (not_not_intro h),if_neg (not_not_intro h1),if_neg h4,if_pos x0]
      rw[show re c r=_ from if_pos e,show pb c r=_ from if_pos e,show pc c r=_ from if_pos e,e];rw[x0] at c4;have c5:=LC G c 0 1 (by rw[h.1]; decide) (by rw[zL h]; decide) (by rw[zM h]; decide) h.2.1 h.2.2.1 (by decide) (by decide);rw[Int.add_zero] at c5;have c6:=jx G [r.getD 0 0] (show (1:Nat)≤_ by decide);have hb:=(r.getD 0 0).toNat_lt;rw[show aR [r.getD 0 0]=(r.getD 0 0).toNat from by simp only[aR,List.foldl]; omega] at c6;have t1:=Xp l1;generalize r.getD 0 0=x at *
      generalize gj c.rk (dz c.m (r.take 3)) (r.drop 3)=B at *
      generalize cx (dz c.m (r.take 3))=A at *
      generalize r.take 3=H at *
      generalize r.drop 3=S at *
      unfold aT at *
      dsimp only at c5;dsimp only;simp only[oc,af,ae,aa,seval,iteOmega,toNatUp];refine sD (c1) ?_;refine sC (c2) ?_;simp only[g4,ae,aa,seval,iteOmega,toNatUp];refine sD (c3) ?_;refine sD (c4) ?_;refine sC (c5) ?_;simp only[l3,t1,ae,aa,seval,iteOmega,toNatUp];refine sD (c6) ?_;exact q9
     ·have gx:(mY c r=0)=False:=eq_false x0;have e:fG c r=6:=by unfold fG; rw[if_neg (not_not_intro h),if_neg (not_not_intro h1),if_neg h4,if_neg x0]
      obtain⟨q1,q2,q3⟩:=uk e (by decide);rw[q1,q2,q3,e];generalize mY c r=X at *
      generalize gj c.rk (dz c.m (r.take 3)) (r.drop 3)=B at *
      generalize cx (dz c.m (r.take 3))=A at *
      generalize r.take 3=H at *
      generalize r.drop 3=S at *
      unfold aT dR at *
      simp only[oc,af,ae,aa,seval,iteOmega,toNatUp];refine sD (c1) ?_;refine sC (c2) ?_;simp only[g4,ae,aa,seval,iteOmega,toNatUp];refine sD (c3) ?_;refine sC (c4) ?_;simp only[gx,ae,aa,seval,iteOmega,toNatUp];exact q9
   ·have g1:(gG r=0)=False:=eq_false h1;rw[if_neg h1,if_neg h1] at c2;have e:fG c r=gG r:=by unfold fG; rw[if_neg (not_not_intro h),if_pos h1]
    obtain⟨q1,q2,q3⟩:=uk e h1;rw[q1,q2,q3,e];generalize gG r=p at *
    unfold aT dR at *
    simp only[oc,af,ae,aa,seval,iteOmega,toNatUp];refine sD (c1) ?_;refine sC (c2) ?_;simp only[g1,ae,aa,seval,iteOmega,toNatUp];exact q9
  ·rw[decide_eq_false h] at c1;have e:fG c r=3:=if_pos h;obtain⟨q1,q2,q3⟩:=uk e (by decide);rw[q1,q2,q3,e];unfold aT dR at *
   simp only[oc,af,ae,aa,seval,iteOmega,toNatUp];refine sD (c1) ?_;exact q9
def yV:aA:=⟨2,32,.seq (.reg [oO 4 (.alloc [(.d (.bool false)),.nil,.nil,.nil,(.d (.int .i64 0)),(.d (.int .i64 0))])]) (.seq (.reg [oM 10 1,oO 11 (.bldSl true 10 1 (.int .u8 0) [(0,(.k (.c (.d (.int .u8 115))))),(1,(.k (.c (.d (.int .u8 101))))),(2,(.k (.c (.d (.int .u8 99))))),(3,(.k (.c (.d (.int .u8 116))))),(4,(.k (.c (.d (.int .u8 105))))),(5,(.k (.c (.d (.int .u8 109))))),(6,(.k (.c (.d (.int .u8 101))))),(7,(.k (.c (.d (.int .u8 32))))),(8,(.k (.c (.d (.int .u8 117))))),(9,(.k (.c (.d (.int .u8 112)))))]),oO 12 (.markF (.t 11)),oO 13 (.call 101 [(.t 10),(.t 12),(kI 32)] none),oM 9 13,oO 14 (.extract (.t 9) 0),oO 15 (.extract (.t 9) 1),oM 5 14,oM 6 15]) (.seq (.reg [oM 17 1,oO 18 (.bldSl true 12 1 (.int .u8 0) [(0,(.k (.c (.d (.int .u8 115))))),(1,(.k (.c (.d (.int .u8 101))))),(2,(.k (.c (.d (.int .u8 99))))),(3,(.k (.c (.d (.int .u8 116))))),(4,(.k (.c (.d (.int .u8 105))))),(5,(.k (.c (.d (.int .u8 109))))),(6,(.k (.c (.d (.int .u8 101))))),(7,(.k (.c (.d (.int .u8 32))))),(8,(.k (.c (.d (.int .u8 100))))),(9,(.k (.c (.d (.int .u8 111))))),(10,(.k (.c (.d (.int .u8 119))))),(11,(.k (.c (.d (.int .u8 110)))))]),
 oO 19 (.markF (.t 18)),oO 20 (.call 101 [(.t 17),(.t 19),(kI 32)] none),oM 16 20,oO 21 (.extract (.t 16) 0),oO 22 (.extract (.t 16) 1),oM 7 21,oM 8 22]) (.seq (.seq (.reg [oM 23 0]) (.cond (.t 23) (.seq (.reg [oM 24 1,oM 25 5,oM 26 7,oO 27 (.build [(.d (.bool false)),.nil,.nil,.nil,(.d (.int .i64 0)),(.d (.int .i64 0))] [(0,1,(.k (.c (.d (.bool true))))),(1,1,(.t 24)),(2,1,(.t 25)),(3,1,(.t 26))]),oN (.store (.ag 6) (.t 4) (.t 27))]) (.ret)) (.skip))) (.seq (.reg [oM 28 1,oM 29 7,oM 30 5,oO 31 (.build [(.d (.bool false)),.nil,.nil,.nil,(.d (.int .i64 0)),(.d (.int .i64 0))] [(1,1,(.t 28)),(2,1,(.t 29)),(3,1,(.t 30))]),oN (.store (.ag 6) (.t 4) (.t 31))]) (.ret))))),[(4,(some (.ag 6)))]⟩
theorem VA:aw Tryz.prog { own:=[11,18],comp:=[],frz:=[12,19],nils:=[] } Tryz.f98=some yV:=by kernel_rfl
theorem LF (G:ah) (cl:Bool) (K:List UInt8) (hK:K.length≤140737488355328):aj Tryz.prog G 98 [.bool cl,.sl (K.map bD)] (.w (.c (.d (aT (aJ cl K 0 0))))):=by
  refine aB Tryz.func98 VA rfl rfl ?_;have c1:=tw G K qF hK (by decide) 32 (by decide) (by decide);have c2:=tw G K qG hK (by decide) 32 (by decide) (by decide);rw[show ik K qF 32=ee K from j8 K qF (by decide),lh (by decide)] at c1;rw[show ik K qG 32=eF K from j8 K qG (by decide),lh (by decide)] at c2;unfold aT aJ;dsimp only;generalize ee K=U at *
  generalize eF K=W at *
  cases cl
  ·rw[cond_false,cond_false];simp only[yV,af,ae,aa,seval,iteOmega,toNatUp];refine a8 c1 (by simp only[ae,aa,seval,iteOmega,toNatUp] <;> rfl) (.inl rfl) ?_;simp only[ae,aa,seval,iteOmega,toNatUp];refine a8 c2 (by simp only[ae,aa,seval,iteOmega,toNatUp] <;> rfl) (.inl rfl) ?_;simp only[ae,aa,seval,iteOmega,toNatUp];exact aF
  ·rw[cond_true,cond_true];simp only[yV,af,ae,aa,seval,iteOmega,toNatUp];refine a8 c1 (by simp only[ae,aa,seval,iteOmega,toNatUp] <;> rfl) (.inl rfl) ?_;simp only[ae,aa,seval,iteOmega,toNatUp];refine a8 c2 (by simp only[ae,aa,seval,iteOmega,toNatUp] <;> rfl) (.inl rfl) ?_;simp only[ae,aa,seval,iteOmega,toNatUp];exact aF
def tA:aA:=⟨3,23,.seq (.reg [oO 6 (.alloc [(.d (.bool false)),.nil,.nil,.nil,(.d (.int .i64 0)),(.d (.int .i64 0))]),oO 7 (.mv (kI 0))]) (.seq (.seq (.reg [oM 8 1,oO 9 (.len (.t 8)),oO 10 (.bin .lss (.t 9) (kI 16)),oM 11 10,oG 12 (.mv (.t 1)) 11 false,oG 13 (.len (.t 12)) 11 false,oG 14 (.bin .gtr (.t 13) (kI 65535)) 11 false,oO 15 (.pick (.t 11) (.k (.c (.d (.bool true)))) (.t 14))]) (.cond (.t 15) (.seq (.reg [oO 16 (.build [(.d (.bool false)),.nil,.nil,.nil,(.d (.int .i64 0)),(.d (.int .i64 0))] []),oN (.store (.ag 6) (.t 6) (.t 16)),oO 7 (.mv (kI 5))]) (.ret)) (.skip))) (.seq (.reg [oM 17 0,oM 18 2,oO 19 (.call 84 [(.t 18)] none),oM 20 1,oO 21 (.call 100 [(.t 19),(.t 20)] none),oO 22 (.call 98 [(.t 17),(.t 21)] none),oN (.store (.ag 6) (.t 6) (.t 22)),oO 7 (.mv (kI 0))]) (.ret))),
 [(6,(some (.ag 6))),(7,none)]⟩
theorem VB:aw Tryz.prog { own:=[],comp:=[],frz:=[],nils:=[] } Tryz.f58=some tA:=by kernel_rfl
theorem LG (G:ah) (cl:Bool) (s h:List UInt8) (hs:s.length≤9223372036854775807) (hh:h.length≤140737488355328):aj Tryz.prog G 58 [.bool cl,.sl (s.map bD),.sl (h.map bD)] (.tup [.c (.d (aT (o9 cl s h))),.c (.d (.int .i64 (o8 s)))]):=by
  refine aB Tryz.func58 VB rfl rfl ?_;by_cases h1:s.length<16
  ·have e:o8 s=5:=if_pos (.inl h1);rw[show o9 cl s h=dR from if_neg (by rw[e]; decide),e];have g1:((s.length:Int)<16)=True:=eq_true (by omega);unfold aT dR;simp only[tA,af,ae,aa,seval,iteOmega,toNatUp,g1];exact aW
  ·have g1:((s.length:Int)<16)=False:=eq_false (by omega);by_cases h2:65535<s.length
   ·have e:o8 s=5:=if_pos (.inr h2);rw[show o9 cl s h=dR from if_neg (by rw[e]; decide),e];have g2:((s.length:Int)>65535)=True:=eq_true (by omega);unfold aT dR;simp only[tA,af,ae,aa,seval,iteOmega,toNatUp,g1,g2];exact aW
   ·have e:o8 s=0:=if_neg (by omega);rw[show o9 cl s h=aJ cl (eC (bW h) s) 0 0 from if_pos e,e];have g2:((s.length:Int)>65535)=False:=eq_false (by omega);have c1:=nY G h hh;have c2:=U9 G (bW h) s (by rw[fY]; decide) (by omega);have c3:=LF G cl (eC (bW h) s) (by rw[lc]; decide);generalize aJ cl (eC (bW h) s) 0 0=C at *
    generalize eC (bW h) s=M at *
    generalize bW h=H at *
    unfold aT at *
    simp only[tA,af,ae,aa,seval,iteOmega,toNatUp,g1,g2];refine sD (c1) ?_;refine sD (c2) ?_;refine sD (c3) ?_;exact aW
def eS (s:Int):List UInt8:=eC (bW (aS s 20)) (aS s 32)
theorem HS (s:Int):(eS s).length=32:=lc _ _
def Ko:aA:=⟨1,26,.seq (.reg [oO 2 (.alloc [(.d (.bool false)),.nil,.nil,.nil,(.d (.int .i64 0)),(.d (.int .i64 0))]),oO 3 (.alloc [(.d (.bool false)),.nil,.nil,.nil,(.d (.int .i64 0)),(.d (.int .i64 0))])]) (.seq (.reg [oM 9 0,oO 10 (.call 59 [(.t 9)] none),oM 11 0,oO 12 (.call 35 [(.t 11),(kI 20)] none),oO 13 (.call 58 [(.k (.c (.d (.bool true)))),(.t 10),(.t 12)] none),oM 8 13,oO 14 (.extract (.t 8) 0),oO 15 (.extract (.t 8) 1),oO 4 (.alloc [(.d (.bool false)),.nil,.nil,.nil,(.d (.int .i64 0)),(.d (.int .i64 0))]),oN (.store (.ag 6) (.t 4) (.t 14)),oM 5 15]) (.seq (.reg [oM 17 0,oO 18 (.call 59 [(.t 17)] none),oM 19 0,oO 20 (.call 35 [(.t 19),(kI 20)] none),oO 21 (.call 58 [(.k (.c (.d (.bool false)))),(.t 18),(.t 20)] none),oM 16 21,oO 22 (.extract (.t 16) 0),oO 23 (.extract (.t 16) 1),
 oO 6 (.alloc [(.d (.bool false)),.nil,.nil,.nil,(.d (.int .i64 0)),(.d (.int .i64 0))]),oN (.store (.ag 6) (.t 6) (.t 22)),oM 7 23]) (.seq (.reg [oO 24 (.loadX (.ag 6) (.t 4) [(.t 2),(.t 3)]),oO 25 (.loadX (.ag 6) (.t 6) [(.t 2),(.t 3)]),oN (.store (.ag 6) (.t 2) (.t 24)),oN (.store (.ag 6) (.t 3) (.t 25))]) (.ret)))),[(2,(some (.ag 6))),(3,(some (.ag 6)))]⟩
theorem VC:aw Tryz.prog { own:=[],comp:=[],frz:=[],nils:=[],lx:=[(24,[2,3]),(25,[2,3])] } Tryz.f23=some Ko:=by kernel_rfl
theorem LH (G:ah) (s:Int):aj Tryz.prog G 23 [.int .i64 s] (.tup [.c (.d (aT (aJ true (eS s) 0 0))),.c (.d (aT (aJ false (eS s) 0 0)))]):=by
  refine aB Tryz.func23 VC rfl rfl ?_;have c1:=Kn G s;have c2:=nG G s 20 (by decide);have l1:(aS s 32).length=32:=k8 _ _;have l2:(aS s 20).length=20:=k8 _ _;have e:o8 (aS s 32)=0:=if_neg (by omega);have c3:=LG G true (aS s 32) (aS s 20) (by omega) (by omega);have c4:=LG G false (aS s 32) (aS s 20) (by omega) (by omega);rw[show o9 true (aS s 32) (aS s 20)=aJ true (eS s) 0 0 from if_pos e,e] at c3;rw[show o9 false (aS s 32) (aS s 20)=aJ false (eS s) 0 0 from if_pos e,e] at c4;generalize aS s 32=B1 at *
  generalize aS s 20=B2 at *
  generalize aJ true (eS s) 0 0=X at *
  generalize aJ false (eS s) 0 0=Y at *
  unfold aT at *
  simp only[Ko,af,ae,aa,seval,iteOmega,toNatUp];refine sD (c1) ?_;refine sD (c2) ?_;refine sD (c3) ?_;refine sD (c1) ?_;refine sD (c2) ?_;refine sD (c4) ?_;exact aW
def lw:aA:=⟨1,45,.seq (.reg [oO 1 (.box .roBox (.t 0)),oO 2 (.mv (.k (.c (.d (.bool false)))))]) (.seq (.seq (.reg [oO 4 (.fieldAddr 1 (.t 1)),oO 5 (.load .sc (.t 4)),oO 6 (.len (.t 5)),oO 7 (.bin .neq (.t 6) (kI 32)),oM 8 7,oG 9 (.fieldAddr 4 (.t 1)) 8 false,oG 10 (.load .sc (.t 9)) 8 false,oG 11 (.bin .lss (.t 10) (kI 0)) 8 false,oO 12 (.pick (.t 8) (.k (.c (.d (.bool true)))) (.t 11)),oM 13 12,oG 14 (.fieldAddr 4 (.t 1)) 13 false,oG 15 (.load .sc (.t 14)) 13 false,oG 16 (.bin .gtr (.t 15) (kI 1099511627776)) 13 false,oO 17 (.pick (.t 13) (.k (.c (.d (.bool true)))) (.t 16)),oM 18 17,oG 19 (.fieldAddr 5 (.t 1)) 18 false,oG 20 (.load .sc (.t 19)) 18 false,oG 21 (.bin .lss (.t 20) (kI 0)) 18 false,oO 22 (.pick (.t 18) (.k (.c (.d (.bool true)))) (.t 21)),oM 23 22,oG 24 (.fieldAddr 5 (.t 1)) 23 false,
 oG 25 (.load .sc (.t 24)) 23 false,oG 26 (.bin .gtr (.t 25) (kI 1099511627776)) 23 false,oO 27 (.pick (.t 23) (.k (.c (.d (.bool true)))) (.t 26))]) (.cond (.t 27) (.seq (.reg [oO 2 (.mv (.k (.c (.d (.bool false)))))]) (.ret)) (.skip))) (.seq (.reg [oO 28 (.fieldAddr 0 (.t 1)),oO 29 (.load .sc (.t 28)),oO 30 (.fieldAddr 1 (.t 1)),oO 31 (.load .sc (.t 30)),oO 32 (.call 98 [(.t 29),(.t 31)] none),oO 3 (.alloc [(.d (.bool false)),.nil,.nil,.nil,(.d (.int .i64 0)),(.d (.int .i64 0))]),oN (.store (.ag 6) (.t 3) (.t 32))]) (.seq (.reg [oO 33 (.fieldAddr 2 (.t 3)),oO 34 (.load .sc (.t 33)),oO 35 (.fieldAddr 2 (.t 1)),oO 36 (.load .sc (.t 35)),oO 37 (.call 20 [(.t 34),(.t 36)] none),oM 38 37,oG 39 (.fieldAddr 3 (.t 3)) 38 true,oG 40 (.load .sc (.t 39)) 38 true,oG 41 (.fieldAddr 3 (.t 1)) 38 true,
 oG 42 (.load .sc (.t 41)) 38 true,oG 43 (.call 20 [(.t 40),(.t 42)] none) 38 true,oO 44 (.pick (.t 38) (.t 43) (.k (.c (.d (.bool false))))),oM 2 44]) (.ret)))),[(2,none)]⟩
theorem VD:aw Tryz.prog { own:=[],comp:=[],frz:=[],nils:=[] } Tryz.f41=some lw:=by kernel_rfl
theorem zO (G:ah) (c:Ch):aj Tryz.prog G 41 [aT c] (.w (.c (.d (.bool (decide (cy c)))))):=by
  refine aB Tryz.func41 VD rfl rfl ?_;rw[MF];by_cases h:c.se.length=32
  ·have g:(((c.se.length:Nat):Int)=32)=True:=eq_true (by omega);rw[decide_eq_true h];have c3:=LF G c.cl c.se (by omega);have c4:=p8 G (aJ c.cl c.se 0 0).sk c.sk;have c5:=p8 G (aJ c.cl c.se 0 0).rk c.rk;rw[Bool.beq_comm] at c4 c5;unfold aT at *
   generalize (aJ c.cl c.se 0 0).sk=S at *
   generalize (aJ c.cl c.se 0 0).rk=R at *
   generalize (c.sk==S)=q1 at *
   generalize (c.rk==R)=q2 at *
   unfold lX;by_cases h1:c.n<0
   ·have g1:(c.n<0)=True:=eq_true h1;rw[decide_eq_false (show ¬ (0≤c.n∧c.n≤1099511627776) by omega)];simp only[lw,af,ae,aa,seval,iteOmega,toNatUp,g,g1];exact aF
   ·have g1:(c.n<0)=False:=eq_false h1;by_cases h2:1099511627776<c.n
    ·have g2:(c.n>1099511627776)=True:=eq_true h2;rw[decide_eq_false (show ¬ (0≤c.n∧c.n≤1099511627776) by omega)];simp only[lw,af,ae,aa,seval,iteOmega,toNatUp,g,g1,g2];exact aF
    ·have g2:(c.n>1099511627776)=False:=eq_false h2;rw[decide_eq_true (show 0≤c.n∧c.n≤1099511627776 by omega)];by_cases h3:c.m<0
     ·have g3:(c.m<0)=True:=eq_true h3;rw[decide_eq_false (show ¬ (0≤c.m∧c.m≤1099511627776) by omega)];simp only[lw,af,ae,aa,seval,iteOmega,toNatUp,g,g1,g2,g3];exact aF
     ·have g3:(c.m<0)=False:=eq_false h3;by_cases h4:1099511627776<c.m
      ·have g4:(c.m>1099511627776)=True:=eq_true h4;rw[decide_eq_false (show ¬ (0≤c.m∧c.m≤1099511627776) by omega)];simp only[lw,af,ae,aa,seval,iteOmega,toNatUp,g,g1,g2,g3,g4];exact aF
      ·have g4:(c.m>1099511627776)=False:=eq_false h4;rw[decide_eq_true (show 0≤c.m∧c.m≤1099511627776 by omega)];cases q1
       ·simp only[lw,af,ae,aa,seval,iteOmega,toNatUp,g,g1,g2,g3,g4];refine sD (c3) ?_;refine sD (c4) ?_;exact aF
       ·simp only[lw,af,ae,aa,seval,iteOmega,toNatUp,g,g1,g2,g3,g4];refine sD (c3) ?_;refine sD (c4) ?_;refine sD (c5) ?_;exact aF
  ·have g:(((c.se.length:Nat):Int)=32)=False:=eq_false (by omega);rw[decide_eq_false h];unfold aT;simp only[lw,af,ae,aa,seval,iteOmega,toNatUp,g];exact aF
def yW:aA:=⟨4,22,.seq (.reg [oO 4 (.box .roBox (.t 0)),oO 8 (.mv (.k (.c .nil))),oO 9 (.mv (kI 0))]) (.seq (.seq (.reg [oO 10 (.load (.ag 6) (.t 4)),oO 11 (.call 41 [(.t 10)] none),oO 12 (.un .not (.t 11))]) (.cond (.t 12) (.seq (.reg [oO 8 (.mv (.k (.c .nil))),oO 9 (.mv (kI 3))]) (.ret)) (.skip))) (.seq (.reg [oO 13 (.fieldAddr 1 (.t 4)),oO 14 (.load .sc (.t 13)),oM 15 1,oM 16 2,oO 17 (.call 106 [(.k (.c (.d (.str ⟨#[115,101,99,116,105,109,101,32,101,120,112,111,114,116]⟩)))),(.t 15),(.t 16)] none),oM 18 3,oO 19 (.call 101 [(.t 14),(.t 17),(.t 18)] (some (0,1))),oO 20 (.extract (.t 19) 0),oO 21 (.extract (.t 19) 1),oM 8 20,oM 9 21]) (.ret))),[(8,none),(9,none)]⟩
theorem VE:aw Tryz.prog { own:=[],comp:=[(19,0)],frz:=[],nils:=[] } Tryz.f64=some yW:=by kernel_rfl
theorem LI (G:ah) (c:Ch) (l:ByteArray) (x:List UInt8) (n:Int) (hl:l.size≤1099511627776) (hx:x.length≤140737488355328) (hn1:-9223372036854775808≤n) (hn2:n≤9223372036854775807):aj Tryz.prog G 64 [aT c,.str l,.sl (x.map bD),.int .i64 n] (.tup [.c (.fr 1 ((lS c l.data.toList x n).map bD)),.c (.d (.int .i64 (pd c n)))]):=by
  refine aB Tryz.func64 VE rfl rfl ?_;have c1:=zO G c;unfold lS pd;by_cases h:cy c
  ·rw[decide_eq_true h] at c1;rw[if_pos h,if_pos h];have c2:=Vd G va l x (by decide) hl hx;rw[show va.data.toList=gy from rfl] at c2;have hs:l.data.toList.length=l.size:=rfl;have c3:=Kb G c.se (fq gy l.data.toList x) (by rw[h.1]; decide) (by rw[Fv,hs]; have:gy.length=14:=rfl; omega) n hn1 hn2;generalize fq gy l.data.toList x=L at *
   generalize ik c.se L n=E at *
   generalize kL n=e at *
   unfold aT at *
   simp only[yW,af,ae,aa,seval,iteOmega,toNatUp];refine sD (c1) ?_;refine a8 c2 (by simp only[ae,aa,seval,iteOmega,toNatUp] <;> rfl) (.inl rfl) ?_;simp only[ae,aa,seval,iteOmega,toNatUp];refine sD (c3) ?_;exact dw
  ·rw[decide_eq_false h] at c1;rw[if_neg h,if_neg h];unfold aT at *
   simp only[yW,af,ae,aa,seval,iteOmega,toNatUp];refine sD (c1) ?_;exact dw
end Go.Proofs.YtlghfnidknfakaaGreatDoor
