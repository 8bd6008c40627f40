/- Texts of one's own, merged: from: Layer 6 on data: tags,sealed bytes,opened ones; both codes. Own work. -/
import Derived.Shelf.Abstract
import Derived.Test.YtlghfnidknfakaaGreatDoorMg212
import Derived.Test.YtlghfnidknfakaaGreatDoorMg210
import Derived.Test.YtlghfnidknfakaaGreatDoorMg213
import Derived.Test.YtlghfnidknfakaaGreatDoorMg215
import Derived.Test.YtlghfnidknfakaaGreatDoorMg27
set_option linter.unusedVariables false
set_option linter.unusedSimpArgs false
namespace Go.Proofs.YtlghfnidknfakaaGreatDoor
open Go.RowKit IntWalk
set_option maxHeartbeats 1600000
def ip (tag:List UInt8):List UInt8:=(tag.set 8 (gw (tag.getD 8 0) 127)).set 12 (gw (tag.getD 12 0) 127)
theorem rC (tag:List UInt8):(ip tag).length=tag.length:=by unfold ip; rw[aci,aci]
def bL (key:List UInt8) (ad:List (List UInt8)) (b:List UInt8):List UInt8:=jb (aA (key.take 16)) (ad++[b])
theorem jA (key:List UInt8) (ad:List (List UInt8)) (b:List UInt8):(bL key ad b).length=16:=TM _ _
def eL (key tag b:List UInt8):List UInt8:=fS (aA (key.drop 16)) (ip tag) b
theorem po (key tag b:List UInt8):(eL key tag b).length=b.length:=q8 _ _ _
def iG (l:List (List UInt8)):Bool:=l.any fun x=>decide (65519<x.length)
def cP (key:List UInt8) (ad:List (List UInt8)) (n:Int):Int:=if key.length≠32 then 5 else if 16<ad.length then 8 else if iG ad=true∨65519<n then 2 else 0
def jU (key:List UInt8) (ad:List (List UInt8)) (b:List UInt8):List UInt8:=if cP key ad b.length=0 then bL key ad b else []
def fU (key:List UInt8) (ad:List (List UInt8)) (b:List UInt8):List UInt8:=if cP key ad b.length=0 then bL key ad b++eL key (bL key ad b) b else []
def qC (key:List UInt8) (ad:List (List UInt8)) (s:List UInt8):Int :=
  if cP key ad ((s.length:Int)-16)≠0 then cP key ad ((s.length:Int)-16) else if s.length<16 then 1 else if s.take 16=bL key ad (eL key (s.take 16) (s.drop 16)) then 0 else 6
def Dv (key:List UInt8) (ad:List (List UInt8)) (s:List UInt8):List UInt8:=if qC key ad s=0 then eL key (s.take 16) (s.drop 16) else []
theorem T1 {l:List (List UInt8)} (h:∀ j,j<l.length→(l.getD j []).length≤65519):iG l=false:=by
  unfold iG;rw[aca];intro x hx;obtain⟨j,hj,rfl⟩:=abR hx;have:=h j hj;rw[abb,aa7 hj] at this
  simpa using this
theorem Sj {l:List (List UInt8)} {j:Nat} (hj:j<l.length) (h:65519<(l.getD j []).length):iG l=true:=by
  unfold iG;rw[ace];exact⟨_,yO hj,decide_eq_true h⟩
theorem Sk {l:List (List UInt8)} (h:iG l=false):∀ x∈l,x.length≤65519:=by
  unfold iG at h;rw[aca] at h;intro x hx
  simpa using h x hx
theorem v7 {key:List UInt8} {ad:List (List UInt8)} {n:Int} (h:cP key ad n=0):key.length=32∧ad.length≤16∧iG ad=false∧n≤65519:=by
  unfold cP at h;split at h
  ·cases h
  ·split at h
   ·cases h
   ·split at h
    ·cases h
    ·rename_i h1 h2 h3;cases hl:iG ad
     ·exact⟨by omega,by omega,rfl,by omega⟩
     ·exact absurd (.inl hl) h3
theorem vz (key:List UInt8) (ad:List (List UInt8)) (n:Int):cP key ad n=0∨cP key ad n=5∨cP key ad n=8∨cP key ad n=2:=by
  unfold cP;split
  ·exact .inr (.inl rfl)
  ·split
   ·exact .inr (.inr (.inl rfl))
   ·split
    ·exact .inr (.inr (.inr rfl))
    ·exact .inl rfl
theorem K0 {k:List UInt8} {l:List (List UInt8)} (h:k.length=16) (hn:l.length≤17) (hl:∀ x∈l,x.length≤65535):tp k l=jb (aA k) l∧qB k l=0:=by
  have:lw l=false:=by
    unfold lw;rw[aca];intro x hx;have:=hl x hx
    simpa using this
  refine⟨if_pos ⟨h,hn,this⟩,?_⟩;unfold qB;rw[if_neg (by omega),if_neg (by omega),this,if_neg (by simp)]
theorem F9 {k c b:List UInt8} (h:k.length=16) (hc:c.length=16) (hb:b.length≤65535):qe k c b=fS (aA k) c b∧jK k c b=0:=by
  refine⟨if_pos ⟨h,hc,hb⟩,?_⟩;unfold jK;rw[if_neg (by omega),if_neg (by omega),if_neg (by omega)]
theorem v8 {ad:List (List UInt8)} {b:List UInt8} (h:iG ad=false) (hb:b.length≤65519):∀ x∈ad++[b],x.length≤65535:=by
  intro x hx;rcases abn.1 hx with hx | hx
  ·have:=Sk h x hx; omega
  ·simp only[abe] at hx; subst hx; omega
def AP:aH:=⟨1,6,.seq (.reg [oO 2 (.mv (.k (.c (.d (.bool false)))))]) (.seq (.reg [oM 3 0,oO 4 (.len (.t 3)),oO 5 (.bin .gtr (.t 4) (kI 65519)),oM 2 5]) (.ret)),[(2,none)]⟩
theorem VV:aG Tryz.prog { own:=[],comp:=[],frz:=[],nils:=[] } Tryz.f134=some AP:=by kernel_rfl
theorem X6 (G:ah) (x:List UInt8) (hx:x.length≤9223372036854775807):nu Tryz.prog G 134 [] [.sl (x.map bD)] (.w (.c (.d (.bool (decide (65519<x.length)))))):=by
  refine⟨enters_of Tryz.func134 (by kernel_rfl) rfl,?_⟩;refine aI Tryz.func134 VV rfl rfl ?_;by_cases h:65519<x.length
  ·have hd:decide (65519<x.length)=true:=decide_eq_true h;rw[hd];simp only[AP,af,ae,aa,seval,iteOmega,toNatUp];exact aL
  ·have hd:decide (65519<x.length)=false:=decide_eq_false h;rw[hd];simp only[AP,af,ae,aa,seval,iteOmega,toNatUp];exact aL
def pP:aH:=⟨3,21,.seq (.reg [oO 6 (.mv (kI 0))]) (.seq (.seq (.reg [oM 8 0,oO 9 (.len (.t 8)),oO 10 (.bin .neq (.t 9) (kI 32))]) (.cond (.t 10) (.seq (.reg [oO 6 (.mv (kI 5))]) (.ret)) (.skip))) (.seq (.seq (.reg [oM 11 1,oO 12 (.len (.t 11)),oO 13 (.bin .gtr (.t 12) (kI 16))]) (.cond (.t 13) (.seq (.reg [oO 6 (.mv (kI 8))]) (.ret)) (.skip))) (.seq (.reg [oO 7 (.mv (.k (.c (.d (.fn 134 [])))))]) (.seq (.seq (.reg [oM 14 1,oM 15 7,oO 16 (.call 135 [(.t 14),(.t 15)] none),oM 17 16,oG 18 (.mv (.t 2)) 17 false,oG 19 (.bin .gtr (.t 18) (kI 65519)) 17 false,oO 20 (.pick (.t 17) (.k (.c (.d (.bool true)))) (.t 19))]) (.cond (.t 20) (.seq (.reg [oO 6 (.mv (kI 2))]) (.ret)) (.skip))) (.seq (.reg [oO 6 (.mv (kI 0))]) (.ret)))))),[(6,none)]⟩
theorem X7:aG Tryz.prog { own:=[],comp:=[],frz:=[],nils:=[] } Tryz.f121=some pP:=by kernel_rfl
theorem aae (G:ah) (key:List UInt8) (ad:List (List UInt8)) (n:Int) (hk:key.length≤9223372036854775807) (hl:ad.length≤9223372036854775807) (hb:∀ x∈ad,x.length≤9223372036854775807):aw Tryz.prog G 121 [.sl (key.map bD),cT ad,.int .i64 n] (.w (.c (.d (.int .i64 (cP key ad n))))):=by
  refine aI Tryz.func121 X7 rfl rfl ?_;have hc:=Xu G ad 134 [] (fun x=>decide (65519<x.length)) hl (fun x hx=>X6 G x (hb x hx));have hL:(ad.any fun x=>decide (65519<x.length))=iG ad:=rfl;rw[hL] at hc;unfold cP;by_cases h:key.length=32
  ·rw[if_neg (by omega)];by_cases h2:16<ad.length
   ·rw[if_pos h2];simp only[pP,af,ae,aa,seval,iteOmega,toNatUp];exact aL
   ·rw[if_neg h2];cases hl:iG ad
    ·rw[hl] at hc;by_cases h3:65519<n
     ·rw[if_pos (.inr h3)];simp only[pP,af,ae,aa,seval,iteOmega,toNatUp];refine sD (hc) ?_;exact aL
     ·rw[if_neg (by simp; omega)];simp only[pP,af,ae,aa,seval,iteOmega,toNatUp];refine sD (hc) ?_;exact aL
    ·rw[hl] at hc;rw[if_pos (.inl rfl)];simp only[pP,af,ae,aa,seval,iteOmega,toNatUp];refine sD (hc) ?_;exact aL
  ·rw[if_pos h];simp only[pP,af,ae,aa,seval,iteOmega,toNatUp];exact aL
def K1:aH:=⟨3,23,.seq (.reg [oO 6 (.mv (.k (.c .nil)))]) (.seq (.reg [oM 10 1,oM 11 2,oO 12 (.bldSl false 1 1 (.sl []) [(0,(.t 11))]),oO 13 (.bldSl false 2 1 (.sl []) [(0,(.t 10)),(1,(.t 12))]),oO 14 (.call 138 [(.t 13)] none),oM 7 14]) (.seq (.reg [oM 16 0,oO 17 (.slice 1 (.t 16) none (some (kI 16)) none),oM 18 7,oO 19 (.call 139 [(.t 17),(.t 18)] (some (0,1))),oM 15 19,oO 20 (.extract (.t 15) 0),oO 21 (.extract (.t 15) 1),oM 8 20,oM 9 21]) (.seq (.reg [oM 22 8,oM 6 22]) (.ret)))),[(6,none)]⟩
theorem VW:aG Tryz.prog { own:=[],comp:=[(19,0)],frz:=[],nils:=[] } Tryz.f123=some K1:=by kernel_rfl
theorem X8 (G:ah) (key:List UInt8) (ad:List (List UInt8)) (b:List UInt8) (h:key.length=32) (hn:ad.length≤16) (hl:iG ad=false) (hb:b.length≤65519):aw Tryz.prog G 123 [.sl (key.map bD),cT ad,.sl (b.map bD)] (.w (.c (.fr 1 ((bL key ad b).map bD)))):=by
  refine aI Tryz.func123 VW rfl rfl ?_;have hf:[ad,[b]].flatten=ad++[b]:=by simp
  have hc:=Xw G [ad,[b]] (by simp) (by rw[hf]; simp; omega);rw[hf] at hc;have hk:(key.take 16).length=16:=by rw[abg]; omega
  obtain⟨v1,v2⟩:=K0 (l:=ad++[b]) hk (by simp; omega) (v8 hl hb);have hv:=XX G (key.take 16) (ad++[b]) (by omega) (by simp; omega) (fun x hx=>abW (v8 hl hb x hx) (by decide));rw[v1,v2] at hv;have ht:jb (aA (key.take 16)) (ad++[b])=bL key ad b:=rfl;rw[ht] at hv;simp only[K1,af,ae,aa,seval,iteOmega,toNatUp];refine sD (hc) ?_;refine sD (hv) ?_;exact dA
theorem rU {tag:List UInt8} (h:tag.length=16) {i:Nat} (hi:i<16):tag[i]?=some (tag.getD i 0):=by
  rw[abb,aa7 (by omega)]; rfl
theorem K2 {tag:List UInt8} (h:tag.length=16) (x:UInt8):(tag.set 8 x)[12]?=some (tag.getD 12 0):=by
  rw[List.getElem?_set_ne (by decide),rU h (by decide)]
def Nc:aH:=⟨1,18,.seq (.reg [oO 2 (.mv (.k (.c .nil)))]) (.seq (.reg [oM 4 0,oO 5 (.bldSl false 1 1 (.sl []) [(0,(.t 4))]),oO 6 (.call 90 [(.t 5)] (some (0,1))),oM 3 6]) (.seq (.reg [oM 7 3,oO 8 (.idxSl 1 (.t 7) (kI 8)),oO 9 (.load .sc (.t 8)),oO 10 (.bin .and (.t 9) (.k (.c (.d (.int .u8 127))))),oO 11 (.idxSl 1 (.t 7) (kI 8)),oN (.store .sc (.t 11) (.t 10))]) (.seq (.reg [oM 12 3,oO 13 (.idxSl 1 (.t 12) (kI 12)),oO 14 (.load .sc (.t 13)),oO 15 (.bin .and (.t 14) (.k (.c (.d (.int .u8 127))))),oO 16 (.idxSl 1 (.t 12) (kI 12)),oN (.store .sc (.t 16) (.t 15))]) (.seq (.reg [oM 17 3,oM 2 17]) (.ret))))),[(2,none)]⟩
theorem X9:aG Tryz.prog { own:=[6],comp:=[],frz:=[],nils:=[] } Tryz.f137=some Nc:=by kernel_rfl
theorem aaf (G:ah) (tag:List UInt8) (h:tag.length=16):aw Tryz.prog G 137 [.sl (tag.map bD)] (.w (.c (.fr 1 ((ip tag).map bD)))):=by
  refine aI Tryz.func137 X9 rfl rfl ?_;have hj:=gV G [tag] (by simp) (by simp; omega);have hf:[tag].flatten=tag:=by simp
  rw[hf] at hj;have g1:=rU h (i:=8) (by decide);have g2:=rU h (i:=12) (by decide);have g3:=K2 h (gw (tag.getD 8 0) 127);have x1:=pK (tag.getD 8 0) 127 127 rfl;have x2:=pK (tag.getD 12 0) 127 127 rfl;have hs:(tag.set 8 (gw (tag.getD 8 0) 127)).set 12 (gw (tag.getD 12 0) 127)=ip tag:=rfl;simp only[Nc,af,ae,aa,seval,iteOmega,toNatUp];refine sC (hj) ?_;simp only[aC,g1,g2,g3,x1,x2,nX,hs,ae,aa,seval,iteOmega,toNatUp];exact vO (by simp only[ae,aa,seval,iteOmega,toNatUp,rC])
theorem aag (G:ah) (tag:List UInt8) (h:tag.length=16):aw Tryz.prog G 137 [.sl (tag.map bD)] (.w (.c (.d (.sl ((ip tag).map bD))))):=li (aaf G tag h)
def K3:aH:=⟨1,20,.seq (.reg [oO 2 (.mv (.k (.c .nil)))]) (.seq (.reg [oM 4 0,oO 5 (.bldSl false 1 1 (.sl []) [(0,(.t 4))]),oO 6 (.call 43 [(.t 5)] (some (0,1))),oM 3 6]) (.seq (.reg [oM 7 3,oM 8 3,oM 9 3,oO 10 (.idxSl 1 (.t 9) (kI 8)),oO 11 (.load .sc (.t 10)),oO 12 (.bin .and (.t 11) (.k (.c (.d (.int .u8 127))))),oM 13 3,oO 14 (.idxSl 1 (.t 13) (kI 12)),oO 15 (.load .sc (.t 14)),oO 16 (.bin .and (.t 15) (.k (.c (.d (.int .u8 127))))),oO 17 (.idxSl 1 (.t 7) (kI 8)),oN (.store .sc (.t 17) (.t 12)),oO 18 (.idxSl 1 (.t 8) (kI 12)),oN (.store .sc (.t 18) (.t 16))]) (.seq (.reg [oM 19 3,oM 2 19]) (.ret)))),[(2,none)]⟩
theorem VX:aG Tryz.prog { own:=[6],comp:=[],frz:=[],nils:=[] } Tryz.f146=some K3:=by kernel_rfl
theorem Ya (G:ah) (tag:List UInt8) (h:tag.length=16):aw Tryz.prog G 146 [.sl (tag.map bD)] (.w (.c (.fr 1 ((ip tag).map bD)))):=by
  refine aI Tryz.func146 VX rfl rfl ?_;have hj:=fQ G [tag] (by simp) (by simp; omega);have hf:[tag].flatten=tag:=by simp
  rw[hf] at hj;have g1:=rU h (i:=8) (by decide);have g2:=rU h (i:=12) (by decide);have g3:=K2 h (gw (tag.getD 8 0) 127);have x1:=pK (tag.getD 8 0) 127 127 rfl;have x2:=pK (tag.getD 12 0) 127 127 rfl;have hs:(tag.set 8 (gw (tag.getD 8 0) 127)).set 12 (gw (tag.getD 12 0) 127)=ip tag:=rfl;simp only[K3,af,ae,aa,seval,iteOmega,toNatUp];refine sC (hj) ?_;simp only[aC,g1,g2,g3,x1,x2,nX,hs,ae,aa,seval,iteOmega,toNatUp];exact vO (by simp only[ae,aa,seval,iteOmega,toNatUp,rC])
theorem Yb (G:ah) (tag:List UInt8) (h:tag.length=16):aw Tryz.prog G 146 [.sl (tag.map bD)] (.w (.c (.d (.sl ((ip tag).map bD))))):=li (Ya G tag h)
def K4:aH:=⟨3,19,.seq (.reg [oO 6 (.mv (.k (.c .nil)))]) (.seq (.reg [oM 10 0,oO 11 (.slice 1 (.t 10) (some (kI 16)) none none),oM 12 1,oO 13 (.call 137 [(.t 12)] none),oM 14 2,oO 15 (.call 136 [(.t 11),(.t 13),(.t 14)] (some (0,1))),oM 9 15,oO 16 (.extract (.t 9) 0),oO 17 (.extract (.t 9) 1),oM 7 16,oM 8 17]) (.seq (.reg [oM 18 7,oM 6 18]) (.ret))),[(6,none)]⟩
theorem VY:aG Tryz.prog { own:=[],comp:=[(15,0)],frz:=[],nils:=[] } Tryz.f122=some K4:=by kernel_rfl
theorem Yc (G:ah) (key tag b:List UInt8) (h:key.length=32) (ht:tag.length=16) (hb:b.length≤65535):aw Tryz.prog G 122 [.sl (key.map bD),.sl (tag.map bD),.sl (b.map bD)] (.w (.c (.fr 1 ((eL key tag b).map bD)))):=by
  refine aI Tryz.func122 VY rfl rfl ?_;have hk:(key.drop 16).length=16:=by rw[abi]; omega
  have hk2:(key.drop 16).take 16=key.drop 16:=aa9 (by omega);obtain⟨v1,v2⟩:=F9 (c:=ip tag) (b:=b) hk (by rw[rC]; exact ht) hb;have hv:=aab G (key.drop 16) (ip tag) b (by omega) (by rw[rC]; omega) (by omega);rw[v1,v2] at hv;have hs:fS (aA (key.drop 16)) (ip tag) b=eL key tag b:=rfl;rw[hs] at hv;simp only[K4,af,ae,aa,seval,iteOmega,toNatUp,h];refine sC (aag G tag ht) ?_;simp only[hk2,ae,aa,seval,iteOmega,toNatUp];refine sD (hv) ?_;exact dA
theorem Yd (G:ah) (key tag b:List UInt8) (h:key.length=32) (ht:tag.length=16) (hb:b.length≤65535):aw Tryz.prog G 122 [.sl (key.map bD),.sl (tag.map bD),.sl (b.map bD)] (.w (.c (.d (.sl ((eL key tag b).map bD))))):=li (Yc G key tag b h ht hb)
def BE:aH:=⟨3,21,.seq (.reg [oO 6 (.mv (.k (.c .nil))),oO 7 (.mv (kI 0))]) (.seq (.seq (.reg [oM 9 0,oM 10 1,oM 11 2,oO 12 (.len (.t 11)),oO 13 (.call 121 [(.t 9),(.t 10),(.t 12)] none),oM 8 13]) (.seq (.reg [oM 14 8,oO 15 (.bin .neq (.t 14) (kI 0))]) (.cond (.t 15) (.seq (.reg [oM 16 8,oO 6 (.mv (.k (.c .nil))),oM 7 16]) (.ret)) (.skip)))) (.seq (.reg [oM 17 0,oM 18 1,oM 19 2,oO 20 (.call 123 [(.t 17),(.t 18),(.t 19)] (some (0,1))),oM 6 20,oO 7 (.mv (kI 0))]) (.ret))),[(6,none),(7,none)]⟩
theorem Ye:aG Tryz.prog { own:=[20],comp:=[],frz:=[],nils:=[] } Tryz.f125=some BE:=by kernel_rfl
theorem aah (G:ah) (key:List UInt8) (ad:List (List UInt8)) (b:List UInt8) (hk:key.length≤9223372036854775807) (hl:ad.length≤9223372036854775807) (hx:∀ x∈ad,x.length≤9223372036854775807) (hb:b.length≤9223372036854775807):aw Tryz.prog G 125 [.sl (key.map bD),cT ad,.sl (b.map bD)] (.tup [.c (.fr 1 ((jU key ad b).map bD)),.c (.d (.int .i64 (cP key ad b.length)))]):=by
  refine aI Tryz.func125 Ye rfl rfl ?_;have hc:=aae G key ad (b.length:Int) hk hl hx;by_cases he:cP key ad (b.length:Int)=0
  ·have hv:jU key ad b=bL key ad b:=if_pos he;obtain⟨k1,k2,k3,k4⟩:=v7 he;rw[he] at hc ⊢;rw[hv];simp only[BE,af,ae,aa,seval,iteOmega,toNatUp];refine sD (hc) ?_;refine sD (X8 G key ad b k1 k2 k3 (by omega)) ?_;exact bY
  ·have hv:jU key ad b=[]:=if_neg he;rw[hv];have hne:cP key ad (b.length:Int)=0↔False:=⟨he,False.elim⟩
   rcases vz key ad b.length with e | e | e | e
   ·exact absurd e he
   all_goals
     rw[e] at hc ⊢;simp only[BE,af,ae,aa,seval,iteOmega,toNatUp];refine aW hc rfl (.inl rfl) ?_;simp only[ae,aa,seval,iteOmega,toNatUp];exact bY
theorem aai (G:ah) (key:List UInt8) (ad:List (List UInt8)) (b:List UInt8) (hk:key.length≤9223372036854775807) (hl:ad.length≤9223372036854775807) (hx:∀ x∈ad,x.length≤9223372036854775807) (hb:b.length≤9223372036854775807):aw Tryz.prog G 125 [.sl (key.map bD),cT ad,.sl (b.map bD)] (.tup [.c (.d (.sl ((jU key ad b).map bD))),.c (.d (.int .i64 (cP key ad b.length)))]):=mP (aah G key ad b hk hl hx hb)
def AQ:aH:=⟨3,27,.seq (.reg [oO 6 (.mv (.k (.c .nil))),oO 7 (.mv (kI 0))]) (.seq (.reg [oM 11 0,oM 12 1,oM 13 2,oO 14 (.call 125 [(.t 11),(.t 12),(.t 13)] none),oM 10 14,oO 15 (.extract (.t 10) 0),oO 16 (.extract (.t 10) 1),oM 8 15,oM 9 16]) (.seq (.seq (.reg [oM 17 9,oO 18 (.bin .neq (.t 17) (kI 0))]) (.cond (.t 18) (.seq (.reg [oM 19 9,oO 6 (.mv (.k (.c .nil))),oM 7 19]) (.ret)) (.skip))) (.seq (.reg [oM 20 8,oM 21 0,oM 22 8,oM 23 2,oO 24 (.call 122 [(.t 21),(.t 22),(.t 23)] none),oO 25 (.bldSl false 2 1 (.sl []) [(0,(.t 20)),(1,(.t 24))]),oO 26 (.call 90 [(.t 25)] (some (0,1))),oM 6 26,oO 7 (.mv (kI 0))]) (.ret)))),[(6,none),(7,none)]⟩
theorem VZ:aG Tryz.prog { own:=[26],comp:=[],frz:=[],nils:=[] } Tryz.f92=some AQ:=by kernel_rfl
theorem Yf (G:ah) (key:List UInt8) (ad:List (List UInt8)) (b:List UInt8) (hk:key.length≤9223372036854775807) (hl:ad.length≤9223372036854775807) (hx:∀ x∈ad,x.length≤9223372036854775807) (hb:b.length≤9223372036854775807):aw Tryz.prog G 92 [.sl (key.map bD),cT ad,.sl (b.map bD)] (.tup [.c (.fr 1 ((fU key ad b).map bD)),.c (.d (.int .i64 (cP key ad b.length)))]):=by
  refine aI Tryz.func92 VZ rfl rfl ?_;have hc:=aai G key ad b hk hl hx hb;by_cases he:cP key ad (b.length:Int)=0
  ·have hv:jU key ad b=bL key ad b:=if_pos he;have hv2:fU key ad b=bL key ad b++eL key (bL key ad b) b:=if_pos he;obtain⟨k1,k2,k3,k4⟩:=v7 he;have hj:=gV G [bL key ad b,eL key (bL key ad b) b] (by simp) (by simp[jA,po]; omega);have hf:[bL key ad b,eL key (bL key ad b) b].flatten=bL key ad b++eL key (bL key ad b) b:=by simp
   rw[hf] at hj;rw[he,hv] at hc;rw[he,hv2];simp only[AQ,af,ae,aa,seval,iteOmega,toNatUp];refine sD (hc) ?_;refine sD (Yd G key (bL key ad b) b k1 (jA _ _ _) (by omega)) ?_;refine sD (hj) ?_;exact bY
  ·have hv:jU key ad b=[]:=if_neg he;have hv2:fU key ad b=[]:=if_neg he;rw[hv] at hc;rw[hv2];rcases vz key ad b.length with e | e | e | e
   ·exact absurd e he
   all_goals
     rw[e] at hc ⊢;simp only[AQ,af,ae,aa,seval,iteOmega,toNatUp];refine aW hc rfl (.inl rfl) ?_;simp only[ae,aa,seval,iteOmega,toNatUp];exact bY
theorem Yg (G:ah) (key:List UInt8) (ad:List (List UInt8)) (b:List UInt8) (hk:key.length≤9223372036854775807) (hl:ad.length≤9223372036854775807) (hx:∀ x∈ad,x.length≤9223372036854775807) (hb:b.length≤9223372036854775807):aw Tryz.prog G 92 [.sl (key.map bD),cT ad,.sl (b.map bD)] (.tup [.c (.d (.sl ((fU key ad b).map bD))),.c (.d (.int .i64 (cP key ad b.length)))]):=mP (Yf G key ad b hk hl hx hb)
theorem Yh {key:List UInt8} {ad:List (List UInt8)} {s:List UInt8} (h:cP key ad ((s.length:Int)-16)=0) (hs:¬ s.length<16) (ht:s.take 16=bL key ad (eL key (s.take 16) (s.drop 16))):qC key ad s=0∧Dv key ad s=eL key (s.take 16) (s.drop 16):=by
  have:qC key ad s=0:=by unfold qC; rw[if_neg (by simp[h]),if_neg hs,if_pos ht]
  exact⟨this,if_pos this⟩
def sT (key:List UInt8) (ad:List (List UInt8)) (n:Int) (i:Nat):St:=⟨aQ [(1,.w (.c (.d (cT ad)))),(2,.w (.c (.d (.int .i64 n)))),(7,.w (.c (.d (.int .i64 (i:Int)))))],hL [],uL []⟩
def rm:aN := .seq (.seq (.reg [oM 14 7,oM 15 1,oO 16 (.len (.t 15)),oO 17 (.bin .lss (.t 14) (.t 16))]) (.cond (.t 17) (.skip) (.exit 0))) (.seq (.block 1 (.seq (.reg [oM 20 1,oM 21 7,oO 22 (.idxSl 1 (.t 20) (.t 21)),oO 23 (.load .sc (.t 22)),oO 24 (.len (.t 23)),oO 25 (.bin .gtr (.t 24) (kI 65519))]) (.cond (.t 25) (.seq (.reg [oO 6 (.mv (kI 2))]) (.ret)) (.skip)))) (.reg [oM 18 7,oO 19 (.bin .add (.t 18) (kI 1)),oM 7 19]))
def vA:aH:=⟨3,28,.seq (.reg [oO 6 (.mv (kI 0))]) (.seq (.seq (.reg [oM 8 0,oO 9 (.len (.t 8)),oO 10 (.bin .neq (.t 9) (kI 32))]) (.cond (.t 10) (.seq (.reg [oO 6 (.mv (kI 5))]) (.ret)) (.skip))) (.seq (.seq (.reg [oM 11 1,oO 12 (.len (.t 11)),oO 13 (.bin .gtr (.t 12) (kI 16))]) (.cond (.t 13) (.seq (.reg [oO 6 (.mv (kI 8))]) (.ret)) (.skip))) (.seq (.seq (.reg [oO 7 (.mv (kI 0))]) (.block 0 (.loop rm))) (.seq (.seq (.reg [oM 26 2,oO 27 (.bin .gtr (.t 26) (kI 65519))]) (.cond (.t 27) (.seq (.reg [oO 6 (.mv (kI 2))]) (.ret)) (.skip))) (.seq (.reg [oO 6 (.mv (kI 0))]) (.ret)))))),[(6,none)]⟩
theorem V0:aG Tryz.prog { own:=[],comp:=[],frz:=[],nils:=[] } Tryz.f157=some vA:=by kernel_rfl
theorem Yi (G:ah) (key:List UInt8) (ad:List (List UInt8)) (n:Int) (hk:key.length≤9223372036854775807) (hl:ad.length≤9223372036854775807) (hb:∀ x∈ad,x.length≤9223372036854775807):aw Tryz.prog G 157 [.sl (key.map bD),cT ad,.int .i64 n] (.w (.c (.d (.int .i64 (cP key ad n))))):=by
  refine aI Tryz.func157 V0 rfl rfl ?_;unfold cP;by_cases h:key.length=32
  ·rw[if_neg (by omega)];by_cases h2:16<ad.length
   ·rw[if_pos h2];simp only[vA,af,ae,aa,seval,iteOmega,toNatUp];exact aL
   ·rw[if_neg h2];simp only[vA,af,ae,aa,seval,iteOmega,toNatUp];refine aU (sT key ad n) (fun i=>ad.length-i) (fun i=>i≤ad.length∧∀ j,j<i→(ad.getD j []).length≤65519) 0 ⟨abc _,fun j hj=>by omega⟩ ?_ ?_
    ·refine aj (fun i=>0) ?_ ?_ rfl rfl <;> simp only[wx,ai,am,aa,seval,iteOmega,toNatUp] <;> rfl
    ·rintro i ⟨hi,hok⟩;by_cases hlt:i<ad.length
     ·have g1:=OS hlt;have hx:=hb _ (yO hlt);by_cases hlong:65519<(ad.getD i []).length
      ·have hL:=Sj hlt hlong;rw[if_pos (.inl hL)];simp only[rm,sT,ae,aa,seval,iteOmega,toNatUp,aC,g1];exact aL
      ·simp only[rm,sT,ae,aa,seval,iteOmega,toNatUp,aC,g1];refine aM (i+1) (by omega) ⟨by omega,fun j hj=>?_⟩ (aj (fun i=>i) ?_ ?_ rfl rfl)
       ·rcases abL j i with h | h
        ·exact hok j h
        ·obtain rfl:j=i:=by omega
         omega
       all_goals simp only[wx,ai,am,aa,seval,iteOmega,toNatUp]
     ·have hL:=T1 (l:=ad) (fun j hj=>hok j (by omega));by_cases h3:65519<n
      ·rw[if_pos (.inr h3)];simp only[rm,sT,ae,aa,seval,iteOmega,toNatUp];exact aL
      ·rw[if_neg (by rw[hL]; simp; omega)];simp only[rm,sT,ae,aa,seval,iteOmega,toNatUp];exact aL
  ·rw[if_pos h];simp only[vA,af,ae,aa,seval,iteOmega,toNatUp];exact aL
def AR:aH:=⟨3,28,.seq (.reg [oO 6 (.mv (.k (.c .nil))),oO 7 (.mv (kI 0))]) (.seq (.seq (.reg [oM 9 0,oM 10 1,oM 11 2,oO 12 (.len (.t 11)),oO 13 (.call 157 [(.t 9),(.t 10),(.t 12)] none),oM 8 13]) (.seq (.reg [oM 14 8,oO 15 (.bin .neq (.t 14) (kI 0))]) (.cond (.t 15) (.seq (.reg [oM 16 8,oO 6 (.mv (.k (.c .nil))),oM 7 16]) (.ret)) (.skip)))) (.seq (.reg [oM 17 0,oO 18 (.slice 1 (.t 17) none (some (kI 16)) none),oO 19 (.bldSl false 0 1 (.sl []) []),oM 20 1,oO 21 (.appN false 1 24 (.t 19) (.t 20)),oM 22 2,oO 23 (.bldSl false 1 1 (.sl []) [(0,(.t 22))]),oO 24 (.app false 1 24 (.t 21) (.t 23)),oO 25 (.call 158 [(.t 18),(.t 24)] (some (0,1))),oO 26 (.extract (.t 25) 0),oO 27 (.extract (.t 25) 1),oM 6 26,oM 7 27]) (.ret))),[(6,none),(7,none)]⟩
theorem V4:aG Tryz.prog { own:=[],comp:=[(25,0)],frz:=[],nils:=[21] } Tryz.f144=some AR:=by kernel_rfl
theorem Yj (G:ah) (key:List UInt8) (ad:List (List UInt8)) (b:List UInt8) (hk:key.length≤9223372036854775807) (hl:ad.length≤9223372036854775807) (hx:∀ x∈ad,x.length≤9223372036854775807) (hb:b.length≤9223372036854775807):aw Tryz.prog G 144 [.sl (key.map bD),cT ad,.sl (b.map bD)] (.tup [.c (.fr 1 ((jU key ad b).map bD)),.c (.d (.int .i64 (cP key ad b.length)))]):=by
  refine aI Tryz.func144 V4 rfl rfl ?_;have hc:=Yi G key ad (b.length:Int) hk hl hx;by_cases he:cP key ad (b.length:Int)=0
  ·have hv:jU key ad b=bL key ad b:=if_pos he;obtain⟨k1,k2,k3,k4⟩:=v7 he;have hkk:(key.take 16).length=16:=by rw[abg]; omega
   have hbb:b.length≤65519:=by omega
   obtain⟨v1,v2⟩:=K0 (l:=ad++[b]) hkk (by simp; omega) (v8 k3 hbb);have hvv:=VR G (key.take 16) (ad++[b]) (by omega) (by simp; omega) (fun x hx=>abW (v8 k3 hbb x hx) (by decide));rw[v1,v2] at hvv;have ht:jb (aA (key.take 16)) (ad++[b])=bL key ad b:=rfl;rw[ht] at hvv;have ha:(ad.map fun l=>D.sl (l.map bD))++[D.sl (b.map bD)]=(ad++[b]).map fun l=>D.sl (l.map bD):=by rw[abk]; rfl
   have tl:(ad++[b]).take (ad.length+1)=ad++[b]:=aa9 (by simp);rw[he] at hc ⊢;rw[hv];simp only[AR,af,ae,aa,seval,iteOmega,toNatUp];refine sC (hc) ?_;simp only[a7,rA,ha,ae,aa,seval,iteOmega,toNatUp];refine aW hvv (by simp only[ae,aa,seval,iteOmega,toNatUp,tl]) (.inr (gG _ _ _ _)) ?_;simp only[ae,aa,seval,iteOmega,toNatUp];exact bY
  ·have hv:jU key ad b=[]:=if_neg he;rw[hv];rcases vz key ad b.length with e | e | e | e
   ·exact absurd e he
   all_goals
     rw[e] at hc ⊢;simp only[AR,af,ae,aa,seval,iteOmega,toNatUp];refine aW hc rfl (.inl rfl) ?_;simp only[ae,aa,seval,iteOmega,toNatUp];exact bY
theorem Yk (G:ah) (key:List UInt8) (ad:List (List UInt8)) (b:List UInt8) (hk:key.length≤9223372036854775807) (hl:ad.length≤9223372036854775807) (hx:∀ x∈ad,x.length≤9223372036854775807) (hb:b.length≤9223372036854775807):aw Tryz.prog G 144 [.sl (key.map bD),cT ad,.sl (b.map bD)] (.tup [.c (.d (.sl ((jU key ad b).map bD))),.c (.d (.int .i64 (cP key ad b.length)))]):=mP (Yj G key ad b hk hl hx hb)
def zY:aH:=⟨3,35,.seq (.reg [oO 6 (.mv (.k (.c .nil))),oO 7 (.mv (kI 0))]) (.seq (.reg [oM 13 0,oM 14 1,oM 15 2,oO 16 (.call 144 [(.t 13),(.t 14),(.t 15)] none),oM 12 16,oO 17 (.extract (.t 12) 0),oO 18 (.extract (.t 12) 1),oM 8 17,oM 9 18]) (.seq (.seq (.reg [oM 19 9,oO 20 (.bin .neq (.t 19) (kI 0))]) (.cond (.t 20) (.seq (.reg [oM 21 9,oO 6 (.mv (.k (.c .nil))),oM 7 21]) (.ret)) (.skip))) (.seq (.reg [oM 23 0,oO 24 (.slice 1 (.t 23) (some (kI 16)) none none),oM 25 8,oO 26 (.call 146 [(.t 25)] none),oM 27 2,oO 28 (.call 145 [(.t 24),(.t 26),(.t 27)] none),oM 22 28,oO 29 (.extract (.t 22) 0),oO 30 (.extract (.t 22) 1),oM 10 29,oM 11 30]) (.seq (.reg [oM 31 8,oM 32 10,oO 33 (.bldSl false 2 1 (.sl []) [(0,(.t 31)),(1,(.t 32))]),oO 34 (.call 43 [(.t 33)] (some (0,1))),oM 6 34,oO 7 (.mv (kI 0))])
 (.ret))))),[(6,none),(7,none)]⟩
theorem T2:aG Tryz.prog { own:=[34],comp:=[],frz:=[],nils:=[] } Tryz.f132=some zY:=by kernel_rfl
theorem V5 (G:ah) (key:List UInt8) (ad:List (List UInt8)) (b:List UInt8) (hk:key.length≤9223372036854775807) (hl:ad.length≤9223372036854775807) (hx:∀ x∈ad,x.length≤9223372036854775807) (hb:b.length≤9223372036854775807):aw Tryz.prog G 132 [.sl (key.map bD),cT ad,.sl (b.map bD)] (.tup [.c (.fr 1 ((fU key ad b).map bD)),.c (.d (.int .i64 (cP key ad b.length)))]):=by
  refine aI Tryz.func132 T2 rfl rfl ?_;have hc:=Yk G key ad b hk hl hx hb;by_cases he:cP key ad (b.length:Int)=0
  ·have hv:jU key ad b=bL key ad b:=if_pos he;have hv2:fU key ad b=bL key ad b++eL key (bL key ad b) b:=if_pos he;obtain⟨k1,k2,k3,k4⟩:=v7 he;have hj:=fQ G [bL key ad b,eL key (bL key ad b) b] (by simp) (by simp[jA,po]; omega);have hf:[bL key ad b,eL key (bL key ad b) b].flatten=bL key ad b++eL key (bL key ad b) b:=by simp
   rw[hf] at hj;have hkd:(key.drop 16).length=16:=by rw[abi]; omega
   have hk2:(key.drop 16).take 16=key.drop 16:=aa9 (by omega);have hct:(ip (bL key ad b)).length=16:=by rw[rC,jA]
   obtain⟨v1,v2⟩:=F9 (c:=ip (bL key ad b)) (b:=b) hkd hct (by omega);have hs:=X0 G (key.drop 16) (ip (bL key ad b)) b (by omega) (by omega) (by omega);rw[v1,v2] at hs;have hsS:fS (aA (key.drop 16)) (ip (bL key ad b)) b=eL key (bL key ad b) b:=rfl;rw[hsS] at hs;rw[he,hv] at hc;rw[he,hv2];simp only[zY,af,ae,aa,seval,iteOmega,toNatUp];refine sC (hc) ?_;simp only[k1,ae,aa,seval,iteOmega,toNatUp];refine sC (Yb G (bL key ad b) (jA _ _ _)) ?_;simp only[hk2,ae,aa,seval,iteOmega,toNatUp];refine sD (hs) ?_;refine sD (hj) ?_;exact bY
  ·have hv:jU key ad b=[]:=if_neg he;have hv2:fU key ad b=[]:=if_neg he;rw[hv] at hc;rw[hv2];rcases vz key ad b.length with e | e | e | e
   ·exact absurd e he
   all_goals
     rw[e] at hc ⊢;simp only[zY,af,ae,aa,seval,iteOmega,toNatUp];refine aW hc rfl (.inl rfl) ?_;simp only[ae,aa,seval,iteOmega,toNatUp];exact bY
theorem V6 (G:ah) (key:List UInt8) (ad:List (List UInt8)) (b:List UInt8) (hk:key.length≤9223372036854775807) (hl:ad.length≤9223372036854775807) (hx:∀ x∈ad,x.length≤9223372036854775807) (hb:b.length≤9223372036854775807):aw Tryz.prog G 132 [.sl (key.map bD),cT ad,.sl (b.map bD)] (.tup [.c (.d (.sl ((fU key ad b).map bD))),.c (.d (.int .i64 (cP key ad b.length)))]):=mP (V5 G key ad b hk hl hx hb)
theorem zZ {key:List UInt8} {ad:List (List UInt8)} {n:Int} (h:key.length=32) (h2:ad.length≤16) (h3:∀ x∈ad,x.length≤65519) (h4:n≤65519):cP key ad n=0:=by
  have:iG ad=false:=by
    unfold iG;rw[aca];intro x hx;have:=h3 x hx
    simpa using this
  unfold cP;rw[if_neg (by omega),if_neg (by omega),if_neg (by rw[this]; simp; omega)]
theorem EN (key tag b:List UInt8):eL key tag (eL key tag b)=b:=QD _ _ _
theorem uR {key b:List UInt8} {ad:List (List UInt8)} (h:cP key ad b.length=0):fU key ad b=bL key ad b++eL key (bL key ad b) b:=if_pos h
theorem Ga {key b:List UInt8} {ad:List (List UInt8)} (T:List UInt8):(bL key ad b++T).take 16=bL key ad b:=by
  rw[List.take_append_of_le_length (by rw[jA]; exact abl _),aa9 (by rw[jA]; exact abl _)]
theorem Gb {key b:List UInt8} {ad:List (List UInt8)} (T:List UInt8):(bL key ad b++T).drop 16=T:=by
  have:=List.drop_left (l₁:=bL key ad b) (l₂:=T);rw[jA] at this;exact this
theorem T3 {key b:List UInt8} {ad:List (List UInt8)} (h:cP key ad b.length=0):qC key ad (bL key ad b++eL key (bL key ad b) b)=0∧Dv key ad (bL key ad b++eL key (bL key ad b) b)=b:=by
  have hl:(bL key ad b++eL key (bL key ad b) b).length=16+b.length:=by rw[aba,jA,po]
  have he:cP key ad (((bL key ad b++eL key (bL key ad b) b).length:Int)-16)=0:=by rw[hl,show ((16+b.length:Nat):Int)-16=(b.length:Int) by omega]; exact h
  obtain⟨e1,e2⟩:=Yh he (by omega) (by rw[Ga,Gb,EN]);refine⟨e1,?_⟩;rw[e2,Ga,Gb,EN]
def sV:List UInt8:=[115,101,99,116,105,109,101,32,117,112]
def sW:List UInt8:=[115,101,99,116,105,109,101,32,100,111,119,110]
def lz:List UInt8:=[115,101,99,116,105,109,101,32,101,120,112,111,114,116]
structure Ch where
  cl:Bool
  se:List UInt8
  sk:List UInt8
  rk:List UInt8
  n:Int
  m:Int
def aX (c:Ch):D:=.agg [.bool c.cl,.sl (c.se.map bD),.sl (c.sk.map bD),.sl (c.rk.map bD),.int .i64 c.n,.int .i64 c.m]
def mC (K:List UInt8):List UInt8:=jd K sV 32
def nI (K:List UInt8):List UInt8:=jd K sW 32
def bZ (cl:Bool) (K:List UInt8) (n m:Int):Ch:=⟨cl,K,bif cl then mC K else nI K,bif cl then nI K else mC K,n,m⟩
def tC:Ch:=⟨false,[],[],[],0,0⟩
def dt (c:Ch):Prop:=c.se.length=32∧(0≤c.n∧c.n≤1099511627776)∧(0≤c.m∧c.m≤1099511627776)∧c.sk=(bif c.cl then mC c.se else nI c.se)∧c.rk=(bif c.cl then nI c.se else mC c.se)
instance (c:Ch):Decidable (dt c):=by unfold dt; exact inferInstance
def qJ (s:List UInt8):Int:=if s.length<16∨65535<s.length then 5 else 0
def qK (cl:Bool) (s h:List UInt8):Ch:=if qJ s=0 then bZ cl (jc (cC h) s) 0 0 else tC
def qL (c:Ch) (n:Int):Int:=if dt c then mu n else 3
def nF (c:Ch) (l x:List UInt8) (n:Int):List UInt8:=if dt c then ju c.se (je lz l x) n else []
theorem PW {cl:Bool} {K:List UInt8} {n m:Int} (h:K.length=32) (h1:0≤n∧n≤1099511627776) (h2:0≤m∧m≤1099511627776):dt (bZ cl K n m):=⟨h,h1,h2,rfl,rfl⟩
def xQ:ByteArray:=⟨#[115,101,99,116,105,109,101,32,117,112]⟩
def xR:ByteArray:=⟨#[115,101,99,116,105,109,101,32,100,111,119,110]⟩
def tF (K:List UInt8):Nat→List D
  | 0=>[.sl [],.sl []]
  | 1=>[.sl ((mC K).map bD),.sl []]
  | _=>[.sl ((mC K).map bD),.sl ((nI K).map bD)]
def tw (cl:Bool) (K:List UInt8) (i:Nat):St:=⟨aQ [(0,.w (.c (.d (.bool cl)))),(1,.w (.c (.d (.sl (K.map bD))))),(7,.w (.c (.pa 1 1))),(11,.w (.c (.d (.agg [.str xQ,.str xR])))),(12,.w (.c (.d (.int .i64 (i:Int)))))],hL [(1,.row 1 (tF K i))],uL [1]⟩
def rI:aN := .seq (.reg [oO 13 (.bin .lss (.t 12) (kI 2))]) (.seq (.cond (.t 13) (.skip) (.exit 0)) (.seq (.block 1 (.seq (.reg [oM 14 12,oO 15 (.idxArr 1 2 .sc (.t 11) (.t 12)),oM 8 14,oM 9 15]) (.reg [oM 17 8,oM 18 1,oM 19 9,oO 20 (.s2b false (.t 19)),oO 21 (.call 128 [(.t 18),(.t 20),(kI 32)] none),oM 16 21,oO 22 (.extract (.t 16) 0),oO 23 (.extract (.t 16) 1),oO 24 (.idxPa 1 2 (.t 7) (.t 17)),oN (.store .sc (.t 24) (.t 22))]))) (.reg [oO 25 (.bin .add (.t 12) (kI 1)),oM 12 25])))
def NI:aH:=⟨2,35,.seq (.reg [oO 4 (.mv (.k (.c .nil))),oO 5 (.mv (.k (.c .nil)))]) (.seq (.reg [oO 10 (.build [(.d (.str ⟨#[]⟩)),(.d (.str ⟨#[]⟩))] [(0,1,(.k (.c (.d (.str ⟨#[115,101,99,116,105,109,101,32,117,112]⟩))))),(1,1,(.k (.c (.d (.str ⟨#[115,101,99,116,105,109,101,32,100,111,119,110]⟩)))))]),oO 6 (.allocArr [(.str ⟨#[]⟩),(.str ⟨#[]⟩)]),oN (.store (.ag 2) (.t 6) (.t 10))]) (.seq (.reg [oO 7 (.allocArr [(.sl []),(.sl [])])]) (.seq (.seq (.reg [oO 11 (.load (.ag 2) (.t 6)),oO 12 (.mv (kI 0))]) (.block 0 (.loop rI))) (.seq (.seq (.reg [oM 26 0]) (.cond (.t 26) (.seq (.reg [oO 27 (.idxPa 1 2 (.t 7) (kI 0)),oO 28 (.load .sc (.t 27)),oO 29 (.idxPa 1 2 (.t 7) (kI 1)),oO 30 (.load .sc (.t 29)),oM 4 28,oM 5 30]) (.ret)) (.skip))) (.seq (.reg [oO 31 (.idxPa 1 2 (.t 7) (kI 1)),oO 32 (.load .sc (.t 31)),
 oO 33 (.idxPa 1 2 (.t 7) (kI 0)),oO 34 (.load .sc (.t 33)),oM 4 32,oM 5 34]) (.ret)))))),[(4,none),(5,none)]⟩
theorem YK:aG Tryz.prog { own:=[],comp:=[],frz:=[],nils:=[] } Tryz.f103=some NI:=by kernel_rfl
theorem aaq (G:ah) (hF:G.at 0=some (.ra (dR.map wD))) (hG:G.at 1=some (.ra (bK.map wD))) (cl:Bool) (K:List UInt8) (hK:K.length≤140737488355328):aw Tryz.prog G 103 [.bool cl,.sl (K.map bD)] (.tup [.c (.d (.sl ((bZ cl K 0 0).sk.map bD))),.c (.d (.sl ((bZ cl K 0 0).rk.map bD)))]):=by
  refine aI Tryz.func103 YK rfl rfl ?_;have s1:xQ.size≤maxLen:=by unfold maxLen; decide
  have s2:xR.size≤maxLen:=by unfold maxLen; decide
  have c1:=CP G hF hG K xQ.data.toList hK (by decide) 32 (by decide) (by decide);have c2:=CP G hF hG K xR.data.toList hK (by decide) 32 (by decide) (by decide);rw[show ju K xQ.data.toList 32=mC K from lT K sV (by decide),mQ (by decide)] at c1;rw[show ju K xR.data.toList 32=nI K from lT K sW (by decide),mQ (by decide)] at c2;simp only[NI,af,ae,aa,seval,iteOmega,toNatUp];refine aU (tw cl K) (fun i=>2-i) (fun i=>i≤2) 0 (by decide) ?_ ?_
  ·refine aj (fun i=>56) ?_ ?_ rfl rfl <;> simp only[wx,ai,am,aa,seval,iteOmega,toNatUp] <;> first | rfl | exact⟨rfl,rfl⟩ | skip
  ·intro i hi;have h3:i=0∨i=1∨i=2:=by omega
   rcases h3 with rfl | rfl | rfl
   ·simp only[rI,tw,tF,ae,aa,seval,iteOmega,toNatUp,s1];refine sD (c1) ?_;refine aM 1 (by decide) (by decide) (aj (fun i=>i) ?_ ?_ rfl rfl) <;> simp only[wx,ai,am,aa,seval,iteOmega,toNatUp] <;> first | rfl | exact⟨rfl,rfl⟩ | skip
   ·simp only[rI,tw,tF,ae,aa,seval,iteOmega,toNatUp,s2];refine sD (c2) ?_;refine aM 2 (by decide) (by decide) (aj (fun i=>i) ?_ ?_ rfl rfl) <;> simp only[wx,ai,am,aa,seval,iteOmega,toNatUp] <;> first | rfl | exact⟨rfl,rfl⟩ | skip
   ·unfold bZ;cases cl
    ·rw[cond_false,cond_false];simp only[rI,tw,tF,ae,aa,seval,iteOmega,toNatUp];exact aE
    ·rw[cond_true,cond_true];simp only[rI,tw,tF,ae,aa,seval,iteOmega,toNatUp];exact aE
def nK (n:Int):Bool:=decide (0≤n∧n≤1099511627776)
def we:aH:=⟨1,9,.seq (.reg [oO 2 (.mv (.k (.c (.d (.bool false)))))]) (.seq (.reg [oM 3 0,oO 4 (.bin .leq (kI 0) (.t 3)),oM 5 4,oG 6 (.mv (.t 0)) 5 true,oG 7 (.bin .leq (.t 6) (kI 1099511627776)) 5 true,oO 8 (.pick (.t 5) (.t 7) (.k (.c (.d (.bool false))))),oM 2 8]) (.ret)),[(2,none)]⟩
theorem YL:aG Tryz.prog { own:=[],comp:=[],frz:=[],nils:=[] } Tryz.f102=some we:=by kernel_rfl
theorem O4 (G:ah) (n:Int):aw Tryz.prog G 102 [.int .i64 n] (.w (.c (.d (.bool (nK n))))):=by
  refine aI Tryz.func102 YL rfl rfl ?_;unfold nK;by_cases h1:0≤n
  ·have g1:(0≤n)=True:=eq_true h1;by_cases h2:n≤1099511627776
   ·have g2:(n≤1099511627776)=True:=eq_true h2;rw[decide_eq_true (And.intro h1 h2)];simp only[we,af,ae,aa,seval,iteOmega,toNatUp,g1,g2];exact aL
   ·have g2:(n≤1099511627776)=False:=eq_false h2;rw[decide_eq_false (fun h=>h2 h.2)];simp only[we,af,ae,aa,seval,iteOmega,toNatUp,g1,g2];exact aL
  ·have g1:(0≤n)=False:=eq_false h1;rw[decide_eq_false (fun h=>h1 h.1)];simp only[we,af,ae,aa,seval,iteOmega,toNatUp,g1];exact aL
theorem Qi (c:Ch):decide (dt c)=(decide (c.se.length=32)&&nK c.n&&nK c.m&&(c.sk==(bZ c.cl c.se 0 0).sk)&&(c.rk==(bZ c.cl c.se 0 0).rk)):=by
  rw[Bool.eq_iff_iff];unfold dt nK bZ;simp only[decide_eq_true_eq,abH,beq_iff_eq,and_assoc]
def pT:aH:=⟨1,39,.seq (.reg [oO 1 (.box .roBox (.t 0)),oO 2 (.mv (.k (.c (.d (.bool false)))))]) (.seq (.seq (.reg [oO 5 (.fieldAddr 1 (.t 1)),oO 6 (.load .sc (.t 5)),oO 7 (.len (.t 6)),oO 8 (.bin .neq (.t 7) (kI 32)),oM 9 8,oG 10 (.fieldAddr 4 (.t 1)) 9 false,oG 11 (.load .sc (.t 10)) 9 false,oG 12 (.call 102 [(.t 11)] none) 9 false,oG 13 (.un .not (.t 12)) 9 false,oO 14 (.pick (.t 9) (.k (.c (.d (.bool true)))) (.t 13)),oM 15 14,oG 16 (.fieldAddr 5 (.t 1)) 15 false,oG 17 (.load .sc (.t 16)) 15 false,oG 18 (.call 102 [(.t 17)] none) 15 false,oG 19 (.un .not (.t 18)) 15 false,oO 20 (.pick (.t 15) (.k (.c (.d (.bool true)))) (.t 19))]) (.cond (.t 20) (.seq (.reg [oO 2 (.mv (.k (.c (.d (.bool false)))))]) (.ret)) (.skip))) (.seq (.reg [oO 22 (.fieldAddr 0 (.t 1)),oO 23 (.load .sc (.t 22)),
 oO 24 (.fieldAddr 1 (.t 1)),oO 25 (.load .sc (.t 24)),oO 26 (.call 103 [(.t 23),(.t 25)] none),oM 21 26,oO 27 (.extract (.t 21) 0),oO 28 (.extract (.t 21) 1),oM 3 27,oM 4 28]) (.seq (.reg [oO 29 (.fieldAddr 2 (.t 1)),oO 30 (.load .sc (.t 29)),oM 31 3,oO 32 (.call 104 [(.t 30),(.t 31)] none),oM 33 32,oG 34 (.fieldAddr 3 (.t 1)) 33 true,oG 35 (.load .sc (.t 34)) 33 true,oG 36 (.mv (.t 4)) 33 true,oG 37 (.call 104 [(.t 35),(.t 36)] none) 33 true,oO 38 (.pick (.t 33) (.t 37) (.k (.c (.d (.bool false))))),oM 2 38]) (.ret)))),[(2,none)]⟩
theorem YM:aG Tryz.prog { own:=[],comp:=[],frz:=[],nils:=[] } Tryz.f62=some pT:=by kernel_rfl
theorem xg (G:ah) (hF:G.at 0=some (.ra (dR.map wD))) (hG:G.at 1=some (.ra (bK.map wD))) (c:Ch):aw Tryz.prog G 62 [aX c] (.w (.c (.d (.bool (decide (dt c)))))):=by
  refine aI Tryz.func62 YM rfl rfl ?_;rw[Qi];have c1:=O4 G c.n;have c2:=O4 G c.m;by_cases h:c.se.length=32
  ·have g:(((c.se.length:Nat):Int)=32)=True:=eq_true (by omega);have c3:=aaq G hF hG c.cl c.se (by omega);have c4:=BD G c.sk (bZ c.cl c.se 0 0).sk;have c5:=BD G c.rk (bZ c.cl c.se 0 0).rk;rw[decide_eq_true h];generalize (bZ c.cl c.se 0 0).sk=S at *
   generalize (bZ c.cl c.se 0 0).rk=R at *
   generalize (c.sk==S)=q1 at *
   generalize (c.rk==R)=q2 at *
   generalize nK c.n=q3 at *
   generalize nK c.m=q4 at *
   unfold aX;cases q3
   ·simp only[pT,af,ae,aa,seval,iteOmega,toNatUp,g];refine sD (c1) ?_;exact aL
   ·cases q4
    ·simp only[pT,af,ae,aa,seval,iteOmega,toNatUp,g];refine sD (c1) ?_;refine sD (c2) ?_;exact aL
    ·cases q1
     ·simp only[pT,af,ae,aa,seval,iteOmega,toNatUp,g];refine sD (c1) ?_;refine sD (c2) ?_;refine sD (c3) ?_;refine sD (c4) ?_;exact aL
     ·simp only[pT,af,ae,aa,seval,iteOmega,toNatUp,g];refine sD (c1) ?_;refine sD (c2) ?_;refine sD (c3) ?_;refine sD (c4) ?_;refine sD (c5) ?_;exact aL
  ·have g:(((c.se.length:Nat):Int)=32)=False:=eq_false (by omega);rw[decide_eq_false h];unfold aX;simp only[pT,af,ae,aa,seval,iteOmega,toNatUp,g];exact aL
def xS:ByteArray:=⟨#[115,101,99,116,105,109,101,32,101,120,112,111,114,116]⟩
def BQ:aH:=⟨4,22,.seq (.reg [oO 4 (.box .roBox (.t 0)),oO 8 (.mv (.k (.c .nil))),oO 9 (.mv (kI 0))]) (.seq (.seq (.reg [oO 10 (.load (.ag 6) (.t 4)),oO 11 (.call 62 [(.t 10)] none),oO 12 (.un .not (.t 11))]) (.cond (.t 12) (.seq (.reg [oO 8 (.mv (.k (.c .nil))),oO 9 (.mv (kI 3))]) (.ret)) (.skip))) (.seq (.reg [oO 13 (.fieldAddr 1 (.t 4)),oO 14 (.load .sc (.t 13)),oM 15 1,oM 16 2,oO 17 (.call 130 [(.k (.c (.d (.str ⟨#[115,101,99,116,105,109,101,32,101,120,112,111,114,116]⟩)))),(.t 15),(.t 16)] none),oM 18 3,oO 19 (.call 128 [(.t 14),(.t 17),(.t 18)] none),oO 20 (.extract (.t 19) 0),oO 21 (.extract (.t 19) 1),oM 8 20,oM 9 21]) (.ret))),[(8,none),(9,none)]⟩
theorem YN:aG Tryz.prog { own:=[],comp:=[],frz:=[],nils:=[] } Tryz.f105=some BQ:=by kernel_rfl
theorem aar (G:ah) (hF:G.at 0=some (.ra (dR.map wD))) (hG:G.at 1=some (.ra (bK.map wD))) (c:Ch) (l:ByteArray) (x:List UInt8) (n:Int) (hl:l.size≤1099511627776) (hx:x.length≤140737488355328) (hn1:-9223372036854775808≤n) (hn2:n≤9223372036854775807):aw Tryz.prog G 105 [aX c,.str l,.sl (x.map bD),.int .i64 n] (.tup [.c (.d (.sl ((nF c l.data.toList x n).map bD))),.c (.d (.int .i64 (qL c n)))]):=by
  refine aI Tryz.func105 YN rfl rfl ?_;have c1:=xg G hF hG c;unfold nF qL;by_cases h:dt c
  ·rw[decide_eq_true h] at c1;rw[if_pos h,if_pos h];have c2:=aam G hF hG xS l x (by decide) hl hx;rw[show xS.data.toList=lz from rfl] at c2;have hs:l.data.toList.length=l.size:=rfl;have c3:=CP G hF hG c.se (je lz l.data.toList x) (by rw[h.1]; decide) (by rw[IM,hs]; have:lz.length=14:=rfl; omega) n hn1 hn2;generalize je lz l.data.toList x=L at *
   generalize ju c.se L n=E at *
   generalize mu n=e at *
   unfold aX at *
   simp only[BQ,af,ae,aa,seval,iteOmega,toNatUp];refine sD (c1) ?_;refine aW c2 (by simp only[ae,aa,seval,iteOmega,toNatUp] <;> rfl) (.inl rfl) ?_;simp only[ae,aa,seval,iteOmega,toNatUp];refine sD (c3) ?_;exact aE
  ·rw[decide_eq_false h] at c1;rw[if_neg h,if_neg h];unfold aX at *
   simp only[BQ,af,ae,aa,seval,iteOmega,toNatUp];refine sD (c1) ?_;exact aE

def BR:aH:=⟨2,32,.seq (.reg [oO 4 (.alloc [(.d (.bool false)),.nil,.nil,.nil,(.d (.int .i64 0)),(.d (.int .i64 0))])]) (.seq (.reg [oM 10 1,oO 11 (.bldSl true 10 1 (.int .u8 0) [(0,(.k (.c (.d (.int .u8 115))))),(1,(.k (.c (.d (.int .u8 101))))),(2,(.k (.c (.d (.int .u8 99))))),(3,(.k (.c (.d (.int .u8 116))))),(4,(.k (.c (.d (.int .u8 105))))),(5,(.k (.c (.d (.int .u8 109))))),(6,(.k (.c (.d (.int .u8 101))))),(7,(.k (.c (.d (.int .u8 32))))),(8,(.k (.c (.d (.int .u8 117))))),(9,(.k (.c (.d (.int .u8 112)))))]),oO 12 (.markF (.t 11)),oO 13 (.call 101 [(.t 10),(.t 12),(kI 32)] none),oM 9 13,oO 14 (.extract (.t 9) 0),oO 15 (.extract (.t 9) 1),oM 5 14,oM 6 15]) (.seq (.reg [oM 17 1,oO 18 (.bldSl true 12 1 (.int .u8 0) [(0,(.k (.c (.d (.int .u8 115))))),(1,(.k (.c (.d (.int .u8 101))))),(2,(.k (.c (.d (.int .u8 99))))),(3,(.k (.c (.d (.int .u8 116))))),(4,(.k (.c (.d (.int .u8 105))))),(5,(.k (.c (.d (.int .u8 109))))),(6,(.k (.c (.d (.int .u8 101))))),(7,(.k (.c (.d (.int .u8 32))))),(8,(.k (.c (.d (.int .u8 100))))),(9,(.k (.c (.d (.int .u8 111))))),(10,(.k (.c (.d (.int .u8 119))))),(11,(.k (.c (.d (.int .u8 110)))))]),
 oO 19 (.markF (.t 18)),oO 20 (.call 101 [(.t 17),(.t 19),(kI 32)] none),oM 16 20,oO 21 (.extract (.t 16) 0),oO 22 (.extract (.t 16) 1),oM 7 21,oM 8 22]) (.seq (.seq (.reg [oM 23 0]) (.cond (.t 23) (.seq (.reg [oM 24 1,oM 25 5,oM 26 7,oO 27 (.build [(.d (.bool false)),.nil,.nil,.nil,(.d (.int .i64 0)),(.d (.int .i64 0))] [(0,1,(.k (.c (.d (.bool true))))),(1,1,(.t 24)),(2,1,(.t 25)),(3,1,(.t 26))]),oN (.store (.ag 6) (.t 4) (.t 27))]) (.ret)) (.skip))) (.seq (.reg [oM 28 1,oM 29 7,oM 30 5,oO 31 (.build [(.d (.bool false)),.nil,.nil,.nil,(.d (.int .i64 0)),(.d (.int .i64 0))] [(1,1,(.t 28)),(2,1,(.t 29)),(3,1,(.t 30))]),oN (.store (.ag 6) (.t 4) (.t 31))]) (.ret))))),[(4,(some (.ag 6)))]⟩
theorem YO:aG Tryz.prog { own:=[11,18],comp:=[],frz:=[12,19],nils:=[] } Tryz.f98=some BR:=by kernel_rfl
theorem O5 (G:ah) (cl:Bool) (K:List UInt8) (hK:K.length≤140737488355328):aw Tryz.prog G 98 [.bool cl,.sl (K.map bD)] (.w (.c (.d (aX (bZ cl K 0 0))))):=by
  refine aI Tryz.func98 YO rfl rfl ?_;have c1:=wb G K sV hK (by decide) 32 (by decide) (by decide);have c2:=wb G K sW hK (by decide) 32 (by decide) (by decide);rw[show ju K sV 32=mC K from lT K sV (by decide),mQ (by decide)] at c1;rw[show ju K sW 32=nI K from lT K sW (by decide),mQ (by decide)] at c2;unfold aX bZ;dsimp only;generalize mC K=U at *
  generalize nI K=W at *
  cases cl
  ·rw[cond_false,cond_false];simp only[BR,af,ae,aa,seval,iteOmega,toNatUp];refine aW c1 (by simp only[ae,aa,seval,iteOmega,toNatUp] <;> rfl) (.inl rfl) ?_;simp only[ae,aa,seval,iteOmega,toNatUp];refine aW c2 (by simp only[ae,aa,seval,iteOmega,toNatUp] <;> rfl) (.inl rfl) ?_;simp only[ae,aa,seval,iteOmega,toNatUp];exact aL
  ·rw[cond_true,cond_true];simp only[BR,af,ae,aa,seval,iteOmega,toNatUp];refine aW c1 (by simp only[ae,aa,seval,iteOmega,toNatUp] <;> rfl) (.inl rfl) ?_;simp only[ae,aa,seval,iteOmega,toNatUp];refine aW c2 (by simp only[ae,aa,seval,iteOmega,toNatUp] <;> rfl) (.inl rfl) ?_;simp only[ae,aa,seval,iteOmega,toNatUp];exact aL
def wg:aH:=⟨3,23,.seq (.reg [oO 6 (.alloc [(.d (.bool false)),.nil,.nil,.nil,(.d (.int .i64 0)),(.d (.int .i64 0))]),oO 7 (.mv (kI 0))]) (.seq (.seq (.reg [oM 8 1,oO 9 (.len (.t 8)),oO 10 (.bin .lss (.t 9) (kI 16)),oM 11 10,oG 12 (.mv (.t 1)) 11 false,oG 13 (.len (.t 12)) 11 false,oG 14 (.bin .gtr (.t 13) (kI 65535)) 11 false,oO 15 (.pick (.t 11) (.k (.c (.d (.bool true)))) (.t 14))]) (.cond (.t 15) (.seq (.reg [oO 16 (.build [(.d (.bool false)),.nil,.nil,.nil,(.d (.int .i64 0)),(.d (.int .i64 0))] []),oN (.store (.ag 6) (.t 6) (.t 16)),oO 7 (.mv (kI 5))]) (.ret)) (.skip))) (.seq (.reg [oM 17 0,oM 18 2,oO 19 (.call 84 [(.t 18)] none),oM 20 1,oO 21 (.call 100 [(.t 19),(.t 20)] none),oO 22 (.call 98 [(.t 17),(.t 21)] none),oN (.store (.ag 6) (.t 6) (.t 22)),oO 7 (.mv (kI 0))]) (.ret))),
 [(6,(some (.ag 6))),(7,none)]⟩
theorem YP:aG Tryz.prog { own:=[],comp:=[],frz:=[],nils:=[] } Tryz.f58=some wg:=by kernel_rfl
theorem O6 (G:ah) (cl:Bool) (s h:List UInt8) (hs:s.length≤9223372036854775807) (hh:h.length≤140737488355328):aw Tryz.prog G 58 [.bool cl,.sl (s.map bD),.sl (h.map bD)] (.tup [.c (.d (aX (qK cl s h))),.c (.d (.int .i64 (qJ s)))]):=by
  refine aI Tryz.func58 YP rfl rfl ?_;by_cases h1:s.length<16
  ·have e:qJ s=5:=if_pos (.inl h1);rw[show qK cl s h=tC from if_neg (by rw[e]; decide),e];have g1:((s.length:Int)<16)=True:=eq_true (by omega);unfold aX tC;simp only[wg,af,ae,aa,seval,iteOmega,toNatUp,g1];exact aE
  ·have g1:((s.length:Int)<16)=False:=eq_false (by omega);by_cases h2:65535<s.length
   ·have e:qJ s=5:=if_pos (.inr h2);rw[show qK cl s h=tC from if_neg (by rw[e]; decide),e];have g2:((s.length:Int)>65535)=True:=eq_true (by omega);unfold aX tC;simp only[wg,af,ae,aa,seval,iteOmega,toNatUp,g1,g2];exact aE
   ·have e:qJ s=0:=if_neg (by omega);rw[show qK cl s h=bZ cl (jc (cC h) s) 0 0 from if_pos e,e];have g2:((s.length:Int)>65535)=False:=eq_false (by omega);have c1:=pQ G h hh;have c2:=Ys G (cC h) s (by rw[ie]; decide) (by omega);have c3:=O5 G cl (jc (cC h) s) (by rw[pq]; decide);generalize bZ cl (jc (cC h) s) 0 0=C at *
    generalize jc (cC h) s=M at *
    generalize cC h=H at *
    unfold aX at *
    simp only[wg,af,ae,aa,seval,iteOmega,toNatUp,g1,g2];refine sD (c1) ?_;refine sD (c2) ?_;refine sD (c3) ?_;exact aE
def fE (s:Int):List UInt8:=jc (cC (bE s 20)) (bE s 32)
theorem Ww (s:Int):(fE s).length=32:=pq _ _
def NK:aH:=⟨1,26,.seq (.reg [oO 2 (.alloc [(.d (.bool false)),.nil,.nil,.nil,(.d (.int .i64 0)),(.d (.int .i64 0))]),oO 3 (.alloc [(.d (.bool false)),.nil,.nil,.nil,(.d (.int .i64 0)),(.d (.int .i64 0))])]) (.seq (.reg [oM 9 0,oO 10 (.call 59 [(.t 9)] none),oM 11 0,oO 12 (.call 35 [(.t 11),(kI 20)] none),oO 13 (.call 58 [(.k (.c (.d (.bool true)))),(.t 10),(.t 12)] none),oM 8 13,oO 14 (.extract (.t 8) 0),oO 15 (.extract (.t 8) 1),oO 4 (.alloc [(.d (.bool false)),.nil,.nil,.nil,(.d (.int .i64 0)),(.d (.int .i64 0))]),oN (.store (.ag 6) (.t 4) (.t 14)),oM 5 15]) (.seq (.reg [oM 17 0,oO 18 (.call 59 [(.t 17)] none),oM 19 0,oO 20 (.call 35 [(.t 19),(kI 20)] none),oO 21 (.call 58 [(.k (.c (.d (.bool false)))),(.t 18),(.t 20)] none),oM 16 21,oO 22 (.extract (.t 16) 0),oO 23 (.extract (.t 16) 1),
 oO 6 (.alloc [(.d (.bool false)),.nil,.nil,.nil,(.d (.int .i64 0)),(.d (.int .i64 0))]),oN (.store (.ag 6) (.t 6) (.t 22)),oM 7 23]) (.seq (.reg [oO 24 (.loadX (.ag 6) (.t 4) [(.t 2),(.t 3)]),oO 25 (.loadX (.ag 6) (.t 6) [(.t 2),(.t 3)]),oN (.store (.ag 6) (.t 2) (.t 24)),oN (.store (.ag 6) (.t 3) (.t 25))]) (.ret)))),[(2,(some (.ag 6))),(3,(some (.ag 6)))]⟩
theorem YQ:aG Tryz.prog { own:=[],comp:=[],frz:=[],nils:=[],lx:=[(24,[2,3]),(25,[2,3])] } Tryz.f23=some NK:=by kernel_rfl
theorem O7 (G:ah) (s:Int):aw Tryz.prog G 23 [.int .i64 s] (.tup [.c (.d (aX (bZ true (fE s) 0 0))),.c (.d (aX (bZ false (fE s) 0 0)))]):=by
  refine aI Tryz.func23 YQ rfl rfl ?_;have c1:=NJ G s;have c2:=uS G s 20 (by decide);have l1:(bE s 32).length=32:=qW _ _;have l2:(bE s 20).length=20:=qW _ _;have e:qJ (bE s 32)=0:=if_neg (by omega);have c3:=O6 G true (bE s 32) (bE s 20) (by omega) (by omega);have c4:=O6 G false (bE s 32) (bE s 20) (by omega) (by omega);rw[show qK true (bE s 32) (bE s 20)=bZ true (fE s) 0 0 from if_pos e,e] at c3;rw[show qK false (bE s 32) (bE s 20)=bZ false (fE s) 0 0 from if_pos e,e] at c4;generalize bE s 32=B1 at *
  generalize bE s 20=B2 at *
  generalize bZ true (fE s) 0 0=X at *
  generalize bZ false (fE s) 0 0=Y at *
  unfold aX at *
  simp only[NK,af,ae,aa,seval,iteOmega,toNatUp];refine sD (c1) ?_;refine sD (c2) ?_;refine sD (c3) ?_;refine sD (c1) ?_;refine sD (c2) ?_;refine sD (c4) ?_;exact aE
def nb:aH:=⟨1,45,.seq (.reg [oO 1 (.box .roBox (.t 0)),oO 2 (.mv (.k (.c (.d (.bool false)))))]) (.seq (.seq (.reg [oO 4 (.fieldAddr 1 (.t 1)),oO 5 (.load .sc (.t 4)),oO 6 (.len (.t 5)),oO 7 (.bin .neq (.t 6) (kI 32)),oM 8 7,oG 9 (.fieldAddr 4 (.t 1)) 8 false,oG 10 (.load .sc (.t 9)) 8 false,oG 11 (.bin .lss (.t 10) (kI 0)) 8 false,oO 12 (.pick (.t 8) (.k (.c (.d (.bool true)))) (.t 11)),oM 13 12,oG 14 (.fieldAddr 4 (.t 1)) 13 false,oG 15 (.load .sc (.t 14)) 13 false,oG 16 (.bin .gtr (.t 15) (kI 1099511627776)) 13 false,oO 17 (.pick (.t 13) (.k (.c (.d (.bool true)))) (.t 16)),oM 18 17,oG 19 (.fieldAddr 5 (.t 1)) 18 false,oG 20 (.load .sc (.t 19)) 18 false,oG 21 (.bin .lss (.t 20) (kI 0)) 18 false,oO 22 (.pick (.t 18) (.k (.c (.d (.bool true)))) (.t 21)),oM 23 22,oG 24 (.fieldAddr 5 (.t 1)) 23 false,
 oG 25 (.load .sc (.t 24)) 23 false,oG 26 (.bin .gtr (.t 25) (kI 1099511627776)) 23 false,oO 27 (.pick (.t 23) (.k (.c (.d (.bool true)))) (.t 26))]) (.cond (.t 27) (.seq (.reg [oO 2 (.mv (.k (.c (.d (.bool false)))))]) (.ret)) (.skip))) (.seq (.reg [oO 28 (.fieldAddr 0 (.t 1)),oO 29 (.load .sc (.t 28)),oO 30 (.fieldAddr 1 (.t 1)),oO 31 (.load .sc (.t 30)),oO 32 (.call 98 [(.t 29),(.t 31)] none),oO 3 (.alloc [(.d (.bool false)),.nil,.nil,.nil,(.d (.int .i64 0)),(.d (.int .i64 0))]),oN (.store (.ag 6) (.t 3) (.t 32))]) (.seq (.reg [oO 33 (.fieldAddr 2 (.t 3)),oO 34 (.load .sc (.t 33)),oO 35 (.fieldAddr 2 (.t 1)),oO 36 (.load .sc (.t 35)),oO 37 (.call 20 [(.t 34),(.t 36)] none),oM 38 37,oG 39 (.fieldAddr 3 (.t 3)) 38 true,oG 40 (.load .sc (.t 39)) 38 true,oG 41 (.fieldAddr 3 (.t 1)) 38 true,
 oG 42 (.load .sc (.t 41)) 38 true,oG 43 (.call 20 [(.t 40),(.t 42)] none) 38 true,oO 44 (.pick (.t 38) (.t 43) (.k (.c (.d (.bool false))))),oM 2 44]) (.ret)))),[(2,none)]⟩
theorem YR:aG Tryz.prog { own:=[],comp:=[],frz:=[],nils:=[] } Tryz.f41=some nb:=by kernel_rfl
theorem xh (G:ah) (c:Ch):aw Tryz.prog G 41 [aX c] (.w (.c (.d (.bool (decide (dt c)))))):=by
  refine aI Tryz.func41 YR rfl rfl ?_;rw[Qi];by_cases h:c.se.length=32
  ·have g:(((c.se.length:Nat):Int)=32)=True:=eq_true (by omega);rw[decide_eq_true h];have c3:=O5 G c.cl c.se (by omega);have c4:=nY G (bZ c.cl c.se 0 0).sk c.sk;have c5:=nY G (bZ c.cl c.se 0 0).rk c.rk;rw[Bool.beq_comm] at c4 c5;unfold aX at *
   generalize (bZ c.cl c.se 0 0).sk=S at *
   generalize (bZ c.cl c.se 0 0).rk=R at *
   generalize (c.sk==S)=q1 at *
   generalize (c.rk==R)=q2 at *
   unfold nK;by_cases h1:c.n<0
   ·have g1:(c.n<0)=True:=eq_true h1;rw[decide_eq_false (show ¬ (0≤c.n∧c.n≤1099511627776) by omega)];simp only[nb,af,ae,aa,seval,iteOmega,toNatUp,g,g1];exact aL
   ·have g1:(c.n<0)=False:=eq_false h1;by_cases h2:1099511627776<c.n
    ·have g2:(c.n>1099511627776)=True:=eq_true h2;rw[decide_eq_false (show ¬ (0≤c.n∧c.n≤1099511627776) by omega)];simp only[nb,af,ae,aa,seval,iteOmega,toNatUp,g,g1,g2];exact aL
    ·have g2:(c.n>1099511627776)=False:=eq_false h2;rw[decide_eq_true (show 0≤c.n∧c.n≤1099511627776 by omega)];by_cases h3:c.m<0
     ·have g3:(c.m<0)=True:=eq_true h3;rw[decide_eq_false (show ¬ (0≤c.m∧c.m≤1099511627776) by omega)];simp only[nb,af,ae,aa,seval,iteOmega,toNatUp,g,g1,g2,g3];exact aL
     ·have g3:(c.m<0)=False:=eq_false h3;by_cases h4:1099511627776<c.m
      ·have g4:(c.m>1099511627776)=True:=eq_true h4;rw[decide_eq_false (show ¬ (0≤c.m∧c.m≤1099511627776) by omega)];simp only[nb,af,ae,aa,seval,iteOmega,toNatUp,g,g1,g2,g3,g4];exact aL
      ·have g4:(c.m>1099511627776)=False:=eq_false h4;rw[decide_eq_true (show 0≤c.m∧c.m≤1099511627776 by omega)];cases q1
       ·simp only[nb,af,ae,aa,seval,iteOmega,toNatUp,g,g1,g2,g3,g4];refine sD (c3) ?_;refine sD (c4) ?_;exact aL
       ·simp only[nb,af,ae,aa,seval,iteOmega,toNatUp,g,g1,g2,g3,g4];refine sD (c3) ?_;refine sD (c4) ?_;refine sD (c5) ?_;exact aL
  ·have g:(((c.se.length:Nat):Int)=32)=False:=eq_false (by omega);rw[decide_eq_false h];unfold aX;simp only[nb,af,ae,aa,seval,iteOmega,toNatUp,g];exact aL
def BS:aH:=⟨4,22,.seq (.reg [oO 4 (.box .roBox (.t 0)),oO 8 (.mv (.k (.c .nil))),oO 9 (.mv (kI 0))]) (.seq (.seq (.reg [oO 10 (.load (.ag 6) (.t 4)),oO 11 (.call 41 [(.t 10)] none),oO 12 (.un .not (.t 11))]) (.cond (.t 12) (.seq (.reg [oO 8 (.mv (.k (.c .nil))),oO 9 (.mv (kI 3))]) (.ret)) (.skip))) (.seq (.reg [oO 13 (.fieldAddr 1 (.t 4)),oO 14 (.load .sc (.t 13)),oM 15 1,oM 16 2,oO 17 (.call 106 [(.k (.c (.d (.str ⟨#[115,101,99,116,105,109,101,32,101,120,112,111,114,116]⟩)))),(.t 15),(.t 16)] none),oM 18 3,oO 19 (.call 101 [(.t 14),(.t 17),(.t 18)] (some (0,1))),oO 20 (.extract (.t 19) 0),oO 21 (.extract (.t 19) 1),oM 8 20,oM 9 21]) (.ret))),[(8,none),(9,none)]⟩
theorem YS:aG Tryz.prog { own:=[],comp:=[(19,0)],frz:=[],nils:=[] } Tryz.f64=some BS:=by kernel_rfl
theorem O8 (G:ah) (c:Ch) (l:ByteArray) (x:List UInt8) (n:Int) (hl:l.size≤1099511627776) (hx:x.length≤140737488355328) (hn1:-9223372036854775808≤n) (hn2:n≤9223372036854775807):aw Tryz.prog G 64 [aX c,.str l,.sl (x.map bD),.int .i64 n] (.tup [.c (.fr 1 ((nF c l.data.toList x n).map bD)),.c (.d (.int .i64 (qL c n)))]):=by
  refine aI Tryz.func64 YS rfl rfl ?_;have c1:=xh G c;unfold nF qL;by_cases h:dt c
  ·rw[decide_eq_true h] at c1;rw[if_pos h,if_pos h];have c2:=Yv G xS l x (by decide) hl hx;rw[show xS.data.toList=lz from rfl] at c2;have hs:l.data.toList.length=l.size:=rfl;have c3:=Nu G c.se (je lz l.data.toList x) (by rw[h.1]; decide) (by rw[IM,hs]; have:lz.length=14:=rfl; omega) n hn1 hn2;generalize je lz l.data.toList x=L at *
   generalize ju c.se L n=E at *
   generalize mu n=e at *
   unfold aX at *
   simp only[BS,af,ae,aa,seval,iteOmega,toNatUp];refine sD (c1) ?_;refine aW c2 (by simp only[ae,aa,seval,iteOmega,toNatUp] <;> rfl) (.inl rfl) ?_;simp only[ae,aa,seval,iteOmega,toNatUp];refine sD (c3) ?_;exact bY
  ·rw[decide_eq_false h] at c1;rw[if_neg h,if_neg h];unfold aX at *
   simp only[BS,af,ae,aa,seval,iteOmega,toNatUp];refine sD (c1) ?_;exact bY
end Go.Proofs.YtlghfnidknfakaaGreatDoor
