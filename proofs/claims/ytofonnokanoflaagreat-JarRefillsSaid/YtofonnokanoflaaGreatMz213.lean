/- Texts of one's own, merged: from: Layer 6 on data: tags,sealed bytes,opened ones; both codes. Own work. -/
import Derived.Shelf.Abstract
import Derived.Test.YtofonnokanoflaaGreatMz211
import Derived.Test.YtofonnokanoflaaGreatMz210
import Derived.Test.YtofonnokanoflaaGreatMz212
set_option linter.unusedVariables false
set_option linter.unusedSimpArgs false
namespace Go.Proofs.YtofonnokanoflaaGreat
open Go.RowKit IntWalk
set_option maxHeartbeats 3200000
def ii (tag:List UInt8):List UInt8:=(tag.set 8 (gB (tag.getD 8 0) 127)).set 12 (gB (tag.getD 12 0) 127)
theorem rC (tag:List UInt8):(ii tag).length=tag.length:=by unfold ii; rw[acJ,acJ]
def ci (key:List UInt8) (ad:List (List UInt8)) (b:List UInt8):List UInt8:=iY (am (key.take 16)) (ad++[b])
theorem kL (key:List UInt8) (ad:List (List UInt8)) (b:List UInt8):(ci key ad b).length=16:=Tp _ _
def cX (key tag b:List UInt8):List UInt8:=fU (am (key.drop 16)) (ii tag) b
theorem lI (key tag b:List UInt8):(cX key tag b).length=b.length:=rb _ _ _
def iC (l:List (List UInt8)):Bool:=l.any fun x=>decide (65519<x.length)
def cp (key:List UInt8) (ad:List (List UInt8)) (n:Int):Int:=if key.length≠32 then 5 else if 16<ad.length then 8 else if iC ad=true∨65519<n then 2 else 0
def lm (key:List UInt8) (ad:List (List UInt8)) (b:List UInt8):List UInt8:=if cp key ad b.length=0 then ci key ad b else []
def nX (key:List UInt8) (ad:List (List UInt8)) (b:List UInt8):List UInt8:=if cp key ad b.length=0 then ci key ad b++cX key (ci key ad b) b else []
def gj (key:List UInt8) (ad:List (List UInt8)) (s:List UInt8):Int :=
  if cp key ad ((s.length:Int)-16)≠0 then cp key ad ((s.length:Int)-16) else if s.length<16 then 1 else if s.take 16=ci key ad (cX key (s.take 16) (s.drop 16)) then 0 else 6
def gZ (key:List UInt8) (ad:List (List UInt8)) (s:List UInt8):List UInt8:=if gj key ad s=0 then cX key (s.take 16) (s.drop 16) else []
theorem TF {l:List (List UInt8)} (h:∀ j,j<l.length→(l.getD j []).length≤65519):iC l=false:=by
  unfold iC;rw[ac4];intro x hx;obtain⟨j,hj,rfl⟩:=acj hx;have:=h j hj;rw[abI,abF hj] at this
  simpa using this
theorem RZ {l:List (List UInt8)} {j:Nat} (hj:j<l.length) (h:65519<(l.getD j []).length):iC l=true:=by
  unfold iC;rw[adG];exact⟨_,yK hj,decide_eq_true h⟩
theorem R0 {l:List (List UInt8)} (h:iC l=false):∀ x∈l,x.length≤65519:=by
  unfold iC at h;rw[ac4] at h;intro x hx
  simpa using h x hx
theorem sH {key:List UInt8} {ad:List (List UInt8)} {n:Int} (h:cp key ad n=0):key.length=32∧ad.length≤16∧iC ad=false∧n≤65519:=by
  unfold cp at h;split at h
  ·cases h
  ·split at h
   ·cases h
   ·split at h
    ·cases h
    ·rename_i h1 h2 h3;cases hl:iC ad
     ·exact⟨by omega,by omega,rfl,by omega⟩
     ·exact absurd (.inl hl) h3
theorem rU (key:List UInt8) (ad:List (List UInt8)) (n:Int):cp key ad n=0∨cp key ad n=5∨cp key ad n=8∨cp key ad n=2:=by
  unfold cp;split
  ·exact .inr (.inl rfl)
  ·split
   ·exact .inr (.inr (.inl rfl))
   ·split
    ·exact .inr (.inr (.inr rfl))
    ·exact .inl rfl
theorem Kg {k:List UInt8} {l:List (List UInt8)} (h:k.length=16) (hn:l.length≤17) (hl:∀ x∈l,x.length≤65535):tx k l=iY (am k) l∧qC k l=0:=by
  have:k7 l=false:=by
    unfold k7;rw[ac4];intro x hx;have:=hl x hx
    simpa using this
  refine⟨if_pos ⟨h,hn,this⟩,?_⟩;unfold qC;rw[if_neg (by omega),if_neg (by omega),this,if_neg (by simp)]
theorem FG {k c b:List UInt8} (h:k.length=16) (hc:c.length=16) (hb:b.length≤65535):sZ k c b=fU (am k) c b∧kh k c b=0:=by
  refine⟨if_pos ⟨h,hc,hb⟩,?_⟩;unfold kh;rw[if_neg (by omega),if_neg (by omega),if_neg (by omega)]
theorem wh {ad:List (List UInt8)} {b:List UInt8} (h:iC ad=false) (hb:b.length≤65519):∀ x∈ad++[b],x.length≤65535:=by
  intro x hx;rcases ab5.1 hx with hx | hx
  ·have:=R0 h x hx; omega
  ·simp only[abU] at hx; subst hx; omega
def AB:aG:=⟨1,6,.seq (.reg [oO 2 (.mv (.k (.c (.d (.bool false)))))]) (.seq (.reg [oM 3 0,oO 4 (.len (.t 3)),oO 5 (.bin .gtr (.t 4) (kI 65519)),oM 2 5]) (.ret)),[(2,none)]⟩
theorem Vp:aF Tryz.prog { own:=[],comp:=[],frz:=[],nils:=[] } Tryz.f116=some AB:=by kernel_rfl
theorem X0 (G:ah) (x:List UInt8) (hx:x.length≤9223372036854775807):qw Tryz.prog G 116 [] [.sl (x.map bD)] (.w (.c (.d (.bool (decide (65519<x.length)))))):=by
  refine⟨enters_of Tryz.func116 (by kernel_rfl) rfl,?_⟩;refine aI Tryz.func116 Vp rfl rfl ?_;by_cases h:65519<x.length
  ·have hd:decide (65519<x.length)=true:=decide_eq_true h;rw[hd];simp only[AB,af,ae,aa,seval,iteOmega,toNatUp];exact aM
  ·have hd:decide (65519<x.length)=false:=decide_eq_false h;rw[hd];simp only[AB,af,ae,aa,seval,iteOmega,toNatUp];exact aM
def pP:aG:=⟨3,21,.seq (.reg [oO 6 (.mv (kI 0))]) (.seq (.seq (.reg [oM 8 0,oO 9 (.len (.t 8)),oO 10 (.bin .neq (.t 9) (kI 32))]) (.cond (.t 10) (.seq (.reg [oO 6 (.mv (kI 5))]) (.ret)) (.skip))) (.seq (.seq (.reg [oM 11 1,oO 12 (.len (.t 11)),oO 13 (.bin .gtr (.t 12) (kI 16))]) (.cond (.t 13) (.seq (.reg [oO 6 (.mv (kI 8))]) (.ret)) (.skip))) (.seq (.reg [oO 7 (.mv (.k (.c (.d (.fn 116 [])))))]) (.seq (.seq (.reg [oM 14 1,oM 15 7,oO 16 (.call 83 [(.t 14),(.t 15)] none),oM 17 16,oG 18 (.mv (.t 2)) 17 false,oG 19 (.bin .gtr (.t 18) (kI 65519)) 17 false,oO 20 (.pick (.t 17) (.k (.c (.d (.bool true)))) (.t 19))]) (.cond (.t 20) (.seq (.reg [oO 6 (.mv (kI 2))]) (.ret)) (.skip))) (.seq (.reg [oO 6 (.mv (kI 0))]) (.ret)))))),[(6,none)]⟩
theorem X1:aF Tryz.prog { own:=[],comp:=[],frz:=[],nils:=[] } Tryz.f96=some pP:=by kernel_rfl
theorem OT (G:ah) (key:List UInt8) (ad:List (List UInt8)) (n:Int) (hk:key.length≤9223372036854775807) (hl:ad.length≤9223372036854775807) (hb:∀ x∈ad,x.length≤9223372036854775807):aB Tryz.prog G 96 [.sl (key.map bD),eF ad,.int .i64 n] (.w (.c (.d (.int .i64 (cp key ad n))))):=by
  refine aI Tryz.func96 X1 rfl rfl ?_;have hc:=MG G ad 116 [] (fun x=>decide (65519<x.length)) hl (fun x hx=>X0 G x (hb x hx));have hL:(ad.any fun x=>decide (65519<x.length))=iC ad:=rfl;rw[hL] at hc;unfold cp;by_cases h:key.length=32
  ·rw[if_neg (by omega)];by_cases h2:16<ad.length
   ·rw[if_pos h2];simp only[pP,af,ae,aa,seval,iteOmega,toNatUp];exact aM
   ·rw[if_neg h2];cases hl:iC ad
    ·rw[hl] at hc;by_cases h3:65519<n
     ·rw[if_pos (.inr h3)];simp only[pP,af,ae,aa,seval,iteOmega,toNatUp];refine sD (hc) ?_;exact aM
     ·rw[if_neg (by simp; omega)];simp only[pP,af,ae,aa,seval,iteOmega,toNatUp];refine sD (hc) ?_;exact aM
    ·rw[hl] at hc;rw[if_pos (.inl rfl)];simp only[pP,af,ae,aa,seval,iteOmega,toNatUp];refine sD (hc) ?_;exact aM
  ·rw[if_pos h];simp only[pP,af,ae,aa,seval,iteOmega,toNatUp];exact aM
def Kh:aG:=⟨3,23,.seq (.reg [oO 6 (.mv (.k (.c .nil)))]) (.seq (.reg [oM 10 1,oM 11 2,oO 12 (.bldSl false 1 1 (.sl []) [(0,(.t 11))]),oO 13 (.bldSl false 2 1 (.sl []) [(0,(.t 10)),(1,(.t 12))]),oO 14 (.call 117 [(.t 13)] none),oM 7 14]) (.seq (.reg [oM 16 0,oO 17 (.slice 1 (.t 16) none (some (kI 16)) none),oM 18 7,oO 19 (.call 118 [(.t 17),(.t 18)] (some (0,1))),oM 15 19,oO 20 (.extract (.t 15) 0),oO 21 (.extract (.t 15) 1),oM 8 20,oM 9 21]) (.seq (.reg [oM 22 8,oM 6 22]) (.ret)))),[(6,none)]⟩
theorem Vq:aF Tryz.prog { own:=[],comp:=[(19,0)],frz:=[],nils:=[] } Tryz.f97=some Kh:=by kernel_rfl
theorem MW (G:ah) (key:List UInt8) (ad:List (List UInt8)) (b:List UInt8) (h:key.length=32) (hn:ad.length≤16) (hl:iC ad=false) (hb:b.length≤65519):aB Tryz.prog G 97 [.sl (key.map bD),eF ad,.sl (b.map bD)] (.w (.c (.fr 1 ((ci key ad b).map bD)))):=by
  refine aI Tryz.func97 Vq rfl rfl ?_;have hf:[ad,[b]].flatten=ad++[b]:=by simp
  have hc:=Xr G [ad,[b]] (by simp) (by rw[hf]; simp; omega);rw[hf] at hc;have hk:(key.take 16).length=16:=by rw[abN]; omega
  obtain⟨v1,v2⟩:=Kg (l:=ad++[b]) hk (by simp; omega) (wh hl hb);have hv:=XT G (key.take 16) (ad++[b]) (by omega) (by simp; omega) (fun x hx=>acy (wh hl hb x hx) (by decide));rw[v1,v2] at hv;have ht:iY (am (key.take 16)) (ad++[b])=ci key ad b:=rfl;rw[ht] at hv;simp only[Kh,af,ae,aa,seval,iteOmega,toNatUp];refine sD (hc) ?_;refine sD (hv) ?_;exact fM
theorem rV {tag:List UInt8} (h:tag.length=16) {i:Nat} (hi:i<16):tag[i]?=some (tag.getD i 0):=by
  rw[abI,abF (by omega)]; rfl
theorem Ki {tag:List UInt8} (h:tag.length=16) (x:UInt8):(tag.set 8 x)[12]?=some (tag.getD 12 0):=by
  rw[List.getElem?_set_ne (by decide),rV h (by decide)]
def MX:aG:=⟨1,18,.seq (.reg [oO 2 (.mv (.k (.c .nil)))]) (.seq (.reg [oM 4 0,oO 5 (.bldSl false 1 1 (.sl []) [(0,(.t 4))]),oO 6 (.call 50 [(.t 5)] (some (0,1))),oM 3 6]) (.seq (.reg [oM 7 3,oO 8 (.idxSl 1 (.t 7) (kI 8)),oO 9 (.load .sc (.t 8)),oO 10 (.bin .and (.t 9) (.k (.c (.d (.int .u8 127))))),oO 11 (.idxSl 1 (.t 7) (kI 8)),oN (.store .sc (.t 11) (.t 10))]) (.seq (.reg [oM 12 3,oO 13 (.idxSl 1 (.t 12) (kI 12)),oO 14 (.load .sc (.t 13)),oO 15 (.bin .and (.t 14) (.k (.c (.d (.int .u8 127))))),oO 16 (.idxSl 1 (.t 12) (kI 12)),oN (.store .sc (.t 16) (.t 15))]) (.seq (.reg [oM 17 3,oM 2 17]) (.ret))))),[(2,none)]⟩
theorem X2:aF Tryz.prog { own:=[6],comp:=[],frz:=[],nils:=[] } Tryz.f107=some MX:=by kernel_rfl
theorem aaf (G:ah) (tag:List UInt8) (h:tag.length=16):aB Tryz.prog G 107 [.sl (tag.map bD)] (.w (.c (.fr 1 ((ii tag).map bD)))):=by
  refine aI Tryz.func107 X2 rfl rfl ?_;have hj:=fc G [tag] (by simp) (by simp; omega);have hf:[tag].flatten=tag:=by simp
  rw[hf] at hj;have g1:=rV h (i:=8) (by decide);have g2:=rV h (i:=12) (by decide);have g3:=Ki h (gB (tag.getD 8 0) 127);have x1:=pJ (tag.getD 8 0) 127 127 rfl;have x2:=pJ (tag.getD 12 0) 127 127 rfl;have hs:(tag.set 8 (gB (tag.getD 8 0) 127)).set 12 (gB (tag.getD 12 0) 127)=ii tag:=rfl;simp only[MX,af,ae,aa,seval,iteOmega,toNatUp];refine sC (hj) ?_;simp only[aD,g1,g2,g3,x1,x2,nI,hs,ae,aa,seval,iteOmega,toNatUp];exact v6 (by simp only[ae,aa,seval,iteOmega,toNatUp,rC])
theorem aag (G:ah) (tag:List UInt8) (h:tag.length=16):aB Tryz.prog G 107 [.sl (tag.map bD)] (.w (.c (.d (.sl ((ii tag).map bD))))):=kW (aaf G tag h)
def Kj:aG:=⟨1,20,.seq (.reg [oO 2 (.mv (.k (.c .nil)))]) (.seq (.reg [oM 4 0,oO 5 (.bldSl false 1 1 (.sl []) [(0,(.t 4))]),oO 6 (.call 41 [(.t 5)] (some (0,1))),oM 3 6]) (.seq (.reg [oM 7 3,oM 8 3,oM 9 3,oO 10 (.idxSl 1 (.t 9) (kI 8)),oO 11 (.load .sc (.t 10)),oO 12 (.bin .and (.t 11) (.k (.c (.d (.int .u8 127))))),oM 13 3,oO 14 (.idxSl 1 (.t 13) (kI 12)),oO 15 (.load .sc (.t 14)),oO 16 (.bin .and (.t 15) (.k (.c (.d (.int .u8 127))))),oO 17 (.idxSl 1 (.t 7) (kI 8)),oN (.store .sc (.t 17) (.t 12)),oO 18 (.idxSl 1 (.t 8) (kI 12)),oN (.store .sc (.t 18) (.t 16))]) (.seq (.reg [oM 19 3,oM 2 19]) (.ret)))),[(2,none)]⟩
theorem Vr:aF Tryz.prog { own:=[6],comp:=[],frz:=[],nils:=[] } Tryz.f89=some Kj:=by kernel_rfl
theorem X3 (G:ah) (tag:List UInt8) (h:tag.length=16):aB Tryz.prog G 89 [.sl (tag.map bD)] (.w (.c (.fr 1 ((ii tag).map bD)))):=by
  refine aI Tryz.func89 Vr rfl rfl ?_;have hj:=fR G [tag] (by simp) (by simp; omega);have hf:[tag].flatten=tag:=by simp
  rw[hf] at hj;have g1:=rV h (i:=8) (by decide);have g2:=rV h (i:=12) (by decide);have g3:=Ki h (gB (tag.getD 8 0) 127);have x1:=pJ (tag.getD 8 0) 127 127 rfl;have x2:=pJ (tag.getD 12 0) 127 127 rfl;have hs:(tag.set 8 (gB (tag.getD 8 0) 127)).set 12 (gB (tag.getD 12 0) 127)=ii tag:=rfl;simp only[Kj,af,ae,aa,seval,iteOmega,toNatUp];refine sC (hj) ?_;simp only[aD,g1,g2,g3,x1,x2,nI,hs,ae,aa,seval,iteOmega,toNatUp];exact v6 (by simp only[ae,aa,seval,iteOmega,toNatUp,rC])
theorem MY (G:ah) (tag:List UInt8) (h:tag.length=16):aB Tryz.prog G 89 [.sl (tag.map bD)] (.w (.c (.d (.sl ((ii tag).map bD))))):=kW (X3 G tag h)
def Kk:aG:=⟨3,19,.seq (.reg [oO 6 (.mv (.k (.c .nil)))]) (.seq (.reg [oM 10 0,oO 11 (.slice 1 (.t 10) (some (kI 16)) none none),oM 12 1,oO 13 (.call 107 [(.t 12)] none),oM 14 2,oO 15 (.call 106 [(.t 11),(.t 13),(.t 14)] (some (0,1))),oM 9 15,oO 16 (.extract (.t 9) 0),oO 17 (.extract (.t 9) 1),oM 7 16,oM 8 17]) (.seq (.reg [oM 18 7,oM 6 18]) (.ret))),[(6,none)]⟩
theorem Vs:aF Tryz.prog { own:=[],comp:=[(15,0)],frz:=[],nils:=[] } Tryz.f80=some Kk:=by kernel_rfl
theorem MZ (G:ah) (key tag b:List UInt8) (h:key.length=32) (ht:tag.length=16) (hb:b.length≤65535):aB Tryz.prog G 80 [.sl (key.map bD),.sl (tag.map bD),.sl (b.map bD)] (.w (.c (.fr 1 ((cX key tag b).map bD)))):=by
  refine aI Tryz.func80 Vs rfl rfl ?_;have hk:(key.drop 16).length=16:=by rw[abO]; omega
  have hk2:(key.drop 16).take 16=key.drop 16:=abH (by omega);obtain⟨v1,v2⟩:=FG (c:=ii tag) (b:=b) hk (by rw[rC]; exact ht) hb;have hv:=aad G (key.drop 16) (ii tag) b (by omega) (by rw[rC]; omega) (by omega);rw[v1,v2] at hv;have hs:fU (am (key.drop 16)) (ii tag) b=cX key tag b:=rfl;rw[hs] at hv;simp only[Kk,af,ae,aa,seval,iteOmega,toNatUp,h];refine sC (aag G tag ht) ?_;simp only[hk2,ae,aa,seval,iteOmega,toNatUp];refine sD (hv) ?_;exact fM
theorem Ya (G:ah) (key tag b:List UInt8) (h:key.length=32) (ht:tag.length=16) (hb:b.length≤65535):aB Tryz.prog G 80 [.sl (key.map bD),.sl (tag.map bD),.sl (b.map bD)] (.w (.c (.d (.sl ((cX key tag b).map bD))))):=kW (MZ G key tag b h ht hb)
def Bt:aG:=⟨3,21,.seq (.reg [oO 6 (.mv (.k (.c .nil))),oO 7 (.mv (kI 0))]) (.seq (.seq (.reg [oM 9 0,oM 10 1,oM 11 2,oO 12 (.len (.t 11)),oO 13 (.call 96 [(.t 9),(.t 10),(.t 12)] none),oM 8 13]) (.seq (.reg [oM 14 8,oO 15 (.bin .neq (.t 14) (kI 0))]) (.cond (.t 15) (.seq (.reg [oM 16 8,oO 6 (.mv (.k (.c .nil))),oM 7 16]) (.ret)) (.skip)))) (.seq (.reg [oM 17 0,oM 18 1,oM 19 2,oO 20 (.call 97 [(.t 17),(.t 18),(.t 19)] (some (0,1))),oM 6 20,oO 7 (.mv (kI 0))]) (.ret))),[(6,none),(7,none)]⟩
theorem Yb:aF Tryz.prog { own:=[20],comp:=[],frz:=[],nils:=[] } Tryz.f79=some Bt:=by kernel_rfl
theorem aah (G:ah) (key:List UInt8) (ad:List (List UInt8)) (b:List UInt8) (hk:key.length≤9223372036854775807) (hl:ad.length≤9223372036854775807) (hx:∀ x∈ad,x.length≤9223372036854775807) (hb:b.length≤9223372036854775807):aB Tryz.prog G 79 [.sl (key.map bD),eF ad,.sl (b.map bD)] (.tup [.c (.fr 1 ((lm key ad b).map bD)),.c (.d (.int .i64 (cp key ad b.length)))]):=by
  refine aI Tryz.func79 Yb rfl rfl ?_;have hc:=OT G key ad (b.length:Int) hk hl hx;by_cases he:cp key ad (b.length:Int)=0
  ·have hv:lm key ad b=ci key ad b:=if_pos he;obtain⟨k1,k2,k3,k4⟩:=sH he;rw[he] at hc ⊢;rw[hv];simp only[Bt,af,ae,aa,seval,iteOmega,toNatUp];refine sD (hc) ?_;refine sD (MW G key ad b k1 k2 k3 (by omega)) ?_;exact cm
  ·have hv:lm key ad b=[]:=if_neg he;rw[hv];have hne:cp key ad (b.length:Int)=0↔False:=⟨he,False.elim⟩
   rcases rU key ad b.length with e | e | e | e
   ·exact absurd e he
   all_goals
     rw[e] at hc ⊢;simp only[Bt,af,ae,aa,seval,iteOmega,toNatUp];refine bd hc rfl (.inl rfl) ?_;simp only[ae,aa,seval,iteOmega,toNatUp];exact cm
theorem aai (G:ah) (key:List UInt8) (ad:List (List UInt8)) (b:List UInt8) (hk:key.length≤9223372036854775807) (hl:ad.length≤9223372036854775807) (hx:∀ x∈ad,x.length≤9223372036854775807) (hb:b.length≤9223372036854775807):aB Tryz.prog G 79 [.sl (key.map bD),eF ad,.sl (b.map bD)] (.tup [.c (.d (.sl ((lm key ad b).map bD))),.c (.d (.int .i64 (cp key ad b.length)))]):=rL (aah G key ad b hk hl hx hb)
def AC:aG:=⟨3,27,.seq (.reg [oO 6 (.mv (.k (.c .nil))),oO 7 (.mv (kI 0))]) (.seq (.reg [oM 11 0,oM 12 1,oM 13 2,oO 14 (.call 79 [(.t 11),(.t 12),(.t 13)] none),oM 10 14,oO 15 (.extract (.t 10) 0),oO 16 (.extract (.t 10) 1),oM 8 15,oM 9 16]) (.seq (.seq (.reg [oM 17 9,oO 18 (.bin .neq (.t 17) (kI 0))]) (.cond (.t 18) (.seq (.reg [oM 19 9,oO 6 (.mv (.k (.c .nil))),oM 7 19]) (.ret)) (.skip))) (.seq (.reg [oM 20 8,oM 21 0,oM 22 8,oM 23 2,oO 24 (.call 80 [(.t 21),(.t 22),(.t 23)] none),oO 25 (.bldSl false 2 1 (.sl []) [(0,(.t 20)),(1,(.t 24))]),oO 26 (.call 50 [(.t 25)] (some (0,1))),oM 6 26,oO 7 (.mv (kI 0))]) (.ret)))),[(6,none),(7,none)]⟩
theorem Vt:aF Tryz.prog { own:=[26],comp:=[],frz:=[],nils:=[] } Tryz.f48=some AC:=by kernel_rfl
theorem Yc (G:ah) (key:List UInt8) (ad:List (List UInt8)) (b:List UInt8) (hk:key.length≤9223372036854775807) (hl:ad.length≤9223372036854775807) (hx:∀ x∈ad,x.length≤9223372036854775807) (hb:b.length≤9223372036854775807):aB Tryz.prog G 48 [.sl (key.map bD),eF ad,.sl (b.map bD)] (.tup [.c (.fr 1 ((nX key ad b).map bD)),.c (.d (.int .i64 (cp key ad b.length)))]):=by
  refine aI Tryz.func48 Vt rfl rfl ?_;have hc:=aai G key ad b hk hl hx hb;by_cases he:cp key ad (b.length:Int)=0
  ·have hv:lm key ad b=ci key ad b:=if_pos he;have hv2:nX key ad b=ci key ad b++cX key (ci key ad b) b:=if_pos he;obtain⟨k1,k2,k3,k4⟩:=sH he;have hj:=fc G [ci key ad b,cX key (ci key ad b) b] (by simp) (by simp[kL,lI]; omega);have hf:[ci key ad b,cX key (ci key ad b) b].flatten=ci key ad b++cX key (ci key ad b) b:=by simp
   rw[hf] at hj;rw[he,hv] at hc;rw[he,hv2];simp only[AC,af,ae,aa,seval,iteOmega,toNatUp];refine sD (hc) ?_;refine sD (Ya G key (ci key ad b) b k1 (kL _ _ _) (by omega)) ?_;refine sD (hj) ?_;exact cm
  ·have hv:lm key ad b=[]:=if_neg he;have hv2:nX key ad b=[]:=if_neg he;rw[hv] at hc;rw[hv2];rcases rU key ad b.length with e | e | e | e
   ·exact absurd e he
   all_goals
     rw[e] at hc ⊢;simp only[AC,af,ae,aa,seval,iteOmega,toNatUp];refine bd hc rfl (.inl rfl) ?_;simp only[ae,aa,seval,iteOmega,toNatUp];exact cm
theorem Yd (G:ah) (key:List UInt8) (ad:List (List UInt8)) (b:List UInt8) (hk:key.length≤9223372036854775807) (hl:ad.length≤9223372036854775807) (hx:∀ x∈ad,x.length≤9223372036854775807) (hb:b.length≤9223372036854775807):aB Tryz.prog G 48 [.sl (key.map bD),eF ad,.sl (b.map bD)] (.tup [.c (.d (.sl ((nX key ad b).map bD))),.c (.d (.int .i64 (cp key ad b.length)))]):=rL (Yc G key ad b hk hl hx hb)
theorem Kl {key:List UInt8} {ad:List (List UInt8)} {s:List UInt8} (h:cp key ad ((s.length:Int)-16)≠0):gj key ad s=cp key ad ((s.length:Int)-16)∧gZ key ad s=[]:=by
  have:gj key ad s=cp key ad ((s.length:Int)-16):=if_pos h;refine⟨this,?_⟩;unfold gZ;rw[if_neg (by rw[this]; exact h)]
theorem FH {key:List UInt8} {ad:List (List UInt8)} {s:List UInt8} (h:cp key ad ((s.length:Int)-16)=0) (hs:s.length<16):gj key ad s=1∧gZ key ad s=[]:=by
  have:gj key ad s=1:=by unfold gj; rw[if_neg (by simp[h]),if_pos hs]
  refine⟨this,?_⟩;unfold gZ;rw[if_neg (by rw[this]; decide)]
theorem Bu {key:List UInt8} {ad:List (List UInt8)} {s:List UInt8} (h:cp key ad ((s.length:Int)-16)=0) (hs:¬ s.length<16) (ht:s.take 16=ci key ad (cX key (s.take 16) (s.drop 16))):gj key ad s=0∧gZ key ad s=cX key (s.take 16) (s.drop 16):=by
  have:gj key ad s=0:=by unfold gj; rw[if_neg (by simp[h]),if_neg hs,if_pos ht]
  exact⟨this,if_pos this⟩
theorem HZ {key:List UInt8} {ad:List (List UInt8)} {s:List UInt8} (h:cp key ad ((s.length:Int)-16)=0) (hs:¬ s.length<16) (ht:s.take 16≠ci key ad (cX key (s.take 16) (s.drop 16))):gj key ad s=6∧gZ key ad s=[]:=by
  have:gj key ad s=6:=by unfold gj; rw[if_neg (by simp[h]),if_neg hs,if_neg ht]
  refine⟨this,?_⟩;unfold gZ;rw[if_neg (by rw[this]; decide)]
def sI:aG:=⟨3,38,.seq (.reg [oO 6 (.mv (.k (.c .nil))),oO 7 (.mv (kI 0))]) (.seq (.seq (.reg [oM 11 0,oM 12 1,oM 13 2,oO 14 (.len (.t 13)),oO 15 (.bin .sub (.t 14) (kI 16)),oO 16 (.call 96 [(.t 11),(.t 12),(.t 15)] none),oM 8 16]) (.seq (.reg [oM 17 8,oO 18 (.bin .neq (.t 17) (kI 0))]) (.cond (.t 18) (.seq (.reg [oM 19 8,oO 6 (.mv (.k (.c .nil))),oM 7 19]) (.ret)) (.skip)))) (.seq (.seq (.reg [oM 20 2,oO 21 (.len (.t 20)),oO 22 (.bin .lss (.t 21) (kI 16))]) (.cond (.t 22) (.seq (.reg [oO 6 (.mv (.k (.c .nil))),oO 7 (.mv (kI 1))]) (.ret)) (.skip))) (.seq (.reg [oM 23 2,oO 24 (.slice 1 (.t 23) none (some (kI 16)) none),oM 9 24]) (.seq (.reg [oM 25 0,oM 26 9,oM 27 2,oO 28 (.slice 1 (.t 27) (some (kI 16)) none none),oO 29 (.call 80 [(.t 25),(.t 26),(.t 28)] (some (0,1))),oM 10 29]) (.seq (.seq (.reg [oM 30 9,
 oM 31 0,oM 32 1,oM 33 10,oO 34 (.call 97 [(.t 31),(.t 32),(.t 33)] none),oO 35 (.call 55 [(.t 30),(.t 34)] none),oO 36 (.un .not (.t 35))]) (.cond (.t 36) (.seq (.reg [oO 6 (.mv (.k (.c .nil))),oO 7 (.mv (kI 6))]) (.ret)) (.skip))) (.seq (.reg [oM 37 10,oM 6 37,oO 7 (.mv (kI 0))]) (.ret))))))),[(6,none),(7,none)]⟩
theorem Ye:aF Tryz.prog { own:=[29],comp:=[],frz:=[],nils:=[] } Tryz.f65=some sI:=by kernel_rfl
theorem aaj (G:ah) (key:List UInt8) (ad:List (List UInt8)) (s:List UInt8) (hk:key.length≤9223372036854775807) (hl:ad.length≤9223372036854775807) (hx:∀ x∈ad,x.length≤9223372036854775807) (hb:s.length≤9223372036854775807):aB Tryz.prog G 65 [.sl (key.map bD),eF ad,.sl (s.map bD)] (.tup [.c (.fr 1 ((gZ key ad s).map bD)),.c (.d (.int .i64 (gj key ad s)))]):=by
  refine aI Tryz.func65 Ye rfl rfl ?_;have hc:=OT G key ad ((s.length:Int)-16) hk hl hx;by_cases he:cp key ad ((s.length:Int)-16)=0
  ·obtain⟨k1,k2,k3,k4⟩:=sH he;rw[he] at hc;by_cases hs:s.length<16
   ·obtain⟨e1,e2⟩:=FH he hs;rw[e1,e2];simp only[sI,af,ae,aa,seval,iteOmega,toNatUp];refine sD (hc) ?_;exact cm
   ·have ht:(s.take 16).length=16:=by rw[abN]; omega
    have hd:(s.drop 16).length=s.length-16:=abO;have hd2:(s.drop 16).take (s.length-16)=s.drop 16:=abH (by omega);have c1:=MZ G key (s.take 16) (s.drop 16) k1 ht (by omega);have c2:=MW G key ad (cX key (s.take 16) (s.drop 16)) k1 k2 k3 (by rw[lI]; omega);have c3:=pO G (s.take 16) (ci key ad (cX key (s.take 16) (s.drop 16)));by_cases hq:s.take 16=ci key ad (cX key (s.take 16) (s.drop 16))
    ·obtain⟨e1,e2⟩:=Bu he hs hq;have hb:(s.take 16==ci key ad (cX key (s.take 16) (s.drop 16)))=true:=beq_iff_eq.2 hq;rw[hb] at c3;rw[e1,e2];simp only[sI,af,ae,aa,seval,iteOmega,toNatUp];refine sC (hc) ?_;simp only[hd2,ae,aa,seval,iteOmega,toNatUp];refine sD (c1) ?_;refine bd (c2) (by simp only[ae,aa,seval,iteOmega,toNatUp]) (.inr (fy _ _)) ?_;simp only[ae,aa,seval,iteOmega,toNatUp];refine sD (c3) ?_;exact cm
    ·obtain⟨e1,e2⟩:=HZ he hs hq;have hb:(s.take 16==ci key ad (cX key (s.take 16) (s.drop 16)))=false:=by simpa using hq
     rw[hb] at c3;rw[e1,e2];simp only[sI,af,ae,aa,seval,iteOmega,toNatUp];refine sC (hc) ?_;simp only[hd2,ae,aa,seval,iteOmega,toNatUp];refine sD (c1) ?_;refine bd (c2) (by simp only[ae,aa,seval,iteOmega,toNatUp]) (.inr (fy _ _)) ?_;simp only[ae,aa,seval,iteOmega,toNatUp];refine sD (c3) ?_;exact cm
  ·obtain⟨e1,e2⟩:=Kl he;rw[e1,e2];rcases rU key ad ((s.length:Int)-16) with e | e | e | e
   ·exact absurd e he
   all_goals
     rw[e] at hc ⊢;simp only[sI,af,ae,aa,seval,iteOmega,toNatUp];refine bd hc rfl (.inl rfl) ?_;simp only[ae,aa,seval,iteOmega,toNatUp];exact cm
theorem aak (G:ah) (key:List UInt8) (ad:List (List UInt8)) (s:List UInt8) (hk:key.length≤9223372036854775807) (hl:ad.length≤9223372036854775807) (hx:∀ x∈ad,x.length≤9223372036854775807) (hb:s.length≤9223372036854775807):aB Tryz.prog G 65 [.sl (key.map bD),eF ad,.sl (s.map bD)] (.tup [.c (.d (.sl ((gZ key ad s).map bD))),.c (.d (.int .i64 (gj key ad s)))]):=rL (aaj G key ad s hk hl hx hb)
def s5 (key:List UInt8) (ad:List (List UInt8)) (n:Int) (i:Nat):St:=⟨aT [(1,.w (.c (.d (eF ad)))),(2,.w (.c (.d (.int .i64 n)))),(7,.w (.c (.d (.int .i64 (i:Int)))))],hL [],uL []⟩
def rm:aS := .seq (.seq (.reg [oM 14 7,oM 15 1,oO 16 (.len (.t 15)),oO 17 (.bin .lss (.t 14) (.t 16))]) (.cond (.t 17) (.skip) (.exit 0))) (.seq (.block 1 (.seq (.reg [oM 20 1,oM 21 7,oO 22 (.idxSl 1 (.t 20) (.t 21)),oO 23 (.load .sc (.t 22)),oO 24 (.len (.t 23)),oO 25 (.bin .gtr (.t 24) (kI 65519))]) (.cond (.t 25) (.seq (.reg [oO 6 (.mv (kI 2))]) (.ret)) (.skip)))) (.reg [oM 18 7,oO 19 (.bin .add (.t 18) (kI 1)),oM 7 19]))
def vG:aG:=⟨3,28,.seq (.reg [oO 6 (.mv (kI 0))]) (.seq (.seq (.reg [oM 8 0,oO 9 (.len (.t 8)),oO 10 (.bin .neq (.t 9) (kI 32))]) (.cond (.t 10) (.seq (.reg [oO 6 (.mv (kI 5))]) (.ret)) (.skip))) (.seq (.seq (.reg [oM 11 1,oO 12 (.len (.t 11)),oO 13 (.bin .gtr (.t 12) (kI 16))]) (.cond (.t 13) (.seq (.reg [oO 6 (.mv (kI 8))]) (.ret)) (.skip))) (.seq (.seq (.reg [oO 7 (.mv (kI 0))]) (.block 0 (.loop rm))) (.seq (.seq (.reg [oM 26 2,oO 27 (.bin .gtr (.t 26) (kI 65519))]) (.cond (.t 27) (.seq (.reg [oO 6 (.mv (kI 2))]) (.ret)) (.skip))) (.seq (.reg [oO 6 (.mv (kI 0))]) (.ret)))))),[(6,none)]⟩
theorem Vu:aF Tryz.prog { own:=[],comp:=[],frz:=[],nils:=[] } Tryz.f102=some vG:=by kernel_rfl
theorem M0 (G:ah) (key:List UInt8) (ad:List (List UInt8)) (n:Int) (hk:key.length≤9223372036854775807) (hl:ad.length≤9223372036854775807) (hb:∀ x∈ad,x.length≤9223372036854775807):aB Tryz.prog G 102 [.sl (key.map bD),eF ad,.int .i64 n] (.w (.c (.d (.int .i64 (cp key ad n))))):=by
  refine aI Tryz.func102 Vu rfl rfl ?_;unfold cp;by_cases h:key.length=32
  ·rw[if_neg (by omega)];by_cases h2:16<ad.length
   ·rw[if_pos h2];simp only[vG,af,ae,aa,seval,iteOmega,toNatUp];exact aM
   ·rw[if_neg h2];simp only[vG,af,ae,aa,seval,iteOmega,toNatUp];refine ba (s5 key ad n) (fun i=>ad.length-i) (fun i=>i≤ad.length∧∀ j,j<i→(ad.getD j []).length≤65519) 0 ⟨abM _,fun j hj=>by omega⟩ ?_ ?_
    ·refine ap (fun i=>0) ?_ ?_ rfl rfl <;> simp only[wx,aj,ar,aa,seval,iteOmega,toNatUp] <;> rfl
    ·rintro i ⟨hi,hok⟩;by_cases hlt:i<ad.length
     ·have g1:=OO hlt;have hx:=hb _ (yK hlt);by_cases hlong:65519<(ad.getD i []).length
      ·have hL:=RZ hlt hlong;rw[if_pos (.inl hL)];simp only[rm,s5,ae,aa,seval,iteOmega,toNatUp,aD,g1];exact aM
      ·simp only[rm,s5,ae,aa,seval,iteOmega,toNatUp,aD,g1];refine aU (i+1) (by omega) ⟨by omega,fun j hj=>?_⟩ (ap (fun i=>i) ?_ ?_ rfl rfl)
       ·rcases ab1 j i with h | h
        ·exact hok j h
        ·obtain rfl:j=i:=by omega
         omega
       all_goals simp only[wx,aj,ar,aa,seval,iteOmega,toNatUp]
     ·have hL:=TF (l:=ad) (fun j hj=>hok j (by omega));by_cases h3:65519<n
      ·rw[if_pos (.inr h3)];simp only[rm,s5,ae,aa,seval,iteOmega,toNatUp];exact aM
      ·rw[if_neg (by rw[hL]; simp; omega)];simp only[rm,s5,ae,aa,seval,iteOmega,toNatUp];exact aM
  ·rw[if_pos h];simp only[vG,af,ae,aa,seval,iteOmega,toNatUp];exact aM
def AD:aG:=⟨3,28,.seq (.reg [oO 6 (.mv (.k (.c .nil))),oO 7 (.mv (kI 0))]) (.seq (.seq (.reg [oM 9 0,oM 10 1,oM 11 2,oO 12 (.len (.t 11)),oO 13 (.call 102 [(.t 9),(.t 10),(.t 12)] none),oM 8 13]) (.seq (.reg [oM 14 8,oO 15 (.bin .neq (.t 14) (kI 0))]) (.cond (.t 15) (.seq (.reg [oM 16 8,oO 6 (.mv (.k (.c .nil))),oM 7 16]) (.ret)) (.skip)))) (.seq (.reg [oM 17 0,oO 18 (.slice 1 (.t 17) none (some (kI 16)) none),oO 19 (.bldSl false 0 1 (.sl []) []),oM 20 1,oO 21 (.appN false 1 24 (.t 19) (.t 20)),oM 22 2,oO 23 (.bldSl false 1 1 (.sl []) [(0,(.t 22))]),oO 24 (.app false 1 24 (.t 21) (.t 23)),oO 25 (.call 109 [(.t 18),(.t 24)] (some (0,1))),oO 26 (.extract (.t 25) 0),oO 27 (.extract (.t 25) 1),oM 6 26,oM 7 27]) (.ret))),[(6,none),(7,none)]⟩
theorem Vv:aF Tryz.prog { own:=[],comp:=[(25,0)],frz:=[],nils:=[21] } Tryz.f87=some AD:=by kernel_rfl
theorem Yf (G:ah) (key:List UInt8) (ad:List (List UInt8)) (b:List UInt8) (hk:key.length≤9223372036854775807) (hl:ad.length≤9223372036854775807) (hx:∀ x∈ad,x.length≤9223372036854775807) (hb:b.length≤9223372036854775807):aB Tryz.prog G 87 [.sl (key.map bD),eF ad,.sl (b.map bD)] (.tup [.c (.fr 1 ((lm key ad b).map bD)),.c (.d (.int .i64 (cp key ad b.length)))]):=by
  refine aI Tryz.func87 Vv rfl rfl ?_;have hc:=M0 G key ad (b.length:Int) hk hl hx;by_cases he:cp key ad (b.length:Int)=0
  ·have hv:lm key ad b=ci key ad b:=if_pos he;obtain⟨k1,k2,k3,k4⟩:=sH he;have hkk:(key.take 16).length=16:=by rw[abN]; omega
   have hbb:b.length≤65519:=by omega
   obtain⟨v1,v2⟩:=Kg (l:=ad++[b]) hkk (by simp; omega) (wh k3 hbb);have hvv:=Vl G (key.take 16) (ad++[b]) (by omega) (by simp; omega) (fun x hx=>acy (wh k3 hbb x hx) (by decide));rw[v1,v2] at hvv;have ht:iY (am (key.take 16)) (ad++[b])=ci key ad b:=rfl;rw[ht] at hvv;have ha:(ad.map fun l=>D.sl (l.map bD))++[D.sl (b.map bD)]=(ad++[b]).map fun l=>D.sl (l.map bD):=by rw[abT]; rfl
   have tl:(ad++[b]).take (ad.length+1)=ad++[b]:=abH (by simp);rw[he] at hc ⊢;rw[hv];simp only[AD,af,ae,aa,seval,iteOmega,toNatUp];refine sC (hc) ?_;simp only[bQ,fP,ha,ae,aa,seval,iteOmega,toNatUp];refine bd hvv (by simp only[ae,aa,seval,iteOmega,toNatUp,tl]) (.inr (sX _ _ _ _)) ?_;simp only[ae,aa,seval,iteOmega,toNatUp];exact cm
  ·have hv:lm key ad b=[]:=if_neg he;rw[hv];rcases rU key ad b.length with e | e | e | e
   ·exact absurd e he
   all_goals
     rw[e] at hc ⊢;simp only[AD,af,ae,aa,seval,iteOmega,toNatUp];refine bd hc rfl (.inl rfl) ?_;simp only[ae,aa,seval,iteOmega,toNatUp];exact cm
def rW:aG:=⟨3,49,.seq (.reg [oO 6 (.mv (.k (.c .nil))),oO 7 (.mv (kI 0))]) (.seq (.seq (.reg [oM 13 0,oM 14 1,oM 15 2,oO 16 (.len (.t 15)),oO 17 (.bin .sub (.t 16) (kI 16)),oO 18 (.call 102 [(.t 13),(.t 14),(.t 17)] none),oM 8 18]) (.seq (.reg [oM 19 8,oO 20 (.bin .neq (.t 19) (kI 0))]) (.cond (.t 20) (.seq (.reg [oM 21 8,oO 6 (.mv (.k (.c .nil))),oM 7 21]) (.ret)) (.skip)))) (.seq (.seq (.reg [oM 22 2,oO 23 (.len (.t 22)),oO 24 (.bin .lss (.t 23) (kI 16))]) (.cond (.t 24) (.seq (.reg [oO 6 (.mv (.k (.c .nil))),oO 7 (.mv (kI 1))]) (.ret)) (.skip))) (.seq (.reg [oM 26 0,oO 27 (.slice 1 (.t 26) (some (kI 16)) none none),oM 28 2,oO 29 (.slice 1 (.t 28) none (some (kI 16)) none),oO 30 (.call 89 [(.t 29)] none),oM 31 2,oO 32 (.slice 1 (.t 31) (some (kI 16)) none none),oO 33 (.call 88 [(.t 27),(.t 30),(.t 32)] (some (0,1))),
 oM 25 33,oO 34 (.extract (.t 25) 0),oO 35 (.extract (.t 25) 1),oM 9 34,oM 10 35]) (.seq (.reg [oM 37 0,oM 38 1,oM 39 9,oO 40 (.call 87 [(.t 37),(.t 38),(.t 39)] none),oM 36 40,oO 41 (.extract (.t 36) 0),oO 42 (.extract (.t 36) 1),oM 11 41,oM 12 42]) (.seq (.seq (.reg [oM 43 11,oM 44 2,oO 45 (.slice 1 (.t 44) none (some (kI 16)) none),oO 46 (.call 12 [(.t 43),(.t 45)] none),oO 47 (.un .not (.t 46))]) (.cond (.t 47) (.seq (.reg [oO 6 (.mv (.k (.c .nil))),oO 7 (.mv (kI 6))]) (.ret)) (.skip))) (.seq (.reg [oM 48 9,oM 6 48,oO 7 (.mv (kI 0))]) (.ret))))))),[(6,none),(7,none)]⟩
theorem Vw:aF Tryz.prog { own:=[],comp:=[(33,0)],frz:=[],nils:=[] } Tryz.f70=some rW:=by kernel_rfl
theorem Yg (G:ah) (key:List UInt8) (ad:List (List UInt8)) (s:List UInt8) (hk:key.length≤9223372036854775807) (hl:ad.length≤9223372036854775807) (hx:∀ x∈ad,x.length≤9223372036854775807) (hb:s.length≤9223372036854775807):aB Tryz.prog G 70 [.sl (key.map bD),eF ad,.sl (s.map bD)] (.tup [.c (.fr 1 ((gZ key ad s).map bD)),.c (.d (.int .i64 (gj key ad s)))]):=by
  refine aI Tryz.func70 Vw rfl rfl ?_;have hc:=M0 G key ad ((s.length:Int)-16) hk hl hx;by_cases he:cp key ad ((s.length:Int)-16)=0
  ·obtain⟨k1,k2,k3,k4⟩:=sH he;rw[he] at hc;by_cases hs:s.length<16
   ·obtain⟨e1,e2⟩:=FH he hs;rw[e1,e2];simp only[rW,af,ae,aa,seval,iteOmega,toNatUp];refine sD (hc) ?_;exact cm
   ·have ht:(s.take 16).length=16:=by rw[abN]; omega
    have hd:(s.drop 16).length=s.length-16:=abO;have hd2:(s.drop 16).take (s.length-16)=s.drop 16:=abH (by omega);have hkd:(key.drop 16).length=16:=by rw[abO]; omega
    have hk2:(key.drop 16).take 16=key.drop 16:=abH (by omega);have hct:(ii (s.take 16)).length=16:=by rw[rC,ht]
    obtain⟨v1,v2⟩:=FG (c:=ii (s.take 16)) (b:=s.drop 16) hkd hct (by omega);have c1:=XV G (key.drop 16) (ii (s.take 16)) (s.drop 16) (by omega) (by omega) (by omega);rw[v1,v2] at c1;have hsS:fU (am (key.drop 16)) (ii (s.take 16)) (s.drop 16)=cX key (s.take 16) (s.drop 16):=rfl;rw[hsS] at c1;have hsl:=lI key (s.take 16) (s.drop 16);have he2:cp key ad ((cX key (s.take 16) (s.drop 16)).length:Int)=0:=by
      rw[hsl,hd,show ((s.length-16:Nat):Int)=(s.length:Int)-16 by omega]; exact he
    have c2:=Yf G key ad (cX key (s.take 16) (s.drop 16)) hk hl hx (by omega);rw[he2,show lm key ad (cX key (s.take 16) (s.drop 16))=ci key ad (cX key (s.take 16) (s.drop 16)) from if_pos he2] at c2;have c3:=rP G (ci key ad (cX key (s.take 16) (s.drop 16))) (s.take 16);by_cases hq:s.take 16=ci key ad (cX key (s.take 16) (s.drop 16))
    ·obtain⟨e1,e2⟩:=Bu he hs hq;have hb:(ci key ad (cX key (s.take 16) (s.drop 16))==s.take 16)=true:=beq_iff_eq.2 hq.symm;rw[hb] at c3;rw[e1,e2];simp only[rW,af,ae,aa,seval,iteOmega,toNatUp];refine sC (hc) ?_;simp only[k1,ae,aa,seval,iteOmega,toNatUp];refine sC (MY G (s.take 16) ht) ?_;simp only[hk2,hd2,ae,aa,seval,iteOmega,toNatUp];refine sD (c1) ?_;refine bd c2 (by simp only[ae,aa,seval,iteOmega,toNatUp]) (.inr (sX _ _ _ _)) ?_;simp only[ae,aa,seval,iteOmega,toNatUp];refine sD (c3) ?_;exact cm
    ·obtain⟨e1,e2⟩:=HZ he hs hq;have hb:(ci key ad (cX key (s.take 16) (s.drop 16))==s.take 16)=false:=by
       rw[beq_eq_false_iff_ne]; exact fun e=>hq e.symm
     rw[hb] at c3;rw[e1,e2];simp only[rW,af,ae,aa,seval,iteOmega,toNatUp];refine sC (hc) ?_;simp only[k1,ae,aa,seval,iteOmega,toNatUp];refine sC (MY G (s.take 16) ht) ?_;simp only[hk2,hd2,ae,aa,seval,iteOmega,toNatUp];refine sD (c1) ?_;refine bd c2 (by simp only[ae,aa,seval,iteOmega,toNatUp]) (.inr (sX _ _ _ _)) ?_;simp only[ae,aa,seval,iteOmega,toNatUp];refine sD (c3) ?_;exact cm
  ·obtain⟨e1,e2⟩:=Kl he;rw[e1,e2];rcases rU key ad ((s.length:Int)-16) with e | e | e | e
   ·exact absurd e he
   all_goals
     rw[e] at hc ⊢;simp only[rW,af,ae,aa,seval,iteOmega,toNatUp];refine bd hc rfl (.inl rfl) ?_;simp only[ae,aa,seval,iteOmega,toNatUp];exact cm
theorem Yh (G:ah) (key:List UInt8) (ad:List (List UInt8)) (s:List UInt8) (hk:key.length≤9223372036854775807) (hl:ad.length≤9223372036854775807) (hx:∀ x∈ad,x.length≤9223372036854775807) (hb:s.length≤9223372036854775807):aB Tryz.prog G 70 [.sl (key.map bD),eF ad,.sl (s.map bD)] (.tup [.c (.d (.sl ((gZ key ad s).map bD))),.c (.d (.int .i64 (gj key ad s)))]):=rL (Yg G key ad s hk hl hx hb)
theorem TG {key:List UInt8} {ad:List (List UInt8)} {n:Int} (h:key.length=32) (h2:ad.length≤16) (h3:∀ x∈ad,x.length≤65519) (h4:n≤65519):cp key ad n=0:=by
  have:iC ad=false:=by
    unfold iC;rw[ac4];intro x hx;have:=h3 x hx
    simpa using this
  unfold cp;rw[if_neg (by omega),if_neg (by omega),if_neg (by rw[this]; simp; omega)]
theorem En (key tag b:List UInt8):cX key tag (cX key tag b)=b:=Qs _ _ _
theorem rD {key b:List UInt8} {ad:List (List UInt8)} (h:cp key ad b.length=0):nX key ad b=ci key ad b++cX key (ci key ad b) b:=if_pos h
theorem FI {key b:List UInt8} {ad:List (List UInt8)} (T:List UInt8):(ci key ad b++T).take 16=ci key ad b:=by
  rw[acz (by rw[kL]; exact abR _),abH (by rw[kL]; exact abR _)]
theorem FJ {key b:List UInt8} {ad:List (List UInt8)} (T:List UInt8):(ci key ad b++T).drop 16=T:=by
  have:=List.drop_left (l₁:=ci key ad b) (l₂:=T);rw[kL] at this;exact this
theorem TH {key b:List UInt8} {ad:List (List UInt8)} (h:cp key ad b.length=0):gj key ad (ci key ad b++cX key (ci key ad b) b)=0∧gZ key ad (ci key ad b++cX key (ci key ad b) b)=b:=by
  have hl:(ci key ad b++cX key (ci key ad b) b).length=16+b.length:=by rw[abJ,kL,lI]
  have he:cp key ad (((ci key ad b++cX key (ci key ad b) b).length:Int)-16)=0:=by rw[hl,show ((16+b.length:Nat):Int)-16=(b.length:Int) by omega]; exact h
  obtain⟨e1,e2⟩:=Bu he (by omega) (by rw[FI,FJ,En]);refine⟨e1,?_⟩;rw[e2,FI,FJ,En]
end Go.Proofs.YtofonnokanoflaaGreat
