/- Texts of one's own, merged: from: Layer 6 on data: tags,sealed bytes,opened ones; both codes. Own work. -/
import Derived.Shelf.Abstract
import Derived.Test.YtofonnokanoflaaGreatMz111
import Derived.Test.YtofonnokanoflaaGreatMz110
import Derived.Test.YtofonnokanoflaaGreatMz112
set_option linter.unusedVariables false
set_option linter.unusedSimpArgs false
namespace Go.Proofs.YtofonnokanoflaaGreat
open Go.RowKit IntWalk
set_option maxHeartbeats 3200000
def fC (tag:List UInt8):List UInt8:=(tag.set 8 (fK (tag.getD 8 0) 127)).set 12 (fK (tag.getD 12 0) 127)
theorem nH (tag:List UInt8):(fC tag).length=tag.length:=by unfold fC; rw[Zl,Zl]
def bO (key:List UInt8) (ad:List (List UInt8)) (b:List UInt8):List UInt8:=iu (ak (key.take 16)) (ad++[b])
theorem lK (key:List UInt8) (ad:List (List UInt8)) (b:List UInt8):(bO key ad b).length=16:=QS _ _
def cP (key tag b:List UInt8):List UInt8:=fR (ak (key.drop 16)) (fC tag) b
theorem lM (key tag b:List UInt8):(cP key tag b).length=b.length:=pM _ _ _
def gY (l:List (List UInt8)):Bool:=l.any fun x=>decide (65519<x.length)
def bZ (key:List UInt8) (ad:List (List UInt8)) (n:Int):Int:=if key.length≠32 then 5 else if 16<ad.length then 8 else if gY ad=true∨65519<n then 2 else 0
def iL (key:List UInt8) (ad:List (List UInt8)) (b:List UInt8):List UInt8:=if bZ key ad b.length=0 then bO key ad b else []
def jb (key:List UInt8) (ad:List (List UInt8)) (b:List UInt8):List UInt8:=if bZ key ad b.length=0 then bO key ad b++cP key (bO key ad b) b else []
def fM (key:List UInt8) (ad:List (List UInt8)) (s:List UInt8):Int :=
  if bZ key ad ((s.length:Int)-16)≠0 then bZ key ad ((s.length:Int)-16) else if s.length<16 then 1 else if s.take 16=bO key ad (cP key (s.take 16) (s.drop 16)) then 0 else 6
def gJ (key:List UInt8) (ad:List (List UInt8)) (s:List UInt8):List UInt8:=if fM key ad s=0 then cP key (s.take 16) (s.drop 16) else []
theorem Q9 {l:List (List UInt8)} (h:∀ j,j<l.length→(l.getD j []).length≤65519):gY l=false:=by
  unfold gY;rw[ZA];intro x hx;obtain⟨j,hj,rfl⟩:=YX hx;have:=h j hj;rw[Ys,Yn hj] at this
  simpa using this
theorem PC {l:List (List UInt8)} {j:Nat} (hj:j<l.length) (h:65519<(l.getD j []).length):gY l=true:=by
  unfold gY;rw[Z7];exact⟨_,wH hj,decide_eq_true h⟩
theorem PD {l:List (List UInt8)} (h:gY l=false):∀ x∈l,x.length≤65519:=by
  unfold gY at h;rw[ZA] at h;intro x hx
  simpa using h x hx
theorem om {key:List UInt8} {ad:List (List UInt8)} {n:Int} (h:bZ key ad n=0):key.length=32∧ad.length≤16∧gY ad=false∧n≤65519:=by
  unfold bZ at h;split at h
  ·cases h
  ·split at h
   ·cases h
   ·split at h
    ·cases h
    ·rename_i h1 h2 h3;cases hl:gY ad
     ·exact⟨by omega,by omega,rfl,by omega⟩
     ·exact absurd (.inl hl) h3
theorem nP (key:List UInt8) (ad:List (List UInt8)) (n:Int):bZ key ad n=0∨bZ key ad n=5∨bZ key ad n=8∨bZ key ad n=2:=by
  unfold bZ;split
  ·exact .inr (.inl rfl)
  ·split
   ·exact .inr (.inr (.inl rfl))
   ·split
    ·exact .inr (.inr (.inr rfl))
    ·exact .inl rfl
theorem H1 {k:List UInt8} {l:List (List UInt8)} (h:k.length=16) (hn:l.length≤17) (hl:∀ x∈l,x.length≤65535):ru k l=iu (ak k) l∧pk k l=0:=by
  have:kr l=false:=by
    unfold kr;rw[ZA];intro x hx;have:=hl x hx
    simpa using this
  refine⟨if_pos ⟨h,hn,this⟩,?_⟩;unfold pk;rw[if_neg (by omega),if_neg (by omega),this,if_neg (by simp)]
theorem w8 {k c b:List UInt8} (h:k.length=16) (hc:c.length=16) (hb:b.length≤65535):oI k c b=fR (ak k) c b∧ja k c b=0:=by
  refine⟨if_pos ⟨h,hc,hb⟩,?_⟩;unfold ja;rw[if_neg (by omega),if_neg (by omega),if_neg (by omega)]
theorem uc {ad:List (List UInt8)} {b:List UInt8} (h:gY ad=false) (hb:b.length≤65519):∀ x∈ad++[b],x.length≤65535:=by
  intro x hx;rcases YM.1 hx with hx | hx
  ·have:=PD h x hx; omega
  ·simp only[YA] at hx; subst hx; omega
def yC:aD:=⟨1,6,.seq (.reg [oO 2 (.mv (.k (.c (.d (.bool false)))))]) (.seq (.reg [oM 3 0,oO 4 (.len (.t 3)),oO 5 (.bin .gtr (.t 4) (kI 65519)),oM 2 5]) (.ret)),[(2,none)]⟩
theorem Ta:aB Tryz.prog { own:=[],comp:=[],frz:=[],nils:=[] } Tryz.f116=some yC:=by kernel_rfl
theorem Vm (G:ah) (x:List UInt8) (hx:x.length≤9223372036854775807):pb Tryz.prog G 116 [] [.sl (x.map bD)] (.w (.c (.d (.bool (decide (65519<x.length)))))):=by
  refine⟨enters_of Tryz.func116 (by kernel_rfl) rfl,?_⟩;refine aF Tryz.func116 Ta rfl rfl ?_;by_cases h:65519<x.length
  ·have hd:decide (65519<x.length)=true:=decide_eq_true h;rw[hd];simp only[yC,af,ae,aa,seval,iteOmega,toNatUp];exact aG
  ·have hd:decide (65519<x.length)=false:=decide_eq_false h;rw[hd];simp only[yC,af,ae,aa,seval,iteOmega,toNatUp];exact aG
def oo:aD:=⟨3,21,.seq (.reg [oO 6 (.mv (kI 0))]) (.seq (.seq (.reg [oM 8 0,oO 9 (.len (.t 8)),oO 10 (.bin .neq (.t 9) (kI 32))]) (.cond (.t 10) (.seq (.reg [oO 6 (.mv (kI 5))]) (.ret)) (.skip))) (.seq (.seq (.reg [oM 11 1,oO 12 (.len (.t 11)),oO 13 (.bin .gtr (.t 12) (kI 16))]) (.cond (.t 13) (.seq (.reg [oO 6 (.mv (kI 8))]) (.ret)) (.skip))) (.seq (.reg [oO 7 (.mv (.k (.c (.d (.fn 116 [])))))]) (.seq (.seq (.reg [oM 14 1,oM 15 7,oO 16 (.call 83 [(.t 14),(.t 15)] none),oM 17 16,oG 18 (.mv (.t 2)) 17 false,oG 19 (.bin .gtr (.t 18) (kI 65519)) 17 false,oO 20 (.pick (.t 17) (.k (.c (.d (.bool true)))) (.t 19))]) (.cond (.t 20) (.seq (.reg [oO 6 (.mv (kI 2))]) (.ret)) (.skip))) (.seq (.reg [oO 6 (.mv (kI 0))]) (.ret)))))),[(6,none)]⟩
theorem Vn:aB Tryz.prog { own:=[],comp:=[],frz:=[],nils:=[] } Tryz.f96=some oo:=by kernel_rfl
theorem Mf (G:ah) (key:List UInt8) (ad:List (List UInt8)) (n:Int) (hk:key.length≤9223372036854775807) (hl:ad.length≤9223372036854775807) (hb:∀ x∈ad,x.length≤9223372036854775807):au Tryz.prog G 96 [.sl (key.map bD),cX ad,.int .i64 n] (.w (.c (.d (.int .i64 (bZ key ad n))))):=by
  refine aF Tryz.func96 Vn rfl rfl ?_;have hc:=Kh G ad 116 [] (fun x=>decide (65519<x.length)) hl (fun x hx=>Vm G x (hb x hx));have hL:(ad.any fun x=>decide (65519<x.length))=gY ad:=rfl;rw[hL] at hc;unfold bZ;by_cases h:key.length=32
  ·rw[if_neg (by omega)];by_cases h2:16<ad.length
   ·rw[if_pos h2];simp only[oo,af,ae,aa,seval,iteOmega,toNatUp];exact aG
   ·rw[if_neg h2];cases hl:gY ad
    ·rw[hl] at hc;by_cases h3:65519<n
     ·rw[if_pos (.inr h3)];simp only[oo,af,ae,aa,seval,iteOmega,toNatUp];refine sD (hc) ?_;exact aG
     ·rw[if_neg (by simp; omega)];simp only[oo,af,ae,aa,seval,iteOmega,toNatUp];refine sD (hc) ?_;exact aG
    ·rw[hl] at hc;rw[if_pos (.inl rfl)];simp only[oo,af,ae,aa,seval,iteOmega,toNatUp];refine sD (hc) ?_;exact aG
  ·rw[if_pos h];simp only[oo,af,ae,aa,seval,iteOmega,toNatUp];exact aG
def H2:aD:=⟨3,23,.seq (.reg [oO 6 (.mv (.k (.c .nil)))]) (.seq (.reg [oM 10 1,oM 11 2,oO 12 (.bldSl false 1 1 (.sl []) [(0,(.t 11))]),oO 13 (.bldSl false 2 1 (.sl []) [(0,(.t 10)),(1,(.t 12))]),oO 14 (.call 117 [(.t 13)] none),oM 7 14]) (.seq (.reg [oM 16 0,oO 17 (.slice 1 (.t 16) none (some (kI 16)) none),oM 18 7,oO 19 (.call 118 [(.t 17),(.t 18)] (some (0,1))),oM 15 19,oO 20 (.extract (.t 15) 0),oO 21 (.extract (.t 15) 1),oM 8 20,oM 9 21]) (.seq (.reg [oM 22 8,oM 6 22]) (.ret)))),[(6,none)]⟩
theorem Tb:aB Tryz.prog { own:=[],comp:=[(19,0)],frz:=[],nils:=[] } Tryz.f97=some H2:=by kernel_rfl
theorem Kx (G:ah) (key:List UInt8) (ad:List (List UInt8)) (b:List UInt8) (h:key.length=32) (hn:ad.length≤16) (hl:gY ad=false) (hb:b.length≤65519):au Tryz.prog G 97 [.sl (key.map bD),cX ad,.sl (b.map bD)] (.w (.c (.fr 1 ((bO key ad b).map bD)))):=by
  refine aF Tryz.func97 Tb rfl rfl ?_;have hf:[ad,[b]].flatten=ad++[b]:=by simp
  have hc:=UM G [ad,[b]] (by simp) (by rw[hf]; simp; omega);rw[hf] at hc;have hk:(key.take 16).length=16:=by rw[Yu]; omega
  obtain⟨v1,v2⟩:=H1 (l:=ad++[b]) hk (by simp; omega) (uc hl hb);have hv:=Ve G (key.take 16) (ad++[b]) (by omega) (by simp; omega) (fun x hx=>Za (uc hl hb x hx) (by decide));rw[v1,v2] at hv;have ht:iu (ak (key.take 16)) (ad++[b])=bO key ad b:=rfl;rw[ht] at hv;simp only[H2,af,ae,aa,seval,iteOmega,toNatUp];refine sD (hc) ?_;refine sD (hv) ?_;exact fm
theorem qp {tag:List UInt8} (h:tag.length=16) {i:Nat} (hi:i<16):tag[i]?=some (tag.getD i 0):=by
  rw[Ys,Yn (by omega)]; rfl
theorem H3 {tag:List UInt8} (h:tag.length=16) (x:UInt8):(tag.set 8 x)[12]?=some (tag.getD 12 0):=by
  rw[List.getElem?_set_ne (by decide),qp h (by decide)]
def Ky:aD:=⟨1,18,.seq (.reg [oO 2 (.mv (.k (.c .nil)))]) (.seq (.reg [oM 4 0,oO 5 (.bldSl false 1 1 (.sl []) [(0,(.t 4))]),oO 6 (.call 50 [(.t 5)] (some (0,1))),oM 3 6]) (.seq (.reg [oM 7 3,oO 8 (.idxSl 1 (.t 7) (kI 8)),oO 9 (.load .sc (.t 8)),oO 10 (.bin .and (.t 9) (.k (.c (.d (.int .u8 127))))),oO 11 (.idxSl 1 (.t 7) (kI 8)),oN (.store .sc (.t 11) (.t 10))]) (.seq (.reg [oM 12 3,oO 13 (.idxSl 1 (.t 12) (kI 12)),oO 14 (.load .sc (.t 13)),oO 15 (.bin .and (.t 14) (.k (.c (.d (.int .u8 127))))),oO 16 (.idxSl 1 (.t 12) (kI 12)),oN (.store .sc (.t 16) (.t 15))]) (.seq (.reg [oM 17 3,oM 2 17]) (.ret))))),[(2,none)]⟩
theorem Vo:aB Tryz.prog { own:=[6],comp:=[],frz:=[],nils:=[] } Tryz.f107=some Ky:=by kernel_rfl
theorem Xg (G:ah) (tag:List UInt8) (h:tag.length=16):au Tryz.prog G 107 [.sl (tag.map bD)] (.w (.c (.fr 1 ((fC tag).map bD)))):=by
  refine aF Tryz.func107 Vo rfl rfl ?_;have hj:=eJ G [tag] (by simp) (by simp; omega);have hf:[tag].flatten=tag:=by simp
  rw[hf] at hj;have g1:=qp h (i:=8) (by decide);have g2:=qp h (i:=12) (by decide);have g3:=H3 h (fK (tag.getD 8 0) 127);have x1:=od (tag.getD 8 0) 127 127 rfl;have x2:=od (tag.getD 12 0) 127 127 rfl;have hs:(tag.set 8 (fK (tag.getD 8 0) 127)).set 12 (fK (tag.getD 12 0) 127)=fC tag:=rfl;simp only[Ky,af,ae,aa,seval,iteOmega,toNatUp];refine sC (hj) ?_;simp only[aC,g1,g2,g3,x1,x2,mF,hs,ae,aa,seval,iteOmega,toNatUp];exact tX (by simp only[ae,aa,seval,iteOmega,toNatUp,nH])
theorem Xh (G:ah) (tag:List UInt8) (h:tag.length=16):au Tryz.prog G 107 [.sl (tag.map bD)] (.w (.c (.d (.sl ((fC tag).map bD))))):=kj (Xg G tag h)
def H4:aD:=⟨1,20,.seq (.reg [oO 2 (.mv (.k (.c .nil)))]) (.seq (.reg [oM 4 0,oO 5 (.bldSl false 1 1 (.sl []) [(0,(.t 4))]),oO 6 (.call 41 [(.t 5)] (some (0,1))),oM 3 6]) (.seq (.reg [oM 7 3,oM 8 3,oM 9 3,oO 10 (.idxSl 1 (.t 9) (kI 8)),oO 11 (.load .sc (.t 10)),oO 12 (.bin .and (.t 11) (.k (.c (.d (.int .u8 127))))),oM 13 3,oO 14 (.idxSl 1 (.t 13) (kI 12)),oO 15 (.load .sc (.t 14)),oO 16 (.bin .and (.t 15) (.k (.c (.d (.int .u8 127))))),oO 17 (.idxSl 1 (.t 7) (kI 8)),oN (.store .sc (.t 17) (.t 12)),oO 18 (.idxSl 1 (.t 8) (kI 12)),oN (.store .sc (.t 18) (.t 16))]) (.seq (.reg [oM 19 3,oM 2 19]) (.ret)))),[(2,none)]⟩
theorem Tc:aB Tryz.prog { own:=[6],comp:=[],frz:=[],nils:=[] } Tryz.f89=some H4:=by kernel_rfl
theorem Vp (G:ah) (tag:List UInt8) (h:tag.length=16):au Tryz.prog G 89 [.sl (tag.map bD)] (.w (.c (.fr 1 ((fC tag).map bD)))):=by
  refine aF Tryz.func89 Tc rfl rfl ?_;have hj:=eo G [tag] (by simp) (by simp; omega);have hf:[tag].flatten=tag:=by simp
  rw[hf] at hj;have g1:=qp h (i:=8) (by decide);have g2:=qp h (i:=12) (by decide);have g3:=H3 h (fK (tag.getD 8 0) 127);have x1:=od (tag.getD 8 0) 127 127 rfl;have x2:=od (tag.getD 12 0) 127 127 rfl;have hs:(tag.set 8 (fK (tag.getD 8 0) 127)).set 12 (fK (tag.getD 12 0) 127)=fC tag:=rfl;simp only[H4,af,ae,aa,seval,iteOmega,toNatUp];refine sC (hj) ?_;simp only[aC,g1,g2,g3,x1,x2,mF,hs,ae,aa,seval,iteOmega,toNatUp];exact tX (by simp only[ae,aa,seval,iteOmega,toNatUp,nH])
theorem zx (G:ah) (tag:List UInt8) (h:tag.length=16):au Tryz.prog G 89 [.sl (tag.map bD)] (.w (.c (.d (.sl ((fC tag).map bD))))):=kj (Vp G tag h)
def H5:aD:=⟨3,19,.seq (.reg [oO 6 (.mv (.k (.c .nil)))]) (.seq (.reg [oM 10 0,oO 11 (.slice 1 (.t 10) (some (kI 16)) none none),oM 12 1,oO 13 (.call 107 [(.t 12)] none),oM 14 2,oO 15 (.call 106 [(.t 11),(.t 13),(.t 14)] (some (0,1))),oM 9 15,oO 16 (.extract (.t 9) 0),oO 17 (.extract (.t 9) 1),oM 7 16,oM 8 17]) (.seq (.reg [oM 18 7,oM 6 18]) (.ret))),[(6,none)]⟩
theorem Td:aB Tryz.prog { own:=[],comp:=[(15,0)],frz:=[],nils:=[] } Tryz.f80=some H5:=by kernel_rfl
theorem Kz (G:ah) (key tag b:List UInt8) (h:key.length=32) (ht:tag.length=16) (hb:b.length≤65535):au Tryz.prog G 80 [.sl (key.map bD),.sl (tag.map bD),.sl (b.map bD)] (.w (.c (.fr 1 ((cP key tag b).map bD)))):=by
  refine aF Tryz.func80 Td rfl rfl ?_;have hk:(key.drop 16).length=16:=by rw[Yw]; omega
  have hk2:(key.drop 16).take 16=key.drop 16:=Yo (by omega);obtain⟨v1,v2⟩:=w8 (c:=fC tag) (b:=b) hk (by rw[nH]; exact ht) hb;have hv:=Xd G (key.drop 16) (fC tag) b (by omega) (by rw[nH]; omega) (by omega);rw[v1,v2] at hv;have hs:fR (ak (key.drop 16)) (fC tag) b=cP key tag b:=rfl;rw[hs] at hv;simp only[H5,af,ae,aa,seval,iteOmega,toNatUp,h];refine sC (Xh G tag ht) ?_;simp only[hk2,ae,aa,seval,iteOmega,toNatUp];refine sD (hv) ?_;exact fm
theorem Vq (G:ah) (key tag b:List UInt8) (h:key.length=32) (ht:tag.length=16) (hb:b.length≤65535):au Tryz.prog G 80 [.sl (key.map bD),.sl (tag.map bD),.sl (b.map bD)] (.w (.c (.d (.sl ((cP key tag b).map bD))))):=kj (Kz G key tag b h ht hb)
def zy:aD:=⟨3,21,.seq (.reg [oO 6 (.mv (.k (.c .nil))),oO 7 (.mv (kI 0))]) (.seq (.seq (.reg [oM 9 0,oM 10 1,oM 11 2,oO 12 (.len (.t 11)),oO 13 (.call 96 [(.t 9),(.t 10),(.t 12)] none),oM 8 13]) (.seq (.reg [oM 14 8,oO 15 (.bin .neq (.t 14) (kI 0))]) (.cond (.t 15) (.seq (.reg [oM 16 8,oO 6 (.mv (.k (.c .nil))),oM 7 16]) (.ret)) (.skip)))) (.seq (.reg [oM 17 0,oM 18 1,oM 19 2,oO 20 (.call 97 [(.t 17),(.t 18),(.t 19)] (some (0,1))),oM 6 20,oO 7 (.mv (kI 0))]) (.ret))),[(6,none),(7,none)]⟩
theorem Vr:aB Tryz.prog { own:=[20],comp:=[],frz:=[],nils:=[] } Tryz.f79=some zy:=by kernel_rfl
theorem Xi (G:ah) (key:List UInt8) (ad:List (List UInt8)) (b:List UInt8) (hk:key.length≤9223372036854775807) (hl:ad.length≤9223372036854775807) (hx:∀ x∈ad,x.length≤9223372036854775807) (hb:b.length≤9223372036854775807):au Tryz.prog G 79 [.sl (key.map bD),cX ad,.sl (b.map bD)] (.tup [.c (.fr 1 ((iL key ad b).map bD)),.c (.d (.int .i64 (bZ key ad b.length)))]):=by
  refine aF Tryz.func79 Vr rfl rfl ?_;have hc:=Mf G key ad (b.length:Int) hk hl hx;by_cases he:bZ key ad (b.length:Int)=0
  ·have hv:iL key ad b=bO key ad b:=if_pos he;obtain⟨k1,k2,k3,k4⟩:=om he;rw[he] at hc ⊢;rw[hv];simp only[zy,af,ae,aa,seval,iteOmega,toNatUp];refine sD (hc) ?_;refine sD (Kx G key ad b k1 k2 k3 (by omega)) ?_;exact bw
  ·have hv:iL key ad b=[]:=if_neg he;rw[hv];have hne:bZ key ad (b.length:Int)=0↔False:=⟨he,False.elim⟩
   rcases nP key ad b.length with e | e | e | e
   ·exact absurd e he
   all_goals
     rw[e] at hc ⊢;simp only[zy,af,ae,aa,seval,iteOmega,toNatUp];refine aY hc rfl (.inl rfl) ?_;simp only[ae,aa,seval,iteOmega,toNatUp];exact bw
theorem Xj (G:ah) (key:List UInt8) (ad:List (List UInt8)) (b:List UInt8) (hk:key.length≤9223372036854775807) (hl:ad.length≤9223372036854775807) (hx:∀ x∈ad,x.length≤9223372036854775807) (hb:b.length≤9223372036854775807):au Tryz.prog G 79 [.sl (key.map bD),cX ad,.sl (b.map bD)] (.tup [.c (.d (.sl ((iL key ad b).map bD))),.c (.d (.int .i64 (bZ key ad b.length)))]):=lN (Xi G key ad b hk hl hx hb)
def yD:aD:=⟨3,27,.seq (.reg [oO 6 (.mv (.k (.c .nil))),oO 7 (.mv (kI 0))]) (.seq (.reg [oM 11 0,oM 12 1,oM 13 2,oO 14 (.call 79 [(.t 11),(.t 12),(.t 13)] none),oM 10 14,oO 15 (.extract (.t 10) 0),oO 16 (.extract (.t 10) 1),oM 8 15,oM 9 16]) (.seq (.seq (.reg [oM 17 9,oO 18 (.bin .neq (.t 17) (kI 0))]) (.cond (.t 18) (.seq (.reg [oM 19 9,oO 6 (.mv (.k (.c .nil))),oM 7 19]) (.ret)) (.skip))) (.seq (.reg [oM 20 8,oM 21 0,oM 22 8,oM 23 2,oO 24 (.call 80 [(.t 21),(.t 22),(.t 23)] none),oO 25 (.bldSl false 2 1 (.sl []) [(0,(.t 20)),(1,(.t 24))]),oO 26 (.call 50 [(.t 25)] (some (0,1))),oM 6 26,oO 7 (.mv (kI 0))]) (.ret)))),[(6,none),(7,none)]⟩
theorem Te:aB Tryz.prog { own:=[26],comp:=[],frz:=[],nils:=[] } Tryz.f48=some yD:=by kernel_rfl
theorem Vs (G:ah) (key:List UInt8) (ad:List (List UInt8)) (b:List UInt8) (hk:key.length≤9223372036854775807) (hl:ad.length≤9223372036854775807) (hx:∀ x∈ad,x.length≤9223372036854775807) (hb:b.length≤9223372036854775807):au Tryz.prog G 48 [.sl (key.map bD),cX ad,.sl (b.map bD)] (.tup [.c (.fr 1 ((jb key ad b).map bD)),.c (.d (.int .i64 (bZ key ad b.length)))]):=by
  refine aF Tryz.func48 Te rfl rfl ?_;have hc:=Xj G key ad b hk hl hx hb;by_cases he:bZ key ad (b.length:Int)=0
  ·have hv:iL key ad b=bO key ad b:=if_pos he;have hv2:jb key ad b=bO key ad b++cP key (bO key ad b) b:=if_pos he;obtain⟨k1,k2,k3,k4⟩:=om he;have hj:=eJ G [bO key ad b,cP key (bO key ad b) b] (by simp) (by simp[lK,lM]; omega);have hf:[bO key ad b,cP key (bO key ad b) b].flatten=bO key ad b++cP key (bO key ad b) b:=by simp
   rw[hf] at hj;rw[he,hv] at hc;rw[he,hv2];simp only[yD,af,ae,aa,seval,iteOmega,toNatUp];refine sD (hc) ?_;refine sD (Vq G key (bO key ad b) b k1 (lK _ _ _) (by omega)) ?_;refine sD (hj) ?_;exact bw
  ·have hv:iL key ad b=[]:=if_neg he;have hv2:jb key ad b=[]:=if_neg he;rw[hv] at hc;rw[hv2];rcases nP key ad b.length with e | e | e | e
   ·exact absurd e he
   all_goals
     rw[e] at hc ⊢;simp only[yD,af,ae,aa,seval,iteOmega,toNatUp];refine aY hc rfl (.inl rfl) ?_;simp only[ae,aa,seval,iteOmega,toNatUp];exact bw
theorem Vt (G:ah) (key:List UInt8) (ad:List (List UInt8)) (b:List UInt8) (hk:key.length≤9223372036854775807) (hl:ad.length≤9223372036854775807) (hx:∀ x∈ad,x.length≤9223372036854775807) (hb:b.length≤9223372036854775807):au Tryz.prog G 48 [.sl (key.map bD),cX ad,.sl (b.map bD)] (.tup [.c (.d (.sl ((jb key ad b).map bD))),.c (.d (.int .i64 (bZ key ad b.length)))]):=lN (Vs G key ad b hk hl hx hb)
theorem H6 {key:List UInt8} {ad:List (List UInt8)} {s:List UInt8} (h:bZ key ad ((s.length:Int)-16)≠0):fM key ad s=bZ key ad ((s.length:Int)-16)∧gJ key ad s=[]:=by
  have:fM key ad s=bZ key ad ((s.length:Int)-16):=if_pos h;refine⟨this,?_⟩;unfold gJ;rw[if_neg (by rw[this]; exact h)]
theorem Dt {key:List UInt8} {ad:List (List UInt8)} {s:List UInt8} (h:bZ key ad ((s.length:Int)-16)=0) (hs:s.length<16):fM key ad s=1∧gJ key ad s=[]:=by
  have:fM key ad s=1:=by unfold fM; rw[if_neg (by simp[h]),if_pos hs]
  refine⟨this,?_⟩;unfold gJ;rw[if_neg (by rw[this]; decide)]
theorem KA {key:List UInt8} {ad:List (List UInt8)} {s:List UInt8} (h:bZ key ad ((s.length:Int)-16)=0) (hs:¬ s.length<16) (ht:s.take 16=bO key ad (cP key (s.take 16) (s.drop 16))):fM key ad s=0∧gJ key ad s=cP key (s.take 16) (s.drop 16):=by
  have:fM key ad s=0:=by unfold fM; rw[if_neg (by simp[h]),if_neg hs,if_pos ht]
  exact⟨this,if_pos this⟩
theorem FM {key:List UInt8} {ad:List (List UInt8)} {s:List UInt8} (h:bZ key ad ((s.length:Int)-16)=0) (hs:¬ s.length<16) (ht:s.take 16≠bO key ad (cP key (s.take 16) (s.drop 16))):fM key ad s=6∧gJ key ad s=[]:=by
  have:fM key ad s=6:=by unfold fM; rw[if_neg (by simp[h]),if_neg hs,if_neg ht]
  refine⟨this,?_⟩;unfold gJ;rw[if_neg (by rw[this]; decide)]
def qI:aD:=⟨3,38,.seq (.reg [oO 6 (.mv (.k (.c .nil))),oO 7 (.mv (kI 0))]) (.seq (.seq (.reg [oM 11 0,oM 12 1,oM 13 2,oO 14 (.len (.t 13)),oO 15 (.bin .sub (.t 14) (kI 16)),oO 16 (.call 96 [(.t 11),(.t 12),(.t 15)] none),oM 8 16]) (.seq (.reg [oM 17 8,oO 18 (.bin .neq (.t 17) (kI 0))]) (.cond (.t 18) (.seq (.reg [oM 19 8,oO 6 (.mv (.k (.c .nil))),oM 7 19]) (.ret)) (.skip)))) (.seq (.seq (.reg [oM 20 2,oO 21 (.len (.t 20)),oO 22 (.bin .lss (.t 21) (kI 16))]) (.cond (.t 22) (.seq (.reg [oO 6 (.mv (.k (.c .nil))),oO 7 (.mv (kI 1))]) (.ret)) (.skip))) (.seq (.reg [oM 23 2,oO 24 (.slice 1 (.t 23) none (some (kI 16)) none),oM 9 24]) (.seq (.reg [oM 25 0,oM 26 9,oM 27 2,oO 28 (.slice 1 (.t 27) (some (kI 16)) none none),oO 29 (.call 80 [(.t 25),(.t 26),(.t 28)] (some (0,1))),oM 10 29]) (.seq (.seq (.reg [oM 30 9,
 oM 31 0,oM 32 1,oM 33 10,oO 34 (.call 97 [(.t 31),(.t 32),(.t 33)] none),oO 35 (.call 55 [(.t 30),(.t 34)] none),oO 36 (.un .not (.t 35))]) (.cond (.t 36) (.seq (.reg [oO 6 (.mv (.k (.c .nil))),oO 7 (.mv (kI 6))]) (.ret)) (.skip))) (.seq (.reg [oM 37 10,oM 6 37,oO 7 (.mv (kI 0))]) (.ret))))))),[(6,none),(7,none)]⟩
theorem Vu:aB Tryz.prog { own:=[29],comp:=[],frz:=[],nils:=[] } Tryz.f65=some qI:=by kernel_rfl
theorem Xk (G:ah) (key:List UInt8) (ad:List (List UInt8)) (s:List UInt8) (hk:key.length≤9223372036854775807) (hl:ad.length≤9223372036854775807) (hx:∀ x∈ad,x.length≤9223372036854775807) (hb:s.length≤9223372036854775807):au Tryz.prog G 65 [.sl (key.map bD),cX ad,.sl (s.map bD)] (.tup [.c (.fr 1 ((gJ key ad s).map bD)),.c (.d (.int .i64 (fM key ad s)))]):=by
  refine aF Tryz.func65 Vu rfl rfl ?_;have hc:=Mf G key ad ((s.length:Int)-16) hk hl hx;by_cases he:bZ key ad ((s.length:Int)-16)=0
  ·obtain⟨k1,k2,k3,k4⟩:=om he;rw[he] at hc;by_cases hs:s.length<16
   ·obtain⟨e1,e2⟩:=Dt he hs;rw[e1,e2];simp only[qI,af,ae,aa,seval,iteOmega,toNatUp];refine sD (hc) ?_;exact bw
   ·have ht:(s.take 16).length=16:=by rw[Yu]; omega
    have hd:(s.drop 16).length=s.length-16:=Yw;have hd2:(s.drop 16).take (s.length-16)=s.drop 16:=Yo (by omega);have c1:=Kz G key (s.take 16) (s.drop 16) k1 ht (by omega);have c2:=Kx G key ad (cP key (s.take 16) (s.drop 16)) k1 k2 k3 (by rw[lM]; omega);have c3:=qH G (s.take 16) (bO key ad (cP key (s.take 16) (s.drop 16)));by_cases hq:s.take 16=bO key ad (cP key (s.take 16) (s.drop 16))
    ·obtain⟨e1,e2⟩:=KA he hs hq;have hb:(s.take 16==bO key ad (cP key (s.take 16) (s.drop 16)))=true:=beq_iff_eq.2 hq;rw[hb] at c3;rw[e1,e2];simp only[qI,af,ae,aa,seval,iteOmega,toNatUp];refine sC (hc) ?_;simp only[hd2,ae,aa,seval,iteOmega,toNatUp];refine sD (c1) ?_;refine aY (c2) (by simp only[ae,aa,seval,iteOmega,toNatUp]) (.inr (eU _ _)) ?_;simp only[ae,aa,seval,iteOmega,toNatUp];refine sD (c3) ?_;exact bw
    ·obtain⟨e1,e2⟩:=FM he hs hq;have hb:(s.take 16==bO key ad (cP key (s.take 16) (s.drop 16)))=false:=by simpa using hq
     rw[hb] at c3;rw[e1,e2];simp only[qI,af,ae,aa,seval,iteOmega,toNatUp];refine sC (hc) ?_;simp only[hd2,ae,aa,seval,iteOmega,toNatUp];refine sD (c1) ?_;refine aY (c2) (by simp only[ae,aa,seval,iteOmega,toNatUp]) (.inr (eU _ _)) ?_;simp only[ae,aa,seval,iteOmega,toNatUp];refine sD (c3) ?_;exact bw
  ·obtain⟨e1,e2⟩:=H6 he;rw[e1,e2];rcases nP key ad ((s.length:Int)-16) with e | e | e | e
   ·exact absurd e he
   all_goals
     rw[e] at hc ⊢;simp only[qI,af,ae,aa,seval,iteOmega,toNatUp];refine aY hc rfl (.inl rfl) ?_;simp only[ae,aa,seval,iteOmega,toNatUp];exact bw
theorem Xl (G:ah) (key:List UInt8) (ad:List (List UInt8)) (s:List UInt8) (hk:key.length≤9223372036854775807) (hl:ad.length≤9223372036854775807) (hx:∀ x∈ad,x.length≤9223372036854775807) (hb:s.length≤9223372036854775807):au Tryz.prog G 65 [.sl (key.map bD),cX ad,.sl (s.map bD)] (.tup [.c (.d (.sl ((gJ key ad s).map bD))),.c (.d (.int .i64 (fM key ad s)))]):=lN (Xk G key ad s hk hl hx hb)
def qX (key:List UInt8) (ad:List (List UInt8)) (n:Int) (i:Nat):St:=⟨aP [(1,.w (.c (.d (cX ad)))),(2,.w (.c (.d (.int .i64 n)))),(7,.w (.c (.d (.int .i64 (i:Int)))))],hL [],uL []⟩
def pR:aN := .seq (.seq (.reg [oM 14 7,oM 15 1,oO 16 (.len (.t 15)),oO 17 (.bin .lss (.t 14) (.t 16))]) (.cond (.t 17) (.skip) (.exit 0))) (.seq (.block 1 (.seq (.reg [oM 20 1,oM 21 7,oO 22 (.idxSl 1 (.t 20) (.t 21)),oO 23 (.load .sc (.t 22)),oO 24 (.len (.t 23)),oO 25 (.bin .gtr (.t 24) (kI 65519))]) (.cond (.t 25) (.seq (.reg [oO 6 (.mv (kI 2))]) (.ret)) (.skip)))) (.reg [oM 18 7,oO 19 (.bin .add (.t 18) (kI 1)),oM 7 19]))
def tG:aD:=⟨3,28,.seq (.reg [oO 6 (.mv (kI 0))]) (.seq (.seq (.reg [oM 8 0,oO 9 (.len (.t 8)),oO 10 (.bin .neq (.t 9) (kI 32))]) (.cond (.t 10) (.seq (.reg [oO 6 (.mv (kI 5))]) (.ret)) (.skip))) (.seq (.seq (.reg [oM 11 1,oO 12 (.len (.t 11)),oO 13 (.bin .gtr (.t 12) (kI 16))]) (.cond (.t 13) (.seq (.reg [oO 6 (.mv (kI 8))]) (.ret)) (.skip))) (.seq (.seq (.reg [oO 7 (.mv (kI 0))]) (.block 0 (.loop pR))) (.seq (.seq (.reg [oM 26 2,oO 27 (.bin .gtr (.t 26) (kI 65519))]) (.cond (.t 27) (.seq (.reg [oO 6 (.mv (kI 2))]) (.ret)) (.skip))) (.seq (.reg [oO 6 (.mv (kI 0))]) (.ret)))))),[(6,none)]⟩
theorem Tf:aB Tryz.prog { own:=[],comp:=[],frz:=[],nils:=[] } Tryz.f102=some tG:=by kernel_rfl
theorem KB (G:ah) (key:List UInt8) (ad:List (List UInt8)) (n:Int) (hk:key.length≤9223372036854775807) (hl:ad.length≤9223372036854775807) (hb:∀ x∈ad,x.length≤9223372036854775807):au Tryz.prog G 102 [.sl (key.map bD),cX ad,.int .i64 n] (.w (.c (.d (.int .i64 (bZ key ad n))))):=by
  refine aF Tryz.func102 Tf rfl rfl ?_;unfold bZ;by_cases h:key.length=32
  ·rw[if_neg (by omega)];by_cases h2:16<ad.length
   ·rw[if_pos h2];simp only[tG,af,ae,aa,seval,iteOmega,toNatUp];exact aG
   ·rw[if_neg h2];simp only[tG,af,ae,aa,seval,iteOmega,toNatUp];refine aV (qX key ad n) (fun i=>ad.length-i) (fun i=>i≤ad.length∧∀ j,j<i→(ad.getD j []).length≤65519) 0 ⟨Yt _,fun j hj=>by omega⟩ ?_ ?_
    ·refine ap (fun i=>0) ?_ ?_ rfl rfl <;> simp only[wx,aj,ar,aa,seval,iteOmega,toNatUp] <;> rfl
    ·rintro i ⟨hi,hok⟩;by_cases hlt:i<ad.length
     ·have g1:=Ma hlt;have hx:=hb _ (wH hlt);by_cases hlong:65519<(ad.getD i []).length
      ·have hL:=PC hlt hlong;rw[if_pos (.inl hL)];simp only[pR,qX,ae,aa,seval,iteOmega,toNatUp,aC,g1];exact aG
      ·simp only[pR,qX,ae,aa,seval,iteOmega,toNatUp,aC,g1];refine aQ (i+1) (by omega) ⟨by omega,fun j hj=>?_⟩ (ap (fun i=>i) ?_ ?_ rfl rfl)
       ·rcases YE j i with h | h
        ·exact hok j h
        ·obtain rfl:j=i:=by omega
         omega
       all_goals simp only[wx,aj,ar,aa,seval,iteOmega,toNatUp]
     ·have hL:=Q9 (l:=ad) (fun j hj=>hok j (by omega));by_cases h3:65519<n
      ·rw[if_pos (.inr h3)];simp only[pR,qX,ae,aa,seval,iteOmega,toNatUp];exact aG
      ·rw[if_neg (by rw[hL]; simp; omega)];simp only[pR,qX,ae,aa,seval,iteOmega,toNatUp];exact aG
  ·rw[if_pos h];simp only[tG,af,ae,aa,seval,iteOmega,toNatUp];exact aG
def yE:aD:=⟨3,28,.seq (.reg [oO 6 (.mv (.k (.c .nil))),oO 7 (.mv (kI 0))]) (.seq (.seq (.reg [oM 9 0,oM 10 1,oM 11 2,oO 12 (.len (.t 11)),oO 13 (.call 102 [(.t 9),(.t 10),(.t 12)] none),oM 8 13]) (.seq (.reg [oM 14 8,oO 15 (.bin .neq (.t 14) (kI 0))]) (.cond (.t 15) (.seq (.reg [oM 16 8,oO 6 (.mv (.k (.c .nil))),oM 7 16]) (.ret)) (.skip)))) (.seq (.reg [oM 17 0,oO 18 (.slice 1 (.t 17) none (some (kI 16)) none),oO 19 (.bldSl false 0 1 (.sl []) []),oM 20 1,oO 21 (.appN false 1 24 (.t 19) (.t 20)),oM 22 2,oO 23 (.bldSl false 1 1 (.sl []) [(0,(.t 22))]),oO 24 (.app false 1 24 (.t 21) (.t 23)),oO 25 (.call 109 [(.t 18),(.t 24)] (some (0,1))),oO 26 (.extract (.t 25) 0),oO 27 (.extract (.t 25) 1),oM 6 26,oM 7 27]) (.ret))),[(6,none),(7,none)]⟩
theorem Tg:aB Tryz.prog { own:=[],comp:=[(25,0)],frz:=[],nils:=[21] } Tryz.f87=some yE:=by kernel_rfl
theorem KC (G:ah) (key:List UInt8) (ad:List (List UInt8)) (b:List UInt8) (hk:key.length≤9223372036854775807) (hl:ad.length≤9223372036854775807) (hx:∀ x∈ad,x.length≤9223372036854775807) (hb:b.length≤9223372036854775807):au Tryz.prog G 87 [.sl (key.map bD),cX ad,.sl (b.map bD)] (.tup [.c (.fr 1 ((iL key ad b).map bD)),.c (.d (.int .i64 (bZ key ad b.length)))]):=by
  refine aF Tryz.func87 Tg rfl rfl ?_;have hc:=KB G key ad (b.length:Int) hk hl hx;by_cases he:bZ key ad (b.length:Int)=0
  ·have hv:iL key ad b=bO key ad b:=if_pos he;obtain⟨k1,k2,k3,k4⟩:=om he;have hkk:(key.take 16).length=16:=by rw[Yu]; omega
   have hbb:b.length≤65519:=by omega
   obtain⟨v1,v2⟩:=H1 (l:=ad++[b]) hkk (by simp; omega) (uc k3 hbb);have hvv:=S6 G (key.take 16) (ad++[b]) (by omega) (by simp; omega) (fun x hx=>Za (uc k3 hbb x hx) (by decide));rw[v1,v2] at hvv;have ht:iu (ak (key.take 16)) (ad++[b])=bO key ad b:=rfl;rw[ht] at hvv;have ha:(ad.map fun l=>D.sl (l.map bD))++[D.sl (b.map bD)]=(ad++[b]).map fun l=>D.sl (l.map bD):=by rw[YD]; rfl
   have tl:(ad++[b]).take (ad.length+1)=ad++[b]:=Yo (by simp);rw[he] at hc ⊢;rw[hv];simp only[yE,af,ae,aa,seval,iteOmega,toNatUp];refine sC (hc) ?_;simp only[bH,fa,ha,ae,aa,seval,iteOmega,toNatUp];refine aY hvv (by simp only[ae,aa,seval,iteOmega,toNatUp,tl]) (.inr (qV _ _ _ _)) ?_;simp only[ae,aa,seval,iteOmega,toNatUp];exact bw
  ·have hv:iL key ad b=[]:=if_neg he;rw[hv];rcases nP key ad b.length with e | e | e | e
   ·exact absurd e he
   all_goals
     rw[e] at hc ⊢;simp only[yE,af,ae,aa,seval,iteOmega,toNatUp];refine aY hc rfl (.inl rfl) ?_;simp only[ae,aa,seval,iteOmega,toNatUp];exact bw
theorem Vv (G:ah) (key:List UInt8) (ad:List (List UInt8)) (b:List UInt8) (hk:key.length≤9223372036854775807) (hl:ad.length≤9223372036854775807) (hx:∀ x∈ad,x.length≤9223372036854775807) (hb:b.length≤9223372036854775807):au Tryz.prog G 87 [.sl (key.map bD),cX ad,.sl (b.map bD)] (.tup [.c (.d (.sl ((iL key ad b).map bD))),.c (.d (.int .i64 (bZ key ad b.length)))]):=lN (KC G key ad b hk hl hx hb)
def xS:aD:=⟨3,35,.seq (.reg [oO 6 (.mv (.k (.c .nil))),oO 7 (.mv (kI 0))]) (.seq (.reg [oM 13 0,oM 14 1,oM 15 2,oO 16 (.call 87 [(.t 13),(.t 14),(.t 15)] none),oM 12 16,oO 17 (.extract (.t 12) 0),oO 18 (.extract (.t 12) 1),oM 8 17,oM 9 18]) (.seq (.seq (.reg [oM 19 9,oO 20 (.bin .neq (.t 19) (kI 0))]) (.cond (.t 20) (.seq (.reg [oM 21 9,oO 6 (.mv (.k (.c .nil))),oM 7 21]) (.ret)) (.skip))) (.seq (.reg [oM 23 0,oO 24 (.slice 1 (.t 23) (some (kI 16)) none none),oM 25 8,oO 26 (.call 89 [(.t 25)] none),oM 27 2,oO 28 (.call 88 [(.t 24),(.t 26),(.t 27)] none),oM 22 28,oO 29 (.extract (.t 22) 0),oO 30 (.extract (.t 22) 1),oM 10 29,oM 11 30]) (.seq (.reg [oM 31 8,oM 32 10,oO 33 (.bldSl false 2 1 (.sl []) [(0,(.t 31)),(1,(.t 32))]),oO 34 (.call 41 [(.t 33)] (some (0,1))),oM 6 34,oO 7 (.mv (kI 0))])
 (.ret))))),[(6,none),(7,none)]⟩
theorem Ra:aB Tryz.prog { own:=[34],comp:=[],frz:=[],nils:=[] } Tryz.f60=some xS:=by kernel_rfl
theorem Ti (G:ah) (key:List UInt8) (ad:List (List UInt8)) (b:List UInt8) (hk:key.length≤9223372036854775807) (hl:ad.length≤9223372036854775807) (hx:∀ x∈ad,x.length≤9223372036854775807) (hb:b.length≤9223372036854775807):au Tryz.prog G 60 [.sl (key.map bD),cX ad,.sl (b.map bD)] (.tup [.c (.fr 1 ((jb key ad b).map bD)),.c (.d (.int .i64 (bZ key ad b.length)))]):=by
  refine aF Tryz.func60 Ra rfl rfl ?_;have hc:=Vv G key ad b hk hl hx hb;by_cases he:bZ key ad (b.length:Int)=0
  ·have hv:iL key ad b=bO key ad b:=if_pos he;have hv2:jb key ad b=bO key ad b++cP key (bO key ad b) b:=if_pos he;obtain⟨k1,k2,k3,k4⟩:=om he;have hj:=eo G [bO key ad b,cP key (bO key ad b) b] (by simp) (by simp[lK,lM]; omega);have hf:[bO key ad b,cP key (bO key ad b) b].flatten=bO key ad b++cP key (bO key ad b) b:=by simp
   rw[hf] at hj;have hkd:(key.drop 16).length=16:=by rw[Yw]; omega
   have hk2:(key.drop 16).take 16=key.drop 16:=Yo (by omega);have hct:(fC (bO key ad b)).length=16:=by rw[nH,lK]
   obtain⟨v1,v2⟩:=w8 (c:=fC (bO key ad b)) (b:=b) hkd hct (by omega);have hs:=Vg G (key.drop 16) (fC (bO key ad b)) b (by omega) (by omega) (by omega);rw[v1,v2] at hs;have hsS:fR (ak (key.drop 16)) (fC (bO key ad b)) b=cP key (bO key ad b) b:=rfl;rw[hsS] at hs;rw[he,hv] at hc;rw[he,hv2];simp only[xS,af,ae,aa,seval,iteOmega,toNatUp];refine sC (hc) ?_;simp only[k1,ae,aa,seval,iteOmega,toNatUp];refine sC (zx G (bO key ad b) (lK _ _ _)) ?_;simp only[hk2,ae,aa,seval,iteOmega,toNatUp];refine sD (hs) ?_;refine sD (hj) ?_;exact bw
  ·have hv:iL key ad b=[]:=if_neg he;have hv2:jb key ad b=[]:=if_neg he;rw[hv] at hc;rw[hv2];rcases nP key ad b.length with e | e | e | e
   ·exact absurd e he
   all_goals
     rw[e] at hc ⊢;simp only[xS,af,ae,aa,seval,iteOmega,toNatUp];refine aY hc rfl (.inl rfl) ?_;simp only[ae,aa,seval,iteOmega,toNatUp];exact bw
theorem Tj (G:ah) (key:List UInt8) (ad:List (List UInt8)) (b:List UInt8) (hk:key.length≤9223372036854775807) (hl:ad.length≤9223372036854775807) (hx:∀ x∈ad,x.length≤9223372036854775807) (hb:b.length≤9223372036854775807):au Tryz.prog G 60 [.sl (key.map bD),cX ad,.sl (b.map bD)] (.tup [.c (.d (.sl ((jb key ad b).map bD))),.c (.d (.int .i64 (bZ key ad b.length)))]):=lN (Ti G key ad b hk hl hx hb)
def qq:aD:=⟨3,49,.seq (.reg [oO 6 (.mv (.k (.c .nil))),oO 7 (.mv (kI 0))]) (.seq (.seq (.reg [oM 13 0,oM 14 1,oM 15 2,oO 16 (.len (.t 15)),oO 17 (.bin .sub (.t 16) (kI 16)),oO 18 (.call 102 [(.t 13),(.t 14),(.t 17)] none),oM 8 18]) (.seq (.reg [oM 19 8,oO 20 (.bin .neq (.t 19) (kI 0))]) (.cond (.t 20) (.seq (.reg [oM 21 8,oO 6 (.mv (.k (.c .nil))),oM 7 21]) (.ret)) (.skip)))) (.seq (.seq (.reg [oM 22 2,oO 23 (.len (.t 22)),oO 24 (.bin .lss (.t 23) (kI 16))]) (.cond (.t 24) (.seq (.reg [oO 6 (.mv (.k (.c .nil))),oO 7 (.mv (kI 1))]) (.ret)) (.skip))) (.seq (.reg [oM 26 0,oO 27 (.slice 1 (.t 26) (some (kI 16)) none none),oM 28 2,oO 29 (.slice 1 (.t 28) none (some (kI 16)) none),oO 30 (.call 89 [(.t 29)] none),oM 31 2,oO 32 (.slice 1 (.t 31) (some (kI 16)) none none),oO 33 (.call 88 [(.t 27),(.t 30),(.t 32)] (some (0,1))),
 oM 25 33,oO 34 (.extract (.t 25) 0),oO 35 (.extract (.t 25) 1),oM 9 34,oM 10 35]) (.seq (.reg [oM 37 0,oM 38 1,oM 39 9,oO 40 (.call 87 [(.t 37),(.t 38),(.t 39)] none),oM 36 40,oO 41 (.extract (.t 36) 0),oO 42 (.extract (.t 36) 1),oM 11 41,oM 12 42]) (.seq (.seq (.reg [oM 43 11,oM 44 2,oO 45 (.slice 1 (.t 44) none (some (kI 16)) none),oO 46 (.call 12 [(.t 43),(.t 45)] none),oO 47 (.un .not (.t 46))]) (.cond (.t 47) (.seq (.reg [oO 6 (.mv (.k (.c .nil))),oO 7 (.mv (kI 6))]) (.ret)) (.skip))) (.seq (.reg [oM 48 9,oM 6 48,oO 7 (.mv (kI 0))]) (.ret))))))),[(6,none),(7,none)]⟩
theorem Tk:aB Tryz.prog { own:=[],comp:=[(33,0)],frz:=[],nils:=[] } Tryz.f70=some qq:=by kernel_rfl
theorem Vw (G:ah) (key:List UInt8) (ad:List (List UInt8)) (s:List UInt8) (hk:key.length≤9223372036854775807) (hl:ad.length≤9223372036854775807) (hx:∀ x∈ad,x.length≤9223372036854775807) (hb:s.length≤9223372036854775807):au Tryz.prog G 70 [.sl (key.map bD),cX ad,.sl (s.map bD)] (.tup [.c (.fr 1 ((gJ key ad s).map bD)),.c (.d (.int .i64 (fM key ad s)))]):=by
  refine aF Tryz.func70 Tk rfl rfl ?_;have hc:=KB G key ad ((s.length:Int)-16) hk hl hx;by_cases he:bZ key ad ((s.length:Int)-16)=0
  ·obtain⟨k1,k2,k3,k4⟩:=om he;rw[he] at hc;by_cases hs:s.length<16
   ·obtain⟨e1,e2⟩:=Dt he hs;rw[e1,e2];simp only[qq,af,ae,aa,seval,iteOmega,toNatUp];refine sD (hc) ?_;exact bw
   ·have ht:(s.take 16).length=16:=by rw[Yu]; omega
    have hd:(s.drop 16).length=s.length-16:=Yw;have hd2:(s.drop 16).take (s.length-16)=s.drop 16:=Yo (by omega);have hkd:(key.drop 16).length=16:=by rw[Yw]; omega
    have hk2:(key.drop 16).take 16=key.drop 16:=Yo (by omega);have hct:(fC (s.take 16)).length=16:=by rw[nH,ht]
    obtain⟨v1,v2⟩:=w8 (c:=fC (s.take 16)) (b:=s.drop 16) hkd hct (by omega);have c1:=Ku G (key.drop 16) (fC (s.take 16)) (s.drop 16) (by omega) (by omega) (by omega);rw[v1,v2] at c1;have hsS:fR (ak (key.drop 16)) (fC (s.take 16)) (s.drop 16)=cP key (s.take 16) (s.drop 16):=rfl;rw[hsS] at c1;have hsl:=lM key (s.take 16) (s.drop 16);have he2:bZ key ad ((cP key (s.take 16) (s.drop 16)).length:Int)=0:=by
      rw[hsl,hd,show ((s.length-16:Nat):Int)=(s.length:Int)-16 by omega]; exact he
    have c2:=KC G key ad (cP key (s.take 16) (s.drop 16)) hk hl hx (by omega);rw[he2,show iL key ad (cP key (s.take 16) (s.drop 16))=bO key ad (cP key (s.take 16) (s.drop 16)) from if_pos he2] at c2;have c3:=jq G (bO key ad (cP key (s.take 16) (s.drop 16))) (s.take 16);by_cases hq:s.take 16=bO key ad (cP key (s.take 16) (s.drop 16))
    ·obtain⟨e1,e2⟩:=KA he hs hq;have hb:(bO key ad (cP key (s.take 16) (s.drop 16))==s.take 16)=true:=beq_iff_eq.2 hq.symm;rw[hb] at c3;rw[e1,e2];simp only[qq,af,ae,aa,seval,iteOmega,toNatUp];refine sC (hc) ?_;simp only[k1,ae,aa,seval,iteOmega,toNatUp];refine sC (zx G (s.take 16) ht) ?_;simp only[hk2,hd2,ae,aa,seval,iteOmega,toNatUp];refine sD (c1) ?_;refine aY c2 (by simp only[ae,aa,seval,iteOmega,toNatUp]) (.inr (qV _ _ _ _)) ?_;simp only[ae,aa,seval,iteOmega,toNatUp];refine sD (c3) ?_;exact bw
    ·obtain⟨e1,e2⟩:=FM he hs hq;have hb:(bO key ad (cP key (s.take 16) (s.drop 16))==s.take 16)=false:=by
       rw[beq_eq_false_iff_ne]; exact fun e=>hq e.symm
     rw[hb] at c3;rw[e1,e2];simp only[qq,af,ae,aa,seval,iteOmega,toNatUp];refine sC (hc) ?_;simp only[k1,ae,aa,seval,iteOmega,toNatUp];refine sC (zx G (s.take 16) ht) ?_;simp only[hk2,hd2,ae,aa,seval,iteOmega,toNatUp];refine sD (c1) ?_;refine aY c2 (by simp only[ae,aa,seval,iteOmega,toNatUp]) (.inr (qV _ _ _ _)) ?_;simp only[ae,aa,seval,iteOmega,toNatUp];refine sD (c3) ?_;exact bw
  ·obtain⟨e1,e2⟩:=H6 he;rw[e1,e2];rcases nP key ad ((s.length:Int)-16) with e | e | e | e
   ·exact absurd e he
   all_goals
     rw[e] at hc ⊢;simp only[qq,af,ae,aa,seval,iteOmega,toNatUp];refine aY hc rfl (.inl rfl) ?_;simp only[ae,aa,seval,iteOmega,toNatUp];exact bw
theorem Vx (G:ah) (key:List UInt8) (ad:List (List UInt8)) (s:List UInt8) (hk:key.length≤9223372036854775807) (hl:ad.length≤9223372036854775807) (hx:∀ x∈ad,x.length≤9223372036854775807) (hb:s.length≤9223372036854775807):au Tryz.prog G 70 [.sl (key.map bD),cX ad,.sl (s.map bD)] (.tup [.c (.d (.sl ((gJ key ad s).map bD))),.c (.d (.int .i64 (fM key ad s)))]):=lN (Vw G key ad s hk hl hx hb)
theorem Rb {key:List UInt8} {ad:List (List UInt8)} {n:Int} (h:key.length=32) (h2:ad.length≤16) (h3:∀ x∈ad,x.length≤65519) (h4:n≤65519):bZ key ad n=0:=by
  have:gY ad=false:=by
    unfold gY;rw[ZA];intro x hx;have:=h3 x hx
    simpa using this
  unfold bZ;rw[if_neg (by omega),if_neg (by omega),if_neg (by rw[this]; simp; omega)]
theorem xT {key b:List UInt8} {ad:List (List UInt8)} (h:bZ key ad b.length=0):jb key ad b=bO key ad b++cP key (bO key ad b) b:=if_pos h
end Go.Proofs.YtofonnokanoflaaGreat
