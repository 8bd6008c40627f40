/- Texts of one's own, merged: from: Layer 6 on data: tags,sealed bytes,opened ones; both codes. Own work. -/
import Derived.Shelf.Abstract
import Derived.Test.YtofonnokanoflaaMg211
import Derived.Test.YtofonnokanoflaaMg210
import Derived.Test.YtofonnokanoflaaMg212
set_option linter.unusedVariables false
set_option linter.unusedSimpArgs false
namespace Go.Proofs.Ytofonnokanoflaa
open Go.RowKit IntWalk
set_option maxHeartbeats 1600000
def jG (tag:List UInt8):List UInt8:=(tag.set 8 (ku (tag.getD 8 0) 127)).set 12 (ku (tag.getD 12 0) 127)
theorem uS (tag:List UInt8):(jG tag).length=tag.length:=by unfold jG; rw[VO,VO]
def bM (key:List UInt8) (ad:List (List UInt8)) (b:List UInt8):List UInt8:=ix (aC (key.take 16)) (ad++[b])
theorem jd (key:List UInt8) (ad:List (List UInt8)) (b:List UInt8):(bM key ad b).length=16:=Ms _ _
def cS (key tag b:List UInt8):List UInt8:=eL (aC (key.drop 16)) (jG tag) b
theorem kR (key tag b:List UInt8):(cS key tag b).length=b.length:=pJ _ _ _
def ir (l:List (List UInt8)):Bool:=l.any fun x=>decide (65519<x.length)
def bP (key:List UInt8) (ad:List (List UInt8)) (n:Int):Int:=if key.length≠32 then 5 else if 16<ad.length then 8 else if ir ad=true∨65519<n then 2 else 0
def mP (key:List UInt8) (ad:List (List UInt8)) (b:List UInt8):List UInt8:=if bP key ad b.length=0 then bM key ad b else []
def lj (key:List UInt8) (ad:List (List UInt8)) (b:List UInt8):List UInt8:=if bP key ad b.length=0 then bM key ad b++cS key (bM key ad b) b else []
def eR (key:List UInt8) (ad:List (List UInt8)) (s:List UInt8):Int :=
  if bP key ad ((s.length:Int)-16)≠0 then bP key ad ((s.length:Int)-16) else if s.length<16 then 1 else if s.take 16=bM key ad (cS key (s.take 16) (s.drop 16)) then 0 else 6
def fU (key:List UInt8) (ad:List (List UInt8)) (s:List UInt8):List UInt8:=if eR key ad s=0 then cS key (s.take 16) (s.drop 16) else []
theorem K0 {l:List (List UInt8)} (h:ir l=false):∀ x∈l,x.length≤65519:=by
  unfold ir at h;rw[VW] at h;intro x hx
  simpa using h x hx
theorem wn {key:List UInt8} {ad:List (List UInt8)} {n:Int} (h:bP key ad n=0):key.length=32∧ad.length≤16∧ir ad=false∧n≤65519:=by
  unfold bP at h;split at h
  ·cases h
  ·split at h
   ·cases h
   ·split at h
    ·cases h
    ·rename_i h1 h2 h3;cases hl:ir ad
     ·exact⟨by omega,by omega,rfl,by omega⟩
     ·exact absurd (.inl hl) h3
theorem vB (key:List UInt8) (ad:List (List UInt8)) (n:Int):bP key ad n=0∨bP key ad n=5∨bP key ad n=8∨bP key ad n=2:=by
  unfold bP;split
  ·exact .inr (.inl rfl)
  ·split
   ·exact .inr (.inr (.inl rfl))
   ·split
    ·exact .inr (.inr (.inr rfl))
    ·exact .inl rfl
theorem OE {k:List UInt8} {l:List (List UInt8)} (h:k.length=16) (hn:l.length≤17) (hl:∀ x∈l,x.length≤65535):xI k l=ix (aC k) l∧sF k l=0:=by
  have:iQ l=false:=by
    unfold iQ;rw[VW];intro x hx;have:=hl x hx
    simpa using this
  refine⟨if_pos ⟨h,hn,this⟩,?_⟩;unfold sF;rw[if_neg (by omega),if_neg (by omega),this,if_neg (by simp)]
theorem K1 {k c b:List UInt8} (h:k.length=16) (hc:c.length=16) (hb:b.length≤65535):rP k c b=eL (aC k) c b∧iR k c b=0:=by
  refine⟨if_pos ⟨h,hc,hb⟩,?_⟩;unfold iR;rw[if_neg (by omega),if_neg (by omega),if_neg (by omega)]
theorem GJ {ad:List (List UInt8)} {b:List UInt8} (h:ir ad=false) (hb:b.length≤65519):∀ x∈ad++[b],x.length≤65535:=by
  intro x hx;rcases UY.1 hx with hx | hx
  ·have:=K0 h x hx; omega
  ·simp only[UO] at hx; subst hx; omega
def vC:aB:=⟨1,6,.seq (.reg [oO 2 (.mv (.k (.c (.d (.bool false)))))]) (.seq (.reg [oM 3 0,oO 4 (.len (.t 3)),oO 5 (.bin .gtr (.t 4) (kI 65519)),oM 2 5]) (.ret)),[(2,none)]⟩
theorem OG:aA Try.prog { own:=[],comp:=[],frz:=[],nils:=[] } Try.f75=some vC:=by kernel_rfl
theorem Q3 (G:aj) (x:List UInt8) (hx:x.length≤9223372036854775807):mM Try.prog G 75 [] [.sl (x.map bD)] (.w (.c (.d (.bool (decide (65519<x.length)))))):=by
  refine⟨enters_of Try.func75 (by kernel_rfl) rfl,?_⟩;refine aF Try.func75 OG rfl rfl ?_;by_cases h:65519<x.length
  ·have hd:decide (65519<x.length)=true:=decide_eq_true h;rw[hd];simp only[vC,ah,ae,aa,seval,iteOmega,toNatUp];exact aP
  ·have hd:decide (65519<x.length)=false:=decide_eq_false h;rw[hd];simp only[vC,ah,ae,aa,seval,iteOmega,toNatUp];exact aP
def mi:aB:=⟨3,21,.seq (.reg [oO 6 (.mv (kI 0))]) (.seq (.seq (.reg [oM 8 0,oO 9 (.len (.t 8)),oO 10 (.bin .neq (.t 9) (kI 32))]) (.cond (.t 10) (.seq (.reg [oO 6 (.mv (kI 5))]) (.ret)) (.skip))) (.seq (.seq (.reg [oM 11 1,oO 12 (.len (.t 11)),oO 13 (.bin .gtr (.t 12) (kI 16))]) (.cond (.t 13) (.seq (.reg [oO 6 (.mv (kI 8))]) (.ret)) (.skip))) (.seq (.reg [oO 7 (.mv (.k (.c (.d (.fn 75 [])))))]) (.seq (.seq (.reg [oM 14 1,oM 15 7,oO 16 (.call 47 [(.t 14),(.t 15)] none),oM 17 16,oG 18 (.mv (.t 2)) 17 false,oG 19 (.bin .gtr (.t 18) (kI 65519)) 17 false,oO 20 (.pick (.t 17) (.k (.c (.d (.bool true)))) (.t 19))]) (.cond (.t 20) (.seq (.reg [oO 6 (.mv (kI 2))]) (.ret)) (.skip))) (.seq (.reg [oO 6 (.mv (kI 0))]) (.ret)))))),[(6,none)]⟩
theorem Q4:aA Try.prog { own:=[],comp:=[],frz:=[],nils:=[] } Try.f60=some mi:=by kernel_rfl
theorem H3 (G:aj) (key:List UInt8) (ad:List (List UInt8)) (n:Int) (hk:key.length≤9223372036854775807) (hl:ad.length≤9223372036854775807) (hb:∀ x∈ad,x.length≤9223372036854775807):ar Try.prog G 60 [.sl (key.map bD),dV ad,.int .i64 n] (.w (.c (.d (.int .i64 (bP key ad n))))):=by
  refine aF Try.func60 Q4 rfl rfl ?_;have hc:=Gs G ad 75 [] (fun x=>decide (65519<x.length)) hl (fun x hx=>Q3 G x (hb x hx));have hL:(ad.any fun x=>decide (65519<x.length))=ir ad:=rfl;rw[hL] at hc;unfold bP;by_cases h:key.length=32
  ·rw[if_neg (by omega)];by_cases h2:16<ad.length
   ·rw[if_pos h2];simp only[mi,ah,ae,aa,seval,iteOmega,toNatUp];exact aP
   ·rw[if_neg h2];cases hl:ir ad
    ·rw[hl] at hc;by_cases h3:65519<n
     ·rw[if_pos (.inr h3)];simp only[mi,ah,ae,aa,seval,iteOmega,toNatUp];refine sD (hc) ?_;exact aP
     ·rw[if_neg (by simp; omega)];simp only[mi,ah,ae,aa,seval,iteOmega,toNatUp];refine sD (hc) ?_;exact aP
    ·rw[hl] at hc;rw[if_pos (.inl rfl)];simp only[mi,ah,ae,aa,seval,iteOmega,toNatUp];refine sD (hc) ?_;exact aP
  ·rw[if_pos h];simp only[mi,ah,ae,aa,seval,iteOmega,toNatUp];exact aP
def Em:aB:=⟨3,23,.seq (.reg [oO 6 (.mv (.k (.c .nil)))]) (.seq (.reg [oM 10 1,oM 11 2,oO 12 (.bldSl false 1 1 (.sl []) [(0,(.t 11))]),oO 13 (.bldSl false 2 1 (.sl []) [(0,(.t 10)),(1,(.t 12))]),oO 14 (.call 78 [(.t 13)] none),oM 7 14]) (.seq (.reg [oM 16 0,oO 17 (.slice 1 (.t 16) none (some (kI 16)) none),oM 18 7,oO 19 (.call 79 [(.t 17),(.t 18)] (some (0,1))),oM 15 19,oO 20 (.extract (.t 15) 0),oO 21 (.extract (.t 15) 1),oM 8 20,oM 9 21]) (.seq (.reg [oM 22 8,oM 6 22]) (.ret)))),[(6,none)]⟩
theorem OH:aA Try.prog { own:=[],comp:=[(19,0)],frz:=[],nils:=[] } Try.f62=some Em:=by kernel_rfl
theorem GK (G:aj) (key:List UInt8) (ad:List (List UInt8)) (b:List UInt8) (h:key.length=32) (hn:ad.length≤16) (hl:ir ad=false) (hb:b.length≤65519):ar Try.prog G 62 [.sl (key.map bD),dV ad,.sl (b.map bD)] (.w (.c (.fr 1 ((bM key ad b).map bD)))):=by
  refine aF Try.func62 OH rfl rfl ?_;have hf:[ad,[b]].flatten=ad++[b]:=by simp
  have hc:=Qz G [ad,[b]] (by simp) (by rw[hf]; simp; omega);rw[hf] at hc;have hk:(key.take 16).length=16:=by rw[UI]; omega
  obtain⟨v1,v2⟩:=OE (l:=ad++[b]) hk (by simp; omega) (GJ hl hb);have hv:=QY G (key.take 16) (ad++[b]) (by omega) (by simp; omega) (fun x hx=>Vl (GJ hl hb x hx) (by decide));rw[v1,v2] at hv;have ht:ix (aC (key.take 16)) (ad++[b])=bM key ad b:=rfl;rw[ht] at hv;simp only[Em,ah,ae,aa,seval,iteOmega,toNatUp];refine sD (hc) ?_;refine sD (hv) ?_;exact gz
theorem vD {tag:List UInt8} (h:tag.length=16) {i:Nat} (hi:i<16):tag[i]?=some (tag.getD i 0):=by
  rw[UD,UB (by omega)]; rfl
theorem OI {tag:List UInt8} (h:tag.length=16) (x:UInt8):(tag.set 8 x)[12]?=some (tag.getD 12 0):=by
  rw[List.getElem?_set_ne (by decide),vD h (by decide)]
def GL:aB:=⟨1,18,.seq (.reg [oO 2 (.mv (.k (.c .nil)))]) (.seq (.reg [oM 4 0,oO 5 (.bldSl false 1 1 (.sl []) [(0,(.t 4))]),oO 6 (.call 30 [(.t 5)] (some (0,1))),oM 3 6]) (.seq (.reg [oM 7 3,oO 8 (.idxSl 1 (.t 7) (kI 8)),oO 9 (.load .sc (.t 8)),oO 10 (.bin .and (.t 9) (.k (.c (.d (.int .u8 127))))),oO 11 (.idxSl 1 (.t 7) (kI 8)),oN (.store .sc (.t 11) (.t 10))]) (.seq (.reg [oM 12 3,oO 13 (.idxSl 1 (.t 12) (kI 12)),oO 14 (.load .sc (.t 13)),oO 15 (.bin .and (.t 14) (.k (.c (.d (.int .u8 127))))),oO 16 (.idxSl 1 (.t 12) (kI 12)),oN (.store .sc (.t 16) (.t 15))]) (.seq (.reg [oM 17 3,oM 2 17]) (.ret))))),[(2,none)]⟩
theorem Q5:aA Try.prog { own:=[6],comp:=[],frz:=[],nils:=[] } Try.f77=some GL:=by kernel_rfl
theorem Tb (G:aj) (tag:List UInt8) (h:tag.length=16):ar Try.prog G 77 [.sl (tag.map bD)] (.w (.c (.fr 1 ((jG tag).map bD)))):=by
  refine aF Try.func77 Q5 rfl rfl ?_;have hj:=dw G [tag] (by simp) (by simp; omega);have hf:[tag].flatten=tag:=by simp
  rw[hf] at hj;have g1:=vD h (i:=8) (by decide);have g2:=vD h (i:=12) (by decide);have g3:=OI h (ku (tag.getD 8 0) 127);have x1:=Gi (tag.getD 8 0) 127 127 rfl;have x2:=Gi (tag.getD 12 0) 127 127 rfl;have hs:(tag.set 8 (ku (tag.getD 8 0) 127)).set 12 (ku (tag.getD 12 0) 127)=jG tag:=rfl;simp only[GL,ah,ae,aa,seval,iteOmega,toNatUp];refine sC (hj) ?_;simp only[aV,g1,g2,g3,x1,x2,vg,hs,ae,aa,seval,iteOmega,toNatUp];exact Gg (by simp only[ae,aa,seval,iteOmega,toNatUp,uS])
theorem Tc (G:aj) (tag:List UInt8) (h:tag.length=16):ar Try.prog G 77 [.sl (tag.map bD)] (.w (.c (.d (.sl ((jG tag).map bD))))):=j5 (Tb G tag h)
def En:aB:=⟨3,19,.seq (.reg [oO 6 (.mv (.k (.c .nil)))]) (.seq (.reg [oM 10 0,oO 11 (.slice 1 (.t 10) (some (kI 16)) none none),oM 12 1,oO 13 (.call 77 [(.t 12)] none),oM 14 2,oO 15 (.call 76 [(.t 11),(.t 13),(.t 14)] (some (0,1))),oM 9 15,oO 16 (.extract (.t 9) 0),oO 17 (.extract (.t 9) 1),oM 7 16,oM 8 17]) (.seq (.reg [oM 18 7,oM 6 18]) (.ret))),[(6,none)]⟩
theorem OJ:aA Try.prog { own:=[],comp:=[(15,0)],frz:=[],nils:=[] } Try.f61=some En:=by kernel_rfl
theorem GM (G:aj) (key tag b:List UInt8) (h:key.length=32) (ht:tag.length=16) (hb:b.length≤65535):ar Try.prog G 61 [.sl (key.map bD),.sl (tag.map bD),.sl (b.map bD)] (.w (.c (.fr 1 ((cS key tag b).map bD)))):=by
  refine aF Try.func61 OJ rfl rfl ?_;have hk:(key.drop 16).length=16:=by rw[UK]; omega
  have hk2:(key.drop 16).take 16=key.drop 16:=UG (by omega);obtain⟨v1,v2⟩:=K1 (c:=jG tag) (b:=b) hk (by rw[uS]; exact ht) hb;have hv:=S8 G (key.drop 16) (jG tag) b (by omega) (by rw[uS]; omega) (by omega);rw[v1,v2] at hv;have hs:eL (aC (key.drop 16)) (jG tag) b=cS key tag b:=rfl;rw[hs] at hv;simp only[En,ah,ae,aa,seval,iteOmega,toNatUp,h];refine sC (Tc G tag ht) ?_;simp only[hk2,ae,aa,seval,iteOmega,toNatUp];refine sD (hv) ?_;exact gz
theorem Q6 (G:aj) (key tag b:List UInt8) (h:key.length=32) (ht:tag.length=16) (hb:b.length≤65535):ar Try.prog G 61 [.sl (key.map bD),.sl (tag.map bD),.sl (b.map bD)] (.w (.c (.d (.sl ((cS key tag b).map bD))))):=j5 (GM G key tag b h ht hb)
def wq:aB:=⟨3,21,.seq (.reg [oO 6 (.mv (.k (.c .nil))),oO 7 (.mv (kI 0))]) (.seq (.seq (.reg [oM 9 0,oM 10 1,oM 11 2,oO 12 (.len (.t 11)),oO 13 (.call 60 [(.t 9),(.t 10),(.t 12)] none),oM 8 13]) (.seq (.reg [oM 14 8,oO 15 (.bin .neq (.t 14) (kI 0))]) (.cond (.t 15) (.seq (.reg [oM 16 8,oO 6 (.mv (.k (.c .nil))),oM 7 16]) (.ret)) (.skip)))) (.seq (.reg [oM 17 0,oM 18 1,oM 19 2,oO 20 (.call 62 [(.t 17),(.t 18),(.t 19)] (some (0,1))),oM 6 20,oO 7 (.mv (kI 0))]) (.ret))),[(6,none),(7,none)]⟩
theorem Q7:aA Try.prog { own:=[20],comp:=[],frz:=[],nils:=[] } Try.f70=some wq:=by kernel_rfl
theorem Td (G:aj) (key:List UInt8) (ad:List (List UInt8)) (b:List UInt8) (hk:key.length≤9223372036854775807) (hl:ad.length≤9223372036854775807) (hx:∀ x∈ad,x.length≤9223372036854775807) (hb:b.length≤9223372036854775807):ar Try.prog G 70 [.sl (key.map bD),dV ad,.sl (b.map bD)] (.tup [.c (.fr 1 ((mP key ad b).map bD)),.c (.d (.int .i64 (bP key ad b.length)))]):=by
  refine aF Try.func70 Q7 rfl rfl ?_;have hc:=H3 G key ad (b.length:Int) hk hl hx;by_cases he:bP key ad (b.length:Int)=0
  ·have hv:mP key ad b=bM key ad b:=if_pos he;obtain⟨k1,k2,k3,k4⟩:=wn he;rw[he] at hc ⊢;rw[hv];simp only[wq,ah,ae,aa,seval,iteOmega,toNatUp];refine sD (hc) ?_;refine sD (GK G key ad b k1 k2 k3 (by omega)) ?_;exact cv
  ·have hv:mP key ad b=[]:=if_neg he;rw[hv];have hne:bP key ad (b.length:Int)=0↔False:=⟨he,False.elim⟩
   rcases vB key ad b.length with e | e | e | e
   ·exact absurd e he
   all_goals
     rw[e] at hc ⊢;simp only[wq,ah,ae,aa,seval,iteOmega,toNatUp];refine bE hc rfl (.inl rfl) ?_;simp only[ae,aa,seval,iteOmega,toNatUp];exact cv
theorem Te (G:aj) (key:List UInt8) (ad:List (List UInt8)) (b:List UInt8) (hk:key.length≤9223372036854775807) (hl:ad.length≤9223372036854775807) (hx:∀ x∈ad,x.length≤9223372036854775807) (hb:b.length≤9223372036854775807):ar Try.prog G 70 [.sl (key.map bD),dV ad,.sl (b.map bD)] (.tup [.c (.d (.sl ((mP key ad b).map bD))),.c (.d (.int .i64 (bP key ad b.length)))]):=qC (Td G key ad b hk hl hx hb)
def vE:aB:=⟨3,27,.seq (.reg [oO 6 (.mv (.k (.c .nil))),oO 7 (.mv (kI 0))]) (.seq (.reg [oM 11 0,oM 12 1,oM 13 2,oO 14 (.call 70 [(.t 11),(.t 12),(.t 13)] none),oM 10 14,oO 15 (.extract (.t 10) 0),oO 16 (.extract (.t 10) 1),oM 8 15,oM 9 16]) (.seq (.seq (.reg [oM 17 9,oO 18 (.bin .neq (.t 17) (kI 0))]) (.cond (.t 18) (.seq (.reg [oM 19 9,oO 6 (.mv (.k (.c .nil))),oM 7 19]) (.ret)) (.skip))) (.seq (.reg [oM 20 8,oM 21 0,oM 22 8,oM 23 2,oO 24 (.call 61 [(.t 21),(.t 22),(.t 23)] none),oO 25 (.bldSl false 2 1 (.sl []) [(0,(.t 20)),(1,(.t 24))]),oO 26 (.call 30 [(.t 25)] (some (0,1))),oM 6 26,oO 7 (.mv (kI 0))]) (.ret)))),[(6,none),(7,none)]⟩
theorem OK:aA Try.prog { own:=[26],comp:=[],frz:=[],nils:=[] } Try.f52=some vE:=by kernel_rfl
theorem Q8 (G:aj) (key:List UInt8) (ad:List (List UInt8)) (b:List UInt8) (hk:key.length≤9223372036854775807) (hl:ad.length≤9223372036854775807) (hx:∀ x∈ad,x.length≤9223372036854775807) (hb:b.length≤9223372036854775807):ar Try.prog G 52 [.sl (key.map bD),dV ad,.sl (b.map bD)] (.tup [.c (.fr 1 ((lj key ad b).map bD)),.c (.d (.int .i64 (bP key ad b.length)))]):=by
  refine aF Try.func52 OK rfl rfl ?_;have hc:=Te G key ad b hk hl hx hb;by_cases he:bP key ad (b.length:Int)=0
  ·have hv:mP key ad b=bM key ad b:=if_pos he;have hv2:lj key ad b=bM key ad b++cS key (bM key ad b) b:=if_pos he;obtain⟨k1,k2,k3,k4⟩:=wn he;have hj:=dw G [bM key ad b,cS key (bM key ad b) b] (by simp) (by simp[jd,kR]; omega);have hf:[bM key ad b,cS key (bM key ad b) b].flatten=bM key ad b++cS key (bM key ad b) b:=by simp
   rw[hf] at hj;rw[he,hv] at hc;rw[he,hv2];simp only[vE,ah,ae,aa,seval,iteOmega,toNatUp];refine sD (hc) ?_;refine sD (Q6 G key (bM key ad b) b k1 (jd _ _ _) (by omega)) ?_;refine sD (hj) ?_;exact cv
  ·have hv:mP key ad b=[]:=if_neg he;have hv2:lj key ad b=[]:=if_neg he;rw[hv] at hc;rw[hv2];rcases vB key ad b.length with e | e | e | e
   ·exact absurd e he
   all_goals
     rw[e] at hc ⊢;simp only[vE,ah,ae,aa,seval,iteOmega,toNatUp];refine bE hc rfl (.inl rfl) ?_;simp only[ae,aa,seval,iteOmega,toNatUp];exact cv
theorem Q9 (G:aj) (key:List UInt8) (ad:List (List UInt8)) (b:List UInt8) (hk:key.length≤9223372036854775807) (hl:ad.length≤9223372036854775807) (hx:∀ x∈ad,x.length≤9223372036854775807) (hb:b.length≤9223372036854775807):ar Try.prog G 52 [.sl (key.map bD),dV ad,.sl (b.map bD)] (.tup [.c (.d (.sl ((lj key ad b).map bD))),.c (.d (.int .i64 (bP key ad b.length)))]):=qC (Q8 G key ad b hk hl hx hb)
theorem OL {key:List UInt8} {ad:List (List UInt8)} {s:List UInt8} (h:bP key ad ((s.length:Int)-16)≠0):eR key ad s=bP key ad ((s.length:Int)-16)∧fU key ad s=[]:=by
  have:eR key ad s=bP key ad ((s.length:Int)-16):=if_pos h;refine⟨this,?_⟩;unfold fU;rw[if_neg (by rw[this]; exact h)]
theorem K2 {key:List UInt8} {ad:List (List UInt8)} {s:List UInt8} (h:bP key ad ((s.length:Int)-16)=0) (hs:s.length<16):eR key ad s=1∧fU key ad s=[]:=by
  have:eR key ad s=1:=by unfold eR; rw[if_neg (by simp[h]),if_pos hs]
  refine⟨this,?_⟩;unfold fU;rw[if_neg (by rw[this]; decide)]
theorem GN {key:List UInt8} {ad:List (List UInt8)} {s:List UInt8} (h:bP key ad ((s.length:Int)-16)=0) (hs:¬ s.length<16) (ht:s.take 16=bM key ad (cS key (s.take 16) (s.drop 16))):eR key ad s=0∧fU key ad s=cS key (s.take 16) (s.drop 16):=by
  have:eR key ad s=0:=by unfold eR; rw[if_neg (by simp[h]),if_neg hs,if_pos ht]
  exact⟨this,if_pos this⟩
theorem MJ {key:List UInt8} {ad:List (List UInt8)} {s:List UInt8} (h:bP key ad ((s.length:Int)-16)=0) (hs:¬ s.length<16) (ht:s.take 16≠bM key ad (cS key (s.take 16) (s.drop 16))):eR key ad s=6∧fU key ad s=[]:=by
  have:eR key ad s=6:=by unfold eR; rw[if_neg (by simp[h]),if_neg hs,if_neg ht]
  refine⟨this,?_⟩;unfold fU;rw[if_neg (by rw[this]; decide)]
def nT:aB:=⟨3,38,.seq (.reg [oO 6 (.mv (.k (.c .nil))),oO 7 (.mv (kI 0))]) (.seq (.seq (.reg [oM 11 0,oM 12 1,oM 13 2,oO 14 (.len (.t 13)),oO 15 (.bin .sub (.t 14) (kI 16)),oO 16 (.call 60 [(.t 11),(.t 12),(.t 15)] none),oM 8 16]) (.seq (.reg [oM 17 8,oO 18 (.bin .neq (.t 17) (kI 0))]) (.cond (.t 18) (.seq (.reg [oM 19 8,oO 6 (.mv (.k (.c .nil))),oM 7 19]) (.ret)) (.skip)))) (.seq (.seq (.reg [oM 20 2,oO 21 (.len (.t 20)),oO 22 (.bin .lss (.t 21) (kI 16))]) (.cond (.t 22) (.seq (.reg [oO 6 (.mv (.k (.c .nil))),oO 7 (.mv (kI 1))]) (.ret)) (.skip))) (.seq (.reg [oM 23 2,oO 24 (.slice 1 (.t 23) none (some (kI 16)) none),oM 9 24]) (.seq (.reg [oM 25 0,oM 26 9,oM 27 2,oO 28 (.slice 1 (.t 27) (some (kI 16)) none none),oO 29 (.call 61 [(.t 25),(.t 26),(.t 28)] (some (0,1))),oM 10 29]) (.seq (.seq (.reg [oM 30 9,
 oM 31 0,oM 32 1,oM 33 10,oO 34 (.call 62 [(.t 31),(.t 32),(.t 33)] none),oO 35 (.call 46 [(.t 30),(.t 34)] none),oO 36 (.un .not (.t 35))]) (.cond (.t 36) (.seq (.reg [oO 6 (.mv (.k (.c .nil))),oO 7 (.mv (kI 6))]) (.ret)) (.skip))) (.seq (.reg [oM 37 10,oM 6 37,oO 7 (.mv (kI 0))]) (.ret))))))),[(6,none),(7,none)]⟩
theorem Ra:aA Try.prog { own:=[29],comp:=[],frz:=[],nils:=[] } Try.f40=some nT:=by kernel_rfl
theorem Tf (G:aj) (key:List UInt8) (ad:List (List UInt8)) (s:List UInt8) (hk:key.length≤9223372036854775807) (hl:ad.length≤9223372036854775807) (hx:∀ x∈ad,x.length≤9223372036854775807) (hb:s.length≤9223372036854775807):ar Try.prog G 40 [.sl (key.map bD),dV ad,.sl (s.map bD)] (.tup [.c (.fr 1 ((fU key ad s).map bD)),.c (.d (.int .i64 (eR key ad s)))]):=by
  refine aF Try.func40 Ra rfl rfl ?_;have hc:=H3 G key ad ((s.length:Int)-16) hk hl hx;by_cases he:bP key ad ((s.length:Int)-16)=0
  ·obtain⟨k1,k2,k3,k4⟩:=wn he;rw[he] at hc;by_cases hs:s.length<16
   ·obtain⟨e1,e2⟩:=K2 he hs;rw[e1,e2];simp only[nT,ah,ae,aa,seval,iteOmega,toNatUp];refine sD (hc) ?_;exact cv
   ·have ht:(s.take 16).length=16:=by rw[UI]; omega
    have hd:(s.drop 16).length=s.length-16:=UK;have hd2:(s.drop 16).take (s.length-16)=s.drop 16:=UG (by omega);have c1:=GM G key (s.take 16) (s.drop 16) k1 ht (by omega);have c2:=GK G key ad (cS key (s.take 16) (s.drop 16)) k1 k2 k3 (by rw[kR]; omega);have c3:=wm G (s.take 16) (bM key ad (cS key (s.take 16) (s.drop 16)));by_cases hq:s.take 16=bM key ad (cS key (s.take 16) (s.drop 16))
    ·obtain⟨e1,e2⟩:=GN he hs hq;have hb:(s.take 16==bM key ad (cS key (s.take 16) (s.drop 16)))=true:=beq_iff_eq.2 hq;rw[hb] at c3;rw[e1,e2];simp only[nT,ah,ae,aa,seval,iteOmega,toNatUp];refine sC (hc) ?_;simp only[hd2,ae,aa,seval,iteOmega,toNatUp];refine sD (c1) ?_;refine bE (c2) (by simp only[ae,aa,seval,iteOmega,toNatUp]) (.inr (lu _ _)) ?_;simp only[ae,aa,seval,iteOmega,toNatUp];refine sD (c3) ?_;exact cv
    ·obtain⟨e1,e2⟩:=MJ he hs hq;have hb:(s.take 16==bM key ad (cS key (s.take 16) (s.drop 16)))=false:=by simpa using hq
     rw[hb] at c3;rw[e1,e2];simp only[nT,ah,ae,aa,seval,iteOmega,toNatUp];refine sC (hc) ?_;simp only[hd2,ae,aa,seval,iteOmega,toNatUp];refine sD (c1) ?_;refine bE (c2) (by simp only[ae,aa,seval,iteOmega,toNatUp]) (.inr (lu _ _)) ?_;simp only[ae,aa,seval,iteOmega,toNatUp];refine sD (c3) ?_;exact cv
  ·obtain⟨e1,e2⟩:=OL he;rw[e1,e2];rcases vB key ad ((s.length:Int)-16) with e | e | e | e
   ·exact absurd e he
   all_goals
     rw[e] at hc ⊢;simp only[nT,ah,ae,aa,seval,iteOmega,toNatUp];refine bE hc rfl (.inl rfl) ?_;simp only[ae,aa,seval,iteOmega,toNatUp];exact cv
theorem Tg (G:aj) (key:List UInt8) (ad:List (List UInt8)) (s:List UInt8) (hk:key.length≤9223372036854775807) (hl:ad.length≤9223372036854775807) (hx:∀ x∈ad,x.length≤9223372036854775807) (hb:s.length≤9223372036854775807):ar Try.prog G 40 [.sl (key.map bD),dV ad,.sl (s.map bD)] (.tup [.c (.d (.sl ((fU key ad s).map bD))),.c (.d (.int .i64 (eR key ad s)))]):=qC (Tf G key ad s hk hl hx hb)
theorem MK {key:List UInt8} {ad:List (List UInt8)} {n:Int} (h:key.length=32) (h2:ad.length≤16) (h3:∀ x∈ad,x.length≤65519) (h4:n≤65519):bP key ad n=0:=by
  have:ir ad=false:=by
    unfold ir;rw[VW];intro x hx;have:=h3 x hx
    simpa using this
  unfold bP;rw[if_neg (by omega),if_neg (by omega),if_neg (by rw[this]; simp; omega)]
theorem yV (key tag b:List UInt8):cS key tag (cS key tag b)=b:=Jp _ _ _
theorem qh {key b:List UInt8} {ad:List (List UInt8)} (h:bP key ad b.length=0):lj key ad b=bM key ad b++cS key (bM key ad b) b:=if_pos h
theorem z4 {key b:List UInt8} {ad:List (List UInt8)} (T:List UInt8):(bM key ad b++T).take 16=bM key ad b:=by
  rw[VB (by rw[jd]; exact UJ _),UG (by rw[jd]; exact UJ _)]
theorem z5 {key b:List UInt8} {ad:List (List UInt8)} (T:List UInt8):(bM key ad b++T).drop 16=T:=by
  have:=List.drop_left (l₁:=bM key ad b) (l₂:=T);rw[jd] at this;exact this
theorem ML {key b:List UInt8} {ad:List (List UInt8)} (h:bP key ad b.length=0):eR key ad (bM key ad b++cS key (bM key ad b) b)=0∧fU key ad (bM key ad b++cS key (bM key ad b) b)=b:=by
  have hl:(bM key ad b++cS key (bM key ad b) b).length=16+b.length:=by rw[UF,jd,kR]
  have he:bP key ad (((bM key ad b++cS key (bM key ad b) b).length:Int)-16)=0:=by rw[hl,show ((16+b.length:Nat):Int)-16=(b.length:Int) by omega]; exact h
  obtain⟨e1,e2⟩:=GN he (by omega) (by rw[z4,z5,yV]);refine⟨e1,?_⟩;rw[e2,z4,z5,yV]
end Go.Proofs.Ytofonnokanoflaa
