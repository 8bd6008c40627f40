/- Texts of one's own, merged: from: Layer 6 on data: tags,sealed bytes,opened ones; both codes. Own work. -/
import Derived.Shelf.Abstract
import Derived.Test.YtbkhllchjbjhgaaDoorMg111
import Derived.Test.YtbkhllchjbjhgaaDoorMg110
import Derived.Test.YtbkhllchjbjhgaaDoorMg112
import Derived.Test.YtbkhllchjbjhgaaDoorMg17
set_option linter.unusedVariables false
set_option linter.unusedSimpArgs false
namespace Go.Proofs.YtbkhllchjbjhgaaDoor
open Go.RowKit IntWalk
set_option maxHeartbeats 1600000
def gI (tag:List UInt8):List UInt8:=(tag.set 8 (gY (tag.getD 8 0) 127)).set 12 (gY (tag.getD 12 0) 127)
theorem pi (tag:List UInt8):(gI tag).length=tag.length:=by unfold gI; rw[Lw,Lw]
def bp (key:List UInt8) (ad:List (List UInt8)) (b:List UInt8):List UInt8:=ft (au (key.take 16)) (ad++[b])
theorem gb (key:List UInt8) (ad:List (List UInt8)) (b:List UInt8):(bp key ad b).length=16:=FY _ _
def bY (key tag b:List UInt8):List UInt8:=dC (au (key.drop 16)) (gI tag) b
theorem iW (key tag b:List UInt8):(bY key tag b).length=b.length:=lq _ _ _
def fp (l:List (List UInt8)):Bool:=l.any fun x=>decide (65519<x.length)
def bA (key:List UInt8) (ad:List (List UInt8)) (n:Int):Int:=if key.length≠32 then 5 else if 16<ad.length then 8 else if fp ad=true∨65519<n then 2 else 0
def js (key:List UInt8) (ad:List (List UInt8)) (b:List UInt8):List UInt8:=if bA key ad b.length=0 then bp key ad b else []
def df (key:List UInt8) (ad:List (List UInt8)) (b:List UInt8):List UInt8:=if bA key ad b.length=0 then bp key ad b++bY key (bp key ad b) b else []
def dE (key:List UInt8) (ad:List (List UInt8)) (s:List UInt8):Int :=
  if bA key ad ((s.length:Int)-16)≠0 then bA key ad ((s.length:Int)-16) else if s.length<16 then 1 else if s.take 16=bp key ad (bY key (s.take 16) (s.drop 16)) then 0 else 6
def eJ (key:List UInt8) (ad:List (List UInt8)) (s:List UInt8):List UInt8:=if dE key ad s=0 then bY key (s.take 16) (s.drop 16) else []
theorem EC {l:List (List UInt8)} (h:fp l=false):∀ x∈l,x.length≤65519:=by
  unfold fp at h;rw[LN] at h;intro x hx
  simpa using h x hx
theorem qo {key:List UInt8} {ad:List (List UInt8)} {n:Int} (h:bA key ad n=0):key.length=32∧ad.length≤16∧fp ad=false∧n≤65519:=by
  unfold bA at h;split at h
  ·cases h
  ·split at h
   ·cases h
   ·split at h
    ·cases h
    ·rename_i h1 h2 h3;cases hl:fp ad
     ·exact⟨by omega,by omega,rfl,by omega⟩
     ·exact absurd (.inl hl) h3
theorem pS (key:List UInt8) (ad:List (List UInt8)) (n:Int):bA key ad n=0∨bA key ad n=5∨bA key ad n=8∨bA key ad n=2:=by
  unfold bA;split
  ·exact .inr (.inl rfl)
  ·split
   ·exact .inr (.inr (.inl rfl))
   ·split
    ·exact .inr (.inr (.inr rfl))
    ·exact .inl rfl
theorem HN {k:List UInt8} {l:List (List UInt8)} (h:k.length=16) (hn:l.length≤17) (hl:∀ x∈l,x.length≤65535):rt k l=ft (au k) l∧nq k l=0:=by
  have:fK l=false:=by
    unfold fK;rw[LN];intro x hx;have:=hl x hx
    simpa using this
  refine⟨if_pos ⟨h,hn,this⟩,?_⟩;unfold nq;rw[if_neg (by omega),if_neg (by omega),this,if_neg (by simp)]
theorem ED {k c b:List UInt8} (h:k.length=16) (hc:c.length=16) (hb:b.length≤65535):mS k c b=dC (au k) c b∧fL k c b=0:=by
  refine⟨if_pos ⟨h,hc,hb⟩,?_⟩;unfold fL;rw[if_neg (by omega),if_neg (by omega),if_neg (by omega)]
theorem AJ {ad:List (List UInt8)} {b:List UInt8} (h:fp ad=false) (hb:b.length≤65519):∀ x∈ad++[b],x.length≤65535:=by
  intro x hx;rcases La.1 hx with hx | hx
  ·have:=EC h x hx; omega
  ·simp only[K1] at hx; subst hx; omega
def pT:aB:=⟨1,6,.seq (.reg [oO 2 (.mv (.k (.c (.d (.bool false)))))]) (.seq (.reg [oM 3 0,oO 4 (.len (.t 3)),oO 5 (.bin .gtr (.t 4) (kI 65519)),oM 2 5]) (.ret)),[(2,none)]⟩
theorem HO:aA Tryd.prog { own:=[],comp:=[],frz:=[],nils:=[] } Tryd.f60=some pT:=by kernel_rfl
theorem Jk (G:ak) (x:List UInt8) (hx:x.length≤9223372036854775807):kC Tryd.prog G 60 [] [.sl (x.map bD)] (.w (.c (.d (.bool (decide (65519<x.length)))))):=by
  refine⟨enters_of Tryd.func60 (by kernel_rfl) rfl,?_⟩;refine aC Tryd.func60 HO rfl rfl ?_;by_cases h:65519<x.length
  ·have hd:decide (65519<x.length)=true:=decide_eq_true h;rw[hd];simp only[pT,ah,ae,aa,seval,iteOmega,toNatUp];exact a7
  ·have hd:decide (65519<x.length)=false:=decide_eq_false h;rw[hd];simp only[pT,ah,ae,aa,seval,iteOmega,toNatUp];exact a7
def ja:aB:=⟨3,21,.seq (.reg [oO 6 (.mv (kI 0))]) (.seq (.seq (.reg [oM 8 0,oO 9 (.len (.t 8)),oO 10 (.bin .neq (.t 9) (kI 32))]) (.cond (.t 10) (.seq (.reg [oO 6 (.mv (kI 5))]) (.ret)) (.skip))) (.seq (.seq (.reg [oM 11 1,oO 12 (.len (.t 11)),oO 13 (.bin .gtr (.t 12) (kI 16))]) (.cond (.t 13) (.seq (.reg [oO 6 (.mv (kI 8))]) (.ret)) (.skip))) (.seq (.reg [oO 7 (.mv (.k (.c (.d (.fn 60 [])))))]) (.seq (.seq (.reg [oM 14 1,oM 15 7,oO 16 (.call 61 [(.t 14),(.t 15)] none),oM 17 16,oG 18 (.mv (.t 2)) 17 false,oG 19 (.bin .gtr (.t 18) (kI 65519)) 17 false,oO 20 (.pick (.t 17) (.k (.c (.d (.bool true)))) (.t 19))]) (.cond (.t 20) (.seq (.reg [oO 6 (.mv (kI 2))]) (.ret)) (.skip))) (.seq (.reg [oO 6 (.mv (kI 0))]) (.ret)))))),[(6,none)]⟩
theorem Jl:aA Tryd.prog { own:=[],comp:=[],frz:=[],nils:=[] } Tryd.f48=some ja:=by kernel_rfl
theorem BK (G:ak) (key:List UInt8) (ad:List (List UInt8)) (n:Int) (hk:key.length≤9223372036854775807) (hl:ad.length≤9223372036854775807) (hb:∀ x∈ad,x.length≤9223372036854775807):ap Tryd.prog G 48 [.sl (key.map bD),cR ad,.int .i64 n] (.w (.c (.d (.int .i64 (bA key ad n))))):=by
  refine aC Tryd.func48 Jl rfl rfl ?_;have hc:=IK G ad 60 [] (fun x=>decide (65519<x.length)) hl (fun x hx=>Jk G x (hb x hx));have hL:(ad.any fun x=>decide (65519<x.length))=fp ad:=rfl;rw[hL] at hc;unfold bA;by_cases h:key.length=32
  ·rw[if_neg (by omega)];by_cases h2:16<ad.length
   ·rw[if_pos h2];simp only[ja,ah,ae,aa,seval,iteOmega,toNatUp];exact a7
   ·rw[if_neg h2];cases hl:fp ad
    ·rw[hl] at hc;by_cases h3:65519<n
     ·rw[if_pos (.inr h3)];simp only[ja,ah,ae,aa,seval,iteOmega,toNatUp];refine sD (hc) ?_;exact a7
     ·rw[if_neg (by simp; omega)];simp only[ja,ah,ae,aa,seval,iteOmega,toNatUp];refine sD (hc) ?_;exact a7
    ·rw[hl] at hc;rw[if_pos (.inl rfl)];simp only[ja,ah,ae,aa,seval,iteOmega,toNatUp];refine sD (hc) ?_;exact a7
  ·rw[if_pos h];simp only[ja,ah,ae,aa,seval,iteOmega,toNatUp];exact a7
def yV:aB:=⟨3,23,.seq (.reg [oO 6 (.mv (.k (.c .nil)))]) (.seq (.reg [oM 10 1,oM 11 2,oO 12 (.bldSl false 1 1 (.sl []) [(0,(.t 11))]),oO 13 (.bldSl false 2 1 (.sl []) [(0,(.t 10)),(1,(.t 12))]),oO 14 (.call 62 [(.t 13)] none),oM 7 14]) (.seq (.reg [oM 16 0,oO 17 (.slice 1 (.t 16) none (some (kI 16)) none),oM 18 7,oO 19 (.call 63 [(.t 17),(.t 18)] (some (0,1))),oM 15 19,oO 20 (.extract (.t 15) 0),oO 21 (.extract (.t 15) 1),oM 8 20,oM 9 21]) (.seq (.reg [oM 22 8,oM 6 22]) (.ret)))),[(6,none)]⟩
theorem HP:aA Tryd.prog { own:=[],comp:=[(19,0)],frz:=[],nils:=[] } Tryd.f49=some yV:=by kernel_rfl
theorem AK (G:ak) (key:List UInt8) (ad:List (List UInt8)) (b:List UInt8) (h:key.length=32) (hn:ad.length≤16) (hl:fp ad=false) (hb:b.length≤65519):ap Tryd.prog G 49 [.sl (key.map bD),cR ad,.sl (b.map bD)] (.w (.c (.fr 1 ((bp key ad b).map bD)))):=by
  refine aC Tryd.func49 HP rfl rfl ?_;have hf:[ad,[b]].flatten=ad++[b]:=by simp
  have hc:=IM G [ad,[b]] (by simp) (by rw[hf]; simp; omega);rw[hf] at hc;have hk:(key.take 16).length=16:=by rw[KL]; omega
  obtain⟨v1,v2⟩:=HN (l:=ad++[b]) hk (by simp; omega) (AJ hl hb);have hv:=Jf G (key.take 16) (ad++[b]) (by omega) (by simp; omega) (fun x hx=>Lh (AJ hl hb x hx) (by decide));rw[v1,v2] at hv;have ht:ft (au (key.take 16)) (ad++[b])=bp key ad b:=rfl;rw[ht] at hv;simp only[yV,ah,ae,aa,seval,iteOmega,toNatUp];refine sD (hc) ?_;refine sD (hv) ?_;exact cQ
theorem pU {tag:List UInt8} (h:tag.length=16) {i:Nat} (hi:i<16):tag[i]?=some (tag.getD i 0):=by
  rw[KS,KH (by omega)]; rfl
theorem HQ {tag:List UInt8} (h:tag.length=16) (x:UInt8):(tag.set 8 x)[12]?=some (tag.getD 12 0):=by
  rw[List.getElem?_set_ne (by decide),pU h (by decide)]
def AL:aB:=⟨1,18,.seq (.reg [oO 2 (.mv (.k (.c .nil)))]) (.seq (.reg [oM 4 0,oO 5 (.bldSl false 1 1 (.sl []) [(0,(.t 4))]),oO 6 (.call 24 [(.t 5)] (some (0,1))),oM 3 6]) (.seq (.reg [oM 7 3,oO 8 (.idxSl 1 (.t 7) (kI 8)),oO 9 (.load .sc (.t 8)),oO 10 (.bin .and (.t 9) (.k (.c (.d (.int .u8 127))))),oO 11 (.idxSl 1 (.t 7) (kI 8)),oN (.store .sc (.t 11) (.t 10))]) (.seq (.reg [oM 12 3,oO 13 (.idxSl 1 (.t 12) (kI 12)),oO 14 (.load .sc (.t 13)),oO 15 (.bin .and (.t 14) (.k (.c (.d (.int .u8 127))))),oO 16 (.idxSl 1 (.t 12) (kI 12)),oN (.store .sc (.t 16) (.t 15))]) (.seq (.reg [oM 17 3,oM 2 17]) (.ret))))),[(2,none)]⟩
theorem Jm:aA Tryd.prog { own:=[6],comp:=[],frz:=[],nils:=[] } Tryd.f59=some AL:=by kernel_rfl
theorem Kb (G:ak) (tag:List UInt8) (h:tag.length=16):ap Tryd.prog G 59 [.sl (tag.map bD)] (.w (.c (.fr 1 ((gI tag).map bD)))):=by
  refine aC Tryd.func59 Jm rfl rfl ?_;have hj:=de G [tag] (by simp) (by simp; omega);have hf:[tag].flatten=tag:=by simp
  rw[hf] at hj;have g1:=pU h (i:=8) (by decide);have g2:=pU h (i:=12) (by decide);have g3:=HQ h (gY (tag.getD 8 0) 127);have x1:=Ai (tag.getD 8 0) 127 127 rfl;have x2:=Ai (tag.getD 12 0) 127 127 rfl;have hs:(tag.set 8 (gY (tag.getD 8 0) 127)).set 12 (gY (tag.getD 12 0) 127)=gI tag:=rfl;simp only[AL,ah,ae,aa,seval,iteOmega,toNatUp];refine sC (hj) ?_;simp only[bm,g1,g2,g3,x1,x2,pC,hs,ae,aa,seval,iteOmega,toNatUp];exact Ah (by simp only[ae,aa,seval,iteOmega,toNatUp,pi])
theorem Kc (G:ak) (tag:List UInt8) (h:tag.length=16):ap Tryd.prog G 59 [.sl (tag.map bD)] (.w (.c (.d (.sl ((gI tag).map bD))))):=io (Kb G tag h)
def yW:aB:=⟨3,19,.seq (.reg [oO 6 (.mv (.k (.c .nil)))]) (.seq (.reg [oM 10 0,oO 11 (.slice 1 (.t 10) (some (kI 16)) none none),oM 12 1,oO 13 (.call 59 [(.t 12)] none),oM 14 2,oO 15 (.call 58 [(.t 11),(.t 13),(.t 14)] (some (0,1))),oM 9 15,oO 16 (.extract (.t 9) 0),oO 17 (.extract (.t 9) 1),oM 7 16,oM 8 17]) (.seq (.reg [oM 18 7,oM 6 18]) (.ret))),[(6,none)]⟩
theorem HR:aA Tryd.prog { own:=[],comp:=[(15,0)],frz:=[],nils:=[] } Tryd.f46=some yW:=by kernel_rfl
theorem AM (G:ak) (key tag b:List UInt8) (h:key.length=32) (ht:tag.length=16) (hb:b.length≤65535):ap Tryd.prog G 46 [.sl (key.map bD),.sl (tag.map bD),.sl (b.map bD)] (.w (.c (.fr 1 ((bY key tag b).map bD)))):=by
  refine aC Tryd.func46 HR rfl rfl ?_;have hk:(key.drop 16).length=16:=by rw[KP]; omega
  have hk2:(key.drop 16).take 16=key.drop 16:=KM (by omega);obtain⟨v1,v2⟩:=ED (c:=gI tag) (b:=b) hk (by rw[pi]; exact ht) hb;have hv:=J9 G (key.drop 16) (gI tag) b (by omega) (by rw[pi]; omega) (by omega);rw[v1,v2] at hv;have hs:dC (au (key.drop 16)) (gI tag) b=bY key tag b:=rfl;rw[hs] at hv;simp only[yW,ah,ae,aa,seval,iteOmega,toNatUp,h];refine sC (Kc G tag ht) ?_;simp only[hk2,ae,aa,seval,iteOmega,toNatUp];refine sD (hv) ?_;exact cQ
theorem Jn (G:ak) (key tag b:List UInt8) (h:key.length=32) (ht:tag.length=16) (hb:b.length≤65535):ap Tryd.prog G 46 [.sl (key.map bD),.sl (tag.map bD),.sl (b.map bD)] (.w (.c (.d (.sl ((bY key tag b).map bD))))):=io (AM G key tag b h ht hb)
def qp:aB:=⟨3,21,.seq (.reg [oO 6 (.mv (.k (.c .nil))),oO 7 (.mv (kI 0))]) (.seq (.seq (.reg [oM 9 0,oM 10 1,oM 11 2,oO 12 (.len (.t 11)),oO 13 (.call 48 [(.t 9),(.t 10),(.t 12)] none),oM 8 13]) (.seq (.reg [oM 14 8,oO 15 (.bin .neq (.t 14) (kI 0))]) (.cond (.t 15) (.seq (.reg [oM 16 8,oO 6 (.mv (.k (.c .nil))),oM 7 16]) (.ret)) (.skip)))) (.seq (.reg [oM 17 0,oM 18 1,oM 19 2,oO 20 (.call 49 [(.t 17),(.t 18),(.t 19)] (some (0,1))),oM 6 20,oO 7 (.mv (kI 0))]) (.ret))),[(6,none),(7,none)]⟩
theorem Jo:aA Tryd.prog { own:=[20],comp:=[],frz:=[],nils:=[] } Tryd.f45=some qp:=by kernel_rfl
theorem Ke (G:ak) (key:List UInt8) (ad:List (List UInt8)) (b:List UInt8) (hk:key.length≤9223372036854775807) (hl:ad.length≤9223372036854775807) (hx:∀ x∈ad,x.length≤9223372036854775807) (hb:b.length≤9223372036854775807):ap Tryd.prog G 45 [.sl (key.map bD),cR ad,.sl (b.map bD)] (.tup [.c (.fr 1 ((js key ad b).map bD)),.c (.d (.int .i64 (bA key ad b.length)))]):=by
  refine aC Tryd.func45 Jo rfl rfl ?_;have hc:=BK G key ad (b.length:Int) hk hl hx;by_cases he:bA key ad (b.length:Int)=0
  ·have hv:js key ad b=bp key ad b:=if_pos he;obtain⟨k1,k2,k3,k4⟩:=qo he;rw[he] at hc ⊢;rw[hv];simp only[qp,ah,ae,aa,seval,iteOmega,toNatUp];refine sD (hc) ?_;refine sD (AK G key ad b k1 k2 k3 (by omega)) ?_;exact dH
  ·have hv:js key ad b=[]:=if_neg he;rw[hv];have hne:bA key ad (b.length:Int)=0↔False:=⟨he,False.elim⟩
   rcases pS key ad b.length with e | e | e | e
   ·exact absurd e he
   all_goals
     rw[e] at hc ⊢;simp only[qp,ah,ae,aa,seval,iteOmega,toNatUp];refine aI hc rfl (.inl rfl) ?_;simp only[ae,aa,seval,iteOmega,toNatUp];exact dH
theorem Kf (G:ak) (key:List UInt8) (ad:List (List UInt8)) (b:List UInt8) (hk:key.length≤9223372036854775807) (hl:ad.length≤9223372036854775807) (hx:∀ x∈ad,x.length≤9223372036854775807) (hb:b.length≤9223372036854775807):ap Tryd.prog G 45 [.sl (key.map bD),cR ad,.sl (b.map bD)] (.tup [.c (.d (.sl ((js key ad b).map bD))),.c (.d (.int .i64 (bA key ad b.length)))]):=pB (Ke G key ad b hk hl hx hb)
def pV:aB:=⟨3,27,.seq (.reg [oO 6 (.mv (.k (.c .nil))),oO 7 (.mv (kI 0))]) (.seq (.reg [oM 11 0,oM 12 1,oM 13 2,oO 14 (.call 45 [(.t 11),(.t 12),(.t 13)] none),oM 10 14,oO 15 (.extract (.t 10) 0),oO 16 (.extract (.t 10) 1),oM 8 15,oM 9 16]) (.seq (.seq (.reg [oM 17 9,oO 18 (.bin .neq (.t 17) (kI 0))]) (.cond (.t 18) (.seq (.reg [oM 19 9,oO 6 (.mv (.k (.c .nil))),oM 7 19]) (.ret)) (.skip))) (.seq (.reg [oM 20 8,oM 21 0,oM 22 8,oM 23 2,oO 24 (.call 46 [(.t 21),(.t 22),(.t 23)] none),oO 25 (.bldSl false 2 1 (.sl []) [(0,(.t 20)),(1,(.t 24))]),oO 26 (.call 24 [(.t 25)] (some (0,1))),oM 6 26,oO 7 (.mv (kI 0))]) (.ret)))),[(6,none),(7,none)]⟩
theorem HS:aA Tryd.prog { own:=[26],comp:=[],frz:=[],nils:=[] } Tryd.f26=some pV:=by kernel_rfl
theorem Jp (G:ak) (key:List UInt8) (ad:List (List UInt8)) (b:List UInt8) (hk:key.length≤9223372036854775807) (hl:ad.length≤9223372036854775807) (hx:∀ x∈ad,x.length≤9223372036854775807) (hb:b.length≤9223372036854775807):ap Tryd.prog G 26 [.sl (key.map bD),cR ad,.sl (b.map bD)] (.tup [.c (.fr 1 ((df key ad b).map bD)),.c (.d (.int .i64 (bA key ad b.length)))]):=by
  refine aC Tryd.func26 HS rfl rfl ?_;have hc:=Kf G key ad b hk hl hx hb;by_cases he:bA key ad (b.length:Int)=0
  ·have hv:js key ad b=bp key ad b:=if_pos he;have hv2:df key ad b=bp key ad b++bY key (bp key ad b) b:=if_pos he;obtain⟨k1,k2,k3,k4⟩:=qo he;have hj:=de G [bp key ad b,bY key (bp key ad b) b] (by simp) (by simp[gb,iW]; omega);have hf:[bp key ad b,bY key (bp key ad b) b].flatten=bp key ad b++bY key (bp key ad b) b:=by simp
   rw[hf] at hj;rw[he,hv] at hc;rw[he,hv2];simp only[pV,ah,ae,aa,seval,iteOmega,toNatUp];refine sD (hc) ?_;refine sD (Jn G key (bp key ad b) b k1 (gb _ _ _) (by omega)) ?_;refine sD (hj) ?_;exact dH
  ·have hv:js key ad b=[]:=if_neg he;have hv2:df key ad b=[]:=if_neg he;rw[hv] at hc;rw[hv2];rcases pS key ad b.length with e | e | e | e
   ·exact absurd e he
   all_goals
     rw[e] at hc ⊢;simp only[pV,ah,ae,aa,seval,iteOmega,toNatUp];refine aI hc rfl (.inl rfl) ?_;simp only[ae,aa,seval,iteOmega,toNatUp];exact dH
theorem Jq (G:ak) (key:List UInt8) (ad:List (List UInt8)) (b:List UInt8) (hk:key.length≤9223372036854775807) (hl:ad.length≤9223372036854775807) (hx:∀ x∈ad,x.length≤9223372036854775807) (hb:b.length≤9223372036854775807):ap Tryd.prog G 26 [.sl (key.map bD),cR ad,.sl (b.map bD)] (.tup [.c (.d (.sl ((df key ad b).map bD))),.c (.d (.int .i64 (bA key ad b.length)))]):=pB (Jp G key ad b hk hl hx hb)
theorem HT {key:List UInt8} {ad:List (List UInt8)} {s:List UInt8} (h:bA key ad ((s.length:Int)-16)≠0):dE key ad s=bA key ad ((s.length:Int)-16)∧eJ key ad s=[]:=by
  have:dE key ad s=bA key ad ((s.length:Int)-16):=if_pos h;refine⟨this,?_⟩;unfold eJ;rw[if_neg (by rw[this]; exact h)]
theorem EE {key:List UInt8} {ad:List (List UInt8)} {s:List UInt8} (h:bA key ad ((s.length:Int)-16)=0) (hs:s.length<16):dE key ad s=1∧eJ key ad s=[]:=by
  have:dE key ad s=1:=by unfold dE; rw[if_neg (by simp[h]),if_pos hs]
  refine⟨this,?_⟩;unfold eJ;rw[if_neg (by rw[this]; decide)]
theorem AO {key:List UInt8} {ad:List (List UInt8)} {s:List UInt8} (h:bA key ad ((s.length:Int)-16)=0) (hs:¬ s.length<16) (ht:s.take 16=bp key ad (bY key (s.take 16) (s.drop 16))):dE key ad s=0∧eJ key ad s=bY key (s.take 16) (s.drop 16):=by
  have:dE key ad s=0:=by unfold dE; rw[if_neg (by simp[h]),if_neg hs,if_pos ht]
  exact⟨this,if_pos this⟩
theorem Gi {key:List UInt8} {ad:List (List UInt8)} {s:List UInt8} (h:bA key ad ((s.length:Int)-16)=0) (hs:¬ s.length<16) (ht:s.take 16≠bp key ad (bY key (s.take 16) (s.drop 16))):dE key ad s=6∧eJ key ad s=[]:=by
  have:dE key ad s=6:=by unfold dE; rw[if_neg (by simp[h]),if_neg hs,if_neg ht]
  refine⟨this,?_⟩;unfold eJ;rw[if_neg (by rw[this]; decide)]
def kf:aB:=⟨3,38,.seq (.reg [oO 6 (.mv (.k (.c .nil))),oO 7 (.mv (kI 0))]) (.seq (.seq (.reg [oM 11 0,oM 12 1,oM 13 2,oO 14 (.len (.t 13)),oO 15 (.bin .sub (.t 14) (kI 16)),oO 16 (.call 48 [(.t 11),(.t 12),(.t 15)] none),oM 8 16]) (.seq (.reg [oM 17 8,oO 18 (.bin .neq (.t 17) (kI 0))]) (.cond (.t 18) (.seq (.reg [oM 19 8,oO 6 (.mv (.k (.c .nil))),oM 7 19]) (.ret)) (.skip)))) (.seq (.seq (.reg [oM 20 2,oO 21 (.len (.t 20)),oO 22 (.bin .lss (.t 21) (kI 16))]) (.cond (.t 22) (.seq (.reg [oO 6 (.mv (.k (.c .nil))),oO 7 (.mv (kI 1))]) (.ret)) (.skip))) (.seq (.reg [oM 23 2,oO 24 (.slice 1 (.t 23) none (some (kI 16)) none),oM 9 24]) (.seq (.reg [oM 25 0,oM 26 9,oM 27 2,oO 28 (.slice 1 (.t 27) (some (kI 16)) none none),oO 29 (.call 46 [(.t 25),(.t 26),(.t 28)] (some (0,1))),oM 10 29]) (.seq (.seq (.reg [oM 30 9,
 oM 31 0,oM 32 1,oM 33 10,oO 34 (.call 49 [(.t 31),(.t 32),(.t 33)] none),oO 35 (.call 34 [(.t 30),(.t 34)] none),oO 36 (.un .not (.t 35))]) (.cond (.t 36) (.seq (.reg [oO 6 (.mv (.k (.c .nil))),oO 7 (.mv (kI 6))]) (.ret)) (.skip))) (.seq (.reg [oM 37 10,oM 6 37,oO 7 (.mv (kI 0))]) (.ret))))))),[(6,none),(7,none)]⟩
theorem Jr:aA Tryd.prog { own:=[29],comp:=[],frz:=[],nils:=[] } Tryd.f30=some kf:=by kernel_rfl
theorem Kg (G:ak) (key:List UInt8) (ad:List (List UInt8)) (s:List UInt8) (hk:key.length≤9223372036854775807) (hl:ad.length≤9223372036854775807) (hx:∀ x∈ad,x.length≤9223372036854775807) (hb:s.length≤9223372036854775807):ap Tryd.prog G 30 [.sl (key.map bD),cR ad,.sl (s.map bD)] (.tup [.c (.fr 1 ((eJ key ad s).map bD)),.c (.d (.int .i64 (dE key ad s)))]):=by
  refine aC Tryd.func30 Jr rfl rfl ?_;have hc:=BK G key ad ((s.length:Int)-16) hk hl hx;by_cases he:bA key ad ((s.length:Int)-16)=0
  ·obtain⟨k1,k2,k3,k4⟩:=qo he;rw[he] at hc;by_cases hs:s.length<16
   ·obtain⟨e1,e2⟩:=EE he hs;rw[e1,e2];simp only[kf,ah,ae,aa,seval,iteOmega,toNatUp];refine sD (hc) ?_;exact dH
   ·have ht:(s.take 16).length=16:=by rw[KL]; omega
    have hd:(s.drop 16).length=s.length-16:=KP;have hd2:(s.drop 16).take (s.length-16)=s.drop 16:=KM (by omega);have c1:=AM G key (s.take 16) (s.drop 16) k1 ht (by omega);have c2:=AK G key ad (bY key (s.take 16) (s.drop 16)) k1 k2 k3 (by rw[iW]; omega);have c3:=qn G (s.take 16) (bp key ad (bY key (s.take 16) (s.drop 16)));by_cases hq:s.take 16=bp key ad (bY key (s.take 16) (s.drop 16))
    ·obtain⟨e1,e2⟩:=AO he hs hq;have hb:(s.take 16==bp key ad (bY key (s.take 16) (s.drop 16)))=true:=beq_iff_eq.2 hq;rw[hb] at c3;rw[e1,e2];simp only[kf,ah,ae,aa,seval,iteOmega,toNatUp];refine sC (hc) ?_;simp only[hd2,ae,aa,seval,iteOmega,toNatUp];refine sD (c1) ?_;refine aI (c2) (by simp only[ae,aa,seval,iteOmega,toNatUp]) (.inr (jp _ _)) ?_;simp only[ae,aa,seval,iteOmega,toNatUp];refine sD (c3) ?_;exact dH
    ·obtain⟨e1,e2⟩:=Gi he hs hq;have hb:(s.take 16==bp key ad (bY key (s.take 16) (s.drop 16)))=false:=by simpa using hq
     rw[hb] at c3;rw[e1,e2];simp only[kf,ah,ae,aa,seval,iteOmega,toNatUp];refine sC (hc) ?_;simp only[hd2,ae,aa,seval,iteOmega,toNatUp];refine sD (c1) ?_;refine aI (c2) (by simp only[ae,aa,seval,iteOmega,toNatUp]) (.inr (jp _ _)) ?_;simp only[ae,aa,seval,iteOmega,toNatUp];refine sD (c3) ?_;exact dH
  ·obtain⟨e1,e2⟩:=HT he;rw[e1,e2];rcases pS key ad ((s.length:Int)-16) with e | e | e | e
   ·exact absurd e he
   all_goals
     rw[e] at hc ⊢;simp only[kf,ah,ae,aa,seval,iteOmega,toNatUp];refine aI hc rfl (.inl rfl) ?_;simp only[ae,aa,seval,iteOmega,toNatUp];exact dH
theorem Kh (G:ak) (key:List UInt8) (ad:List (List UInt8)) (s:List UInt8) (hk:key.length≤9223372036854775807) (hl:ad.length≤9223372036854775807) (hx:∀ x∈ad,x.length≤9223372036854775807) (hb:s.length≤9223372036854775807):ap Tryd.prog G 30 [.sl (key.map bD),cR ad,.sl (s.map bD)] (.tup [.c (.d (.sl ((eJ key ad s).map bD))),.c (.d (.int .i64 (dE key ad s)))]):=pB (Kg G key ad s hk hl hx hb)
theorem Gj {key:List UInt8} {ad:List (List UInt8)} {n:Int} (h:key.length=32) (h2:ad.length≤16) (h3:∀ x∈ad,x.length≤65519) (h4:n≤65519):bA key ad n=0:=by
  have:fp ad=false:=by
    unfold fp;rw[LN];intro x hx;have:=h3 x hx
    simpa using this
  unfold bA;rw[if_neg (by omega),if_neg (by omega),if_neg (by rw[this]; simp; omega)]
theorem sR (key tag b:List UInt8):bY key tag (bY key tag b)=b:=CX _ _ _
theorem pj {key b:List UInt8} {ad:List (List UInt8)} (h:bA key ad b.length=0):df key ad b=bp key ad b++bY key (bp key ad b) b:=if_pos h
theorem ug {key b:List UInt8} {ad:List (List UInt8)} (T:List UInt8):(bp key ad b++T).take 16=bp key ad b:=by
  rw[List.take_append_of_le_length (by rw[gb]; exact KT _),KM (by rw[gb]; exact KT _)]
theorem uh {key b:List UInt8} {ad:List (List UInt8)} (T:List UInt8):(bp key ad b++T).drop 16=T:=by
  have:=List.drop_left (l₁:=bp key ad b) (l₂:=T);rw[gb] at this;exact this
theorem Gk {key b:List UInt8} {ad:List (List UInt8)} (h:bA key ad b.length=0):dE key ad (bp key ad b++bY key (bp key ad b) b)=0∧eJ key ad (bp key ad b++bY key (bp key ad b) b)=b:=by
  have hl:(bp key ad b++bY key (bp key ad b) b).length=16+b.length:=by rw[KJ,gb,iW]
  have he:bA key ad (((bp key ad b++bY key (bp key ad b) b).length:Int)-16)=0:=by rw[hl,show ((16+b.length:Nat):Int)-16=(b.length:Int) by omega]; exact h
  obtain⟨e1,e2⟩:=AO he (by omega) (by rw[ug,uh,sR]);refine⟨e1,?_⟩;rw[e2,ug,uh,sR]
def kx:List UInt8:=[115,101,99,116,105,109,101,32,117,112]
def ky:List UInt8:=[115,101,99,116,105,109,101,32,100,111,119,110]
def ej:List UInt8:=[115,101,99,116,105,109,101,32,101,120,112,111,114,116]
structure Ch where
  cl:Bool
  se:List UInt8
  sk:List UInt8
  rk:List UInt8
  n:Int
  m:Int
def a4 (c:Ch):D:=.agg [.bool c.cl,.sl (c.se.map bD),.sl (c.sk.map bD),.sl (c.rk.map bD),.int .i64 c.n,.int .i64 c.m]
def cx (K:List UInt8):List UInt8:=cH K kx 32
def cI (K:List UInt8):List UInt8:=cH K ky 32
theorem H9 (K:List UInt8):(cx K).length=32:=pm _ _ _
theorem Ia (K:List UInt8):(cI K).length=32:=pm _ _ _
def aJ (cl:Bool) (K:List UInt8) (n m:Int):Ch:=⟨cl,K,bif cl then cx K else cI K,bif cl then cI K else cx K,n,m⟩
def bL:Ch:=⟨false,[],[],[],0,0⟩
def dJ (c:Ch):Prop:=c.se.length=32∧(0≤c.n∧c.n≤1099511627776)∧(0≤c.m∧c.m≤1099511627776)∧c.sk=(bif c.cl then cx c.se else cI c.se)∧c.rk=(bif c.cl then cI c.se else cx c.se)
instance (c:Ch):Decidable (dJ c):=by unfold dJ; exact inferInstance
theorem qw (cl:Bool) (K:List UInt8):(bif cl then cx K else cI K).length=32:=by
  cases cl
  ·rw[cond_false]; exact Ia K
  ·rw[cond_true]; exact H9 K
theorem JE (cl:Bool) (K:List UInt8) (m n:Int):(aJ (!cl) K m n).rk=(bif cl then cx K else cI K):=by
  show (bif !cl then cI K else cx K)=_
  cases cl
  ·rw[Bool.not_false,cond_true,cond_false]
  ·rw[Bool.not_true,cond_false,cond_true]
theorem qV {c:Ch} (h:dJ c):c.sk.length=32:=by
  obtain⟨_,_,_,e,_⟩:=h;rw[e];exact qw _ _
theorem qW {c:Ch} (h:dJ c):c.rk.length=32:=by
  obtain⟨_,_,_,_,e⟩:=h;rw[e];have:=qw (!c.cl) c.se;cases hc:c.cl
  ·rw[hc,Bool.not_false,cond_true] at this;rw[cond_false]; exact this
  ·rw[hc,Bool.not_true,cond_false] at this;rw[cond_true]; exact this
def fy (s:List UInt8):Int:=if s.length<16∨65535<s.length then 5 else 0
def fa (cl:Bool) (s h:List UInt8):Ch:=if fy s=0 then aJ cl (bH (aZ h) s) 0 0 else bL
def bf (k:Int) (n:Nat):List UInt8:=UInt8.ofNat k.toNat::aN (n+16) 2
theorem il (k:Int) (n:Nat):(bf k n).length=3:=rfl
def bT (n:Int) (h:List UInt8):List (List UInt8):=[aN n.toNat 8,h]
def dr (c:Ch) (k:Int) (b:List UInt8):Int:=if ¬ dJ c then 3 else if k<0∨255<k then 4 else if 16384<b.length then 2 else if c.n=1099511627776 then 7 else 0
def ny (c:Ch) (k:Int) (b:List UInt8):Ch:=if dr c k b=0 then ⟨c.cl,c.se,c.sk,c.rk,c.n+1,c.m⟩ else bL
def nz (c:Ch) (k:Int) (b:List UInt8):List UInt8:=if dr c k b=0 then bf k b.length++df c.sk (bT c.n (bf k b.length)) b else []
def iL (c:Ch) (r:List UInt8):Int:=dE c.rk (bT c.m (r.take 3)) (r.drop 3)
def d9 (r:List UInt8):Int:=if r.length<3 then 1 else if r.length-3<aV (ct r 1 2) then 1 else if aV (ct r 1 2)<r.length-3∨16400<aV (ct r 1 2) then 2 else 0
def dt (c:Ch) (r:List UInt8):Int:=if ¬ dJ c then 3 else if ¬ d9 r=0 then d9 r else if c.m=1099511627776 then 7 else if iL c r=0 then 0 else 6
def kV (c:Ch) (r:List UInt8):Ch:=if dt c r=0 then ⟨c.cl,c.se,c.sk,c.rk,c.n,c.m+1⟩ else bL
def jx (c:Ch) (r:List UInt8):Int:=if dt c r=0 then ((r.getD 0 0).toNat:Int) else 0
def jy (c:Ch) (r:List UInt8):List UInt8:=if dt c r=0 then eJ c.rk (bT c.m (r.take 3)) (r.drop 3) else []
def nA (c:Ch) (n:Int):Int:=if dJ c then jt n else 3
def nr (c:Ch) (l x:List UInt8) (n:Int):List UInt8:=if dJ c then fS c.se (dF ej l x) n else []
def fb (c:Ch) (f:List UInt8):Int:=if ¬ dJ c then 3 else if f.length<16∨64<f.length then 5 else 0
def jz (c:Ch) (f:List UInt8):Ch:=if fb c f=0 then aJ c.cl (bH f c.se) 0 0 else bL
theorem kO {cl:Bool} {K:List UInt8} {n m:Int} (h:K.length=32) (h1:0≤n∧n≤1099511627776) (h2:0≤m∧m≤1099511627776):dJ (aJ cl K n m):=⟨h,h1,h2,rfl,rfl⟩
theorem Cl {cl:Bool} {K f:List UInt8} {n m:Int} (h:K.length=32) (h1:0≤n∧n≤1099511627776) (h2:0≤m∧m≤1099511627776) (hf:16≤f.length∧f.length≤64):fb (aJ cl K n m) f=0∧jz (aJ cl K n m) f=aJ cl (bH f K) 0 0:=by
  have e:fb (aJ cl K n m) f=0:=by
    unfold fb;rw[if_neg (not_not_intro (kO h h1 h2)),if_neg (by omega)]
  exact⟨e,if_pos e⟩
theorem kP {cl:Bool} {K l x:List UInt8} {n m i:Int} (h:K.length=32) (h1:0≤n∧n≤1099511627776) (h2:0≤m∧m≤1099511627776) (hi:0≤i∧i≤8160):nA (aJ cl K n m) i=0∧nr (aJ cl K n m) l x i=cH K (dF ej l x) i.toNat:=by
  refine⟨?_,?_⟩
  ·unfold nA;rw[if_pos (kO h h1 h2),ij hi]
  ·unfold nr;rw[if_pos (kO h h1 h2),ik _ _ hi];rfl
theorem GE (k:Int) (n:Nat) (S:List UInt8):(bf k n++S).take 3=bf k n∧(bf k n++S).drop 3=S∧ct (bf k n++S) 1 2=aN (n+16) 2∧(bf k n++S).getD 0 0=UInt8.ofNat k.toNat:=by
  refine⟨List.take_left' (il k n),List.drop_left' (il k n),?_,rfl⟩;have:=Gm [UInt8.ofNat k.toNat] (aN (n+16) 2) S;rw[cU] at this;exact this
theorem Ib {cl:Bool} {K b:List UInt8} {n m k:Int} (h:K.length=32) (h1:0≤n∧n<1099511627776) (h2:0≤m∧m≤1099511627776) (hk:0≤k∧k≤255) (hb:b.length≤16384) :
    ∃ R:List UInt8,(dr (aJ cl K n m) k b=0∧ny (aJ cl K n m) k b=aJ cl K (n+1) m∧nz (aJ cl K n m) k b=R∧R.length=b.length+19) ∧
      (dt (aJ (!cl) K m n) R=0∧kV (aJ (!cl) K m n) R=aJ (!cl) K m (n+1)∧jx (aJ (!cl) K m n) R=k∧jy (aJ (!cl) K m n) R=b):=by
  have e:dr (aJ cl K n m) k b=0:=by
    unfold dr;rw[if_neg (not_not_intro (kO h ⟨h1.1,by omega⟩ h2)),if_neg (by omega),if_neg (by omega),if_neg (show ¬ (aJ cl K n m).n=1099511627776 from fun q=>absurd (show n=1099511627776 from q) (by omega))]
  have ks:(bif cl then cx K else cI K).length=32:=qw cl K;have kr:(aJ (!cl) K m n).rk=(bif cl then cx K else cI K):=JE cl K m n;have ha:bA (bif cl then cx K else cI K) (bT n (bf k b.length)) b.length=0:=Gj ks (show (2:Nat)≤16 by decide) (fun x hx=>by
    rcases K9.1 hx with rfl | hx
    ·rw[cU]; decide
    ·rw[K1.1 hx,il]; decide) (by omega)
  obtain⟨o1,o2⟩:=Gk ha;refine⟨_,⟨e,if_pos e,if_pos e,?_⟩,?_⟩
  ·show (bf k b.length++df (bif cl then cx K else cI K) (bT n (bf k b.length)) b).length=_
   rw[pj ha,KJ,KJ,il,gb,iW]; omega
  ·show dt _ (bf k b.length++df (bif cl then cx K else cI K) (bT n (bf k b.length)) b)=0∧kV _ (bf k b.length++df (bif cl then cx K else cI K) (bT n (bf k b.length)) b)=_∧jx _ (bf k b.length++df (bif cl then cx K else cI K) (bT n (bf k b.length)) b)=k∧jy _ (bf k b.length++df (bif cl then cx K else cI K) (bT n (bf k b.length)) b)=b
   have hl:(df (bif cl then cx K else cI K) (bT n (bf k b.length)) b).length=b.length+16:=by rw[pj ha,KJ,gb,iW]; omega
   rw[← pj ha] at o1 o2;generalize df (bif cl then cx K else cI K) (bT n (bf k b.length)) b=S at *
   obtain⟨t3,d3,c3,w3⟩:=GE k b.length S;have g3:aV (ct (bf k b.length++S) 1 2)=b.length+16:=by rw[c3,get_put 2 (by decide)]; omega
   have ll:(bf k b.length++S).length=b.length+19:=by rw[KJ,il,hl]; omega
   have hx:iL (aJ (!cl) K m n) (bf k b.length++S)=0:=by
     unfold iL;rw[t3,d3,kr];exact o1
   have pe:d9 (bf k b.length++S)=0:=by
     unfold d9;rw[if_neg (by omega),if_neg (by omega),if_neg (by omega)]
   have e2:dt (aJ (!cl) K m n) (bf k b.length++S)=0:=by
     unfold dt;rw[if_neg (not_not_intro (kO h h2 ⟨h1.1,by omega⟩)),if_neg (not_not_intro pe),if_neg (show ¬ (aJ (!cl) K m n).m=1099511627776 from fun q=>absurd (show n=1099511627776 from q) (by omega)),if_pos hx]
   refine⟨e2,if_pos e2,?_,?_⟩
   ·unfold jx;rw[if_pos e2];rw[w3,UInt8.toNat_ofNat'];omega
   ·unfold jy;rw[if_pos e2,t3,d3,kr];exact o2
def nB:ByteArray:=⟨#[115,101,99,116,105,109,101,32,117,112]⟩
def nC:ByteArray:=⟨#[115,101,99,116,105,109,101,32,100,111,119,110]⟩
def kW (K:List UInt8):Nat→List D
  | 0=>[.sl [],.sl []]
  | 1=>[.sl ((cx K).map bD),.sl []]
  | _=>[.sl ((cx K).map bD),.sl ((cI K).map bD)]
def kQ (cl:Bool) (K:List UInt8) (i:Nat):St:=⟨aT [(0,.w (.c (.d (.bool cl)))),(1,.w (.c (.d (.sl (K.map bD))))),(7,.w (.c (.pa 1 1))),(11,.w (.c (.d (.agg [.str nB,.str nC])))),(12,.w (.c (.d (.int .i64 (i:Int)))))],hL [(1,.row 1 (kW K i))],uL [1]⟩
def jX:aH := .seq (.reg [oO 13 (.bin .lss (.t 12) (kI 2))]) (.seq (.cond (.t 13) (.skip) (.exit 0)) (.seq (.block 1 (.seq (.reg [oM 14 12,oO 15 (.idxArr 1 2 .sc (.t 11) (.t 12)),oM 8 14,oM 9 15]) (.reg [oM 17 8,oM 18 1,oM 19 9,oO 20 (.s2b false (.t 19)),oO 21 (.call 35 [(.t 18),(.t 20),(kI 32)] none),oM 16 21,oO 22 (.extract (.t 16) 0),oO 23 (.extract (.t 16) 1),oO 24 (.idxPa 1 2 (.t 7) (.t 17)),oN (.store .sc (.t 24) (.t 22))]))) (.reg [oO 25 (.bin .add (.t 12) (kI 1)),oM 12 25])))
def A9:aB:=⟨2,35,.seq (.reg [oO 4 (.mv (.k (.c .nil))),oO 5 (.mv (.k (.c .nil)))]) (.seq (.reg [oO 10 (.build [(.d (.str ⟨#[]⟩)),(.d (.str ⟨#[]⟩))] [(0,1,(.k (.c (.d (.str ⟨#[115,101,99,116,105,109,101,32,117,112]⟩))))),(1,1,(.k (.c (.d (.str ⟨#[115,101,99,116,105,109,101,32,100,111,119,110]⟩)))))]),oO 6 (.allocArr [(.str ⟨#[]⟩),(.str ⟨#[]⟩)]),oN (.store (.ag 2) (.t 6) (.t 10))]) (.seq (.reg [oO 7 (.allocArr [(.sl []),(.sl [])])]) (.seq (.seq (.reg [oO 11 (.load (.ag 2) (.t 6)),oO 12 (.mv (kI 0))]) (.block 0 (.loop jX))) (.seq (.seq (.reg [oM 26 0]) (.cond (.t 26) (.seq (.reg [oO 27 (.idxPa 1 2 (.t 7) (kI 0)),oO 28 (.load .sc (.t 27)),oO 29 (.idxPa 1 2 (.t 7) (kI 1)),oO 30 (.load .sc (.t 29)),oM 4 28,oM 5 30]) (.ret)) (.skip))) (.seq (.reg [oO 31 (.idxPa 1 2 (.t 7) (kI 1)),oO 32 (.load .sc (.t 31)),
 oO 33 (.idxPa 1 2 (.t 7) (kI 0)),oO 34 (.load .sc (.t 33)),oM 4 32,oM 5 34]) (.ret)))))),[(4,none),(5,none)]⟩
theorem JF:aA Tryd.prog { own:=[],comp:=[],frz:=[],nils:=[] } Tryd.f33=some A9:=by kernel_rfl
theorem BO (G:ak) (hF:G.at 0=some (.ra (bM.map wD))) (hG:G.at 1=some (.ra (aW.map wD))) (cl:Bool) (K:List UInt8) (hK:K.length≤140737488355328):ap Tryd.prog G 33 [.bool cl,.sl (K.map bD)] (.tup [.c (.d (.sl ((aJ cl K 0 0).sk.map bD))),.c (.d (.sl ((aJ cl K 0 0).rk.map bD)))]):=by
  refine aC Tryd.func33 JF rfl rfl ?_;have s1:nB.size≤maxLen:=by unfold maxLen; decide
  have s2:nC.size≤maxLen:=by unfold maxLen; decide
  have c1:=qU G hF hG K nB.data.toList hK (by decide) 32 (by decide) (by decide);have c2:=qU G hF hG K nC.data.toList hK (by decide) 32 (by decide) (by decide);rw[show fS K nB.data.toList 32=cx K from ik K kx (by decide),ij (by decide)] at c1;rw[show fS K nC.data.toList 32=cI K from ik K ky (by decide),ij (by decide)] at c2;simp only[A9,ah,ae,aa,seval,iteOmega,toNatUp];refine ba (kQ cl K) (fun i=>2-i) (fun i=>i≤2) 0 (by decide) ?_ ?_
  ·refine az (fun i=>56) ?_ ?_ rfl rfl <;> simp only[wx,aw,aO,aa,seval,iteOmega,toNatUp] <;> first | rfl | exact⟨rfl,rfl⟩ | skip
  ·intro i hi;have h3:i=0∨i=1∨i=2:=by omega
   rcases h3 with rfl | rfl | rfl
   ·simp only[jX,kQ,kW,ae,aa,seval,iteOmega,toNatUp,s1];refine sD (c1) ?_;refine aS 1 (by decide) (by decide) (az (fun i=>i) ?_ ?_ rfl rfl) <;> simp only[wx,aw,aO,aa,seval,iteOmega,toNatUp] <;> first | rfl | exact⟨rfl,rfl⟩ | skip
   ·simp only[jX,kQ,kW,ae,aa,seval,iteOmega,toNatUp,s2];refine sD (c2) ?_;refine aS 2 (by decide) (by decide) (az (fun i=>i) ?_ ?_ rfl rfl) <;> simp only[wx,aw,aO,aa,seval,iteOmega,toNatUp] <;> first | rfl | exact⟨rfl,rfl⟩ | skip
   ·unfold aJ;cases cl
    ·rw[cond_false,cond_false];simp only[jX,kQ,kW,ae,aa,seval,iteOmega,toNatUp];exact cP
    ·rw[cond_true,cond_true];simp only[jX,kQ,kW,ae,aa,seval,iteOmega,toNatUp];exact cP
def Ba:aB:=⟨2,18,.seq (.reg [oO 4 (.alloc [(.d (.bool false)),.nil,.nil,.nil,(.d (.int .i64 0)),(.d (.int .i64 0))])]) (.seq (.reg [oM 8 0,oM 9 1,oO 10 (.call 33 [(.t 8),(.t 9)] none),oM 7 10,oO 11 (.extract (.t 7) 0),oO 12 (.extract (.t 7) 1),oM 5 11,oM 6 12]) (.seq (.reg [oM 13 0,oM 14 1,oM 15 5,oM 16 6,oO 17 (.build [(.d (.bool false)),.nil,.nil,.nil,(.d (.int .i64 0)),(.d (.int .i64 0))] [(0,1,(.t 13)),(1,1,(.t 14)),(2,1,(.t 15)),(3,1,(.t 16))]),oN (.store (.ag 6) (.t 4) (.t 17))]) (.ret))),[(4,(some (.ag 6)))]⟩
theorem JG:aA Tryd.prog { own:=[],comp:=[],frz:=[],nils:=[] } Tryd.f22=some Ba:=by kernel_rfl
theorem BP (G:ak) (hF:G.at 0=some (.ra (bM.map wD))) (hG:G.at 1=some (.ra (aW.map wD))) (cl:Bool) (K:List UInt8) (hK:K.length≤140737488355328):ap Tryd.prog G 22 [.bool cl,.sl (K.map bD)] (.w (.c (.d (a4 (aJ cl K 0 0))))):=by
  refine aC Tryd.func22 JG rfl rfl ?_;have c:=BO G hF hG cl K hK;unfold a4;generalize hs:(aJ cl K 0 0).sk=S at *
  generalize hr:(aJ cl K 0 0).rk=R at *
  rw[show (aJ cl K 0 0).cl=cl from rfl,show (aJ cl K 0 0).se=K from rfl,show (aJ cl K 0 0).n=0 from rfl,show (aJ cl K 0 0).m=0 from rfl];simp only[Ba,ah,ae,aa,seval,iteOmega,toNatUp];refine sD (c) ?_;exact a7
def iM (n:Int):Bool:=decide (0≤n∧n≤1099511627776)
def mz:aB:=⟨1,9,.seq (.reg [oO 2 (.mv (.k (.c (.d (.bool false)))))]) (.seq (.reg [oM 3 0,oO 4 (.bin .leq (kI 0) (.t 3)),oM 5 4,oG 6 (.mv (.t 0)) 5 true,oG 7 (.bin .leq (.t 6) (kI 1099511627776)) 5 true,oO 8 (.pick (.t 5) (.t 7) (.k (.c (.d (.bool false))))),oM 2 8]) (.ret)),[(2,none)]⟩
theorem JH:aA Tryd.prog { own:=[],comp:=[],frz:=[],nils:=[] } Tryd.f32=some mz:=by kernel_rfl
theorem BQ (G:ak) (n:Int):ap Tryd.prog G 32 [.int .i64 n] (.w (.c (.d (.bool (iM n))))):=by
  refine aC Tryd.func32 JH rfl rfl ?_;unfold iM;by_cases h1:0≤n
  ·have g1:(0≤n)=True:=eq_true h1;by_cases h2:n≤1099511627776
   ·have g2:(n≤1099511627776)=True:=eq_true h2;rw[decide_eq_true (And.intro h1 h2)];simp only[mz,ah,ae,aa,seval,iteOmega,toNatUp,g1,g2];exact a7
   ·have g2:(n≤1099511627776)=False:=eq_false h2;rw[decide_eq_false (fun h=>h2 h.2)];simp only[mz,ah,ae,aa,seval,iteOmega,toNatUp,g1,g2];exact a7
  ·have g1:(0≤n)=False:=eq_false h1;rw[decide_eq_false (fun h=>h1 h.1)];simp only[mz,ah,ae,aa,seval,iteOmega,toNatUp,g1];exact a7
def mA:aB:=⟨3,23,.seq (.reg [oO 6 (.alloc [(.d (.bool false)),.nil,.nil,.nil,(.d (.int .i64 0)),(.d (.int .i64 0))]),oO 7 (.mv (kI 0))]) (.seq (.seq (.reg [oM 8 1,oO 9 (.len (.t 8)),oO 10 (.bin .lss (.t 9) (kI 16)),oM 11 10,oG 12 (.mv (.t 1)) 11 false,oG 13 (.len (.t 12)) 11 false,oG 14 (.bin .gtr (.t 13) (kI 65535)) 11 false,oO 15 (.pick (.t 11) (.k (.c (.d (.bool true)))) (.t 14))]) (.cond (.t 15) (.seq (.reg [oO 16 (.build [(.d (.bool false)),.nil,.nil,.nil,(.d (.int .i64 0)),(.d (.int .i64 0))] []),oN (.store (.ag 6) (.t 6) (.t 16)),oO 7 (.mv (kI 5))]) (.ret)) (.skip))) (.seq (.reg [oM 17 0,oM 18 2,oO 19 (.call 37 [(.t 18)] none),oM 20 1,oO 21 (.call 23 [(.t 19),(.t 20)] none),oO 22 (.call 22 [(.t 17),(.t 21)] none),oN (.store (.ag 6) (.t 6) (.t 22)),oO 7 (.mv (kI 0))]) (.ret))),[(6,(some (.ag 6))),(7,none)]⟩
theorem JI:aA Tryd.prog { own:=[],comp:=[],frz:=[],nils:=[] } Tryd.f17=some mA:=by kernel_rfl
theorem BR (G:ak) (hF:G.at 0=some (.ra (bM.map wD))) (hG:G.at 1=some (.ra (aW.map wD))) (cl:Bool) (s h:List UInt8) (hs:s.length≤9223372036854775807) (hh:h.length≤140737488355328):ap Tryd.prog G 17 [.bool cl,.sl (s.map bD),.sl (h.map bD)] (.tup [.c (.d (a4 (fa cl s h))),.c (.d (.int .i64 (fy s)))]):=by
  refine aC Tryd.func17 JI rfl rfl ?_;by_cases h1:s.length<16
  ·have e:fy s=5:=if_pos (.inl h1);rw[show fa cl s h=bL from if_neg (by rw[e]; decide),e];have g1:((s.length:Int)<16)=True:=eq_true (by omega);unfold a4 bL;simp only[mA,ah,ae,aa,seval,iteOmega,toNatUp,g1];exact cP
  ·have g1:((s.length:Int)<16)=False:=eq_false (by omega);by_cases h2:65535<s.length
   ·have e:fy s=5:=if_pos (.inr h2);rw[show fa cl s h=bL from if_neg (by rw[e]; decide),e];have g2:((s.length:Int)>65535)=True:=eq_true (by omega);unfold a4 bL;simp only[mA,ah,ae,aa,seval,iteOmega,toNatUp,g1,g2];exact cP
   ·have e:fy s=0:=if_neg (by omega);rw[show fa cl s h=aJ cl (bH (aZ h) s) 0 0 from if_pos e,e];have g2:((s.length:Int)>65535)=False:=eq_false (by omega);have c1:=kv G hF hG h hh;have c2:=BN G hF hG (aZ h) s (by rw[dL]; decide) (by omega);have c3:=BP G hF hG cl (bH (aZ h) s) (by rw[fD]; decide);generalize aJ cl (bH (aZ h) s) 0 0=C at *
    generalize bH (aZ h) s=M at *
    generalize aZ h=H at *
    unfold a4 at *
    simp only[mA,ah,ae,aa,seval,iteOmega,toNatUp,g1,g2];refine sD (c1) ?_;refine sD (c2) ?_;refine sD (c3) ?_;exact cP
theorem KF (c:Ch):decide (dJ c)=(decide (c.se.length=32)&&iM c.n&&iM c.m&&(c.sk==(aJ c.cl c.se 0 0).sk)&&(c.rk==(aJ c.cl c.se 0 0).rk)):=by
  rw[Bool.eq_iff_iff];unfold dJ iM aJ;simp only[decide_eq_true_eq,K7,beq_iff_eq,and_assoc]
def jb:aB:=⟨1,39,.seq (.reg [oO 1 (.box .roBox (.t 0)),oO 2 (.mv (.k (.c (.d (.bool false)))))]) (.seq (.seq (.reg [oO 5 (.fieldAddr 1 (.t 1)),oO 6 (.load .sc (.t 5)),oO 7 (.len (.t 6)),oO 8 (.bin .neq (.t 7) (kI 32)),oM 9 8,oG 10 (.fieldAddr 4 (.t 1)) 9 false,oG 11 (.load .sc (.t 10)) 9 false,oG 12 (.call 32 [(.t 11)] none) 9 false,oG 13 (.un .not (.t 12)) 9 false,oO 14 (.pick (.t 9) (.k (.c (.d (.bool true)))) (.t 13)),oM 15 14,oG 16 (.fieldAddr 5 (.t 1)) 15 false,oG 17 (.load .sc (.t 16)) 15 false,oG 18 (.call 32 [(.t 17)] none) 15 false,oG 19 (.un .not (.t 18)) 15 false,oO 20 (.pick (.t 15) (.k (.c (.d (.bool true)))) (.t 19))]) (.cond (.t 20) (.seq (.reg [oO 2 (.mv (.k (.c (.d (.bool false)))))]) (.ret)) (.skip))) (.seq (.reg [oO 22 (.fieldAddr 0 (.t 1)),oO 23 (.load .sc (.t 22)),
 oO 24 (.fieldAddr 1 (.t 1)),oO 25 (.load .sc (.t 24)),oO 26 (.call 33 [(.t 23),(.t 25)] none),oM 21 26,oO 27 (.extract (.t 21) 0),oO 28 (.extract (.t 21) 1),oM 3 27,oM 4 28]) (.seq (.reg [oO 29 (.fieldAddr 2 (.t 1)),oO 30 (.load .sc (.t 29)),oM 31 3,oO 32 (.call 34 [(.t 30),(.t 31)] none),oM 33 32,oG 34 (.fieldAddr 3 (.t 1)) 33 true,oG 35 (.load .sc (.t 34)) 33 true,oG 36 (.mv (.t 4)) 33 true,oG 37 (.call 34 [(.t 35),(.t 36)] none) 33 true,oO 38 (.pick (.t 33) (.t 37) (.k (.c (.d (.bool false))))),oM 2 38]) (.ret)))),[(2,none)]⟩
theorem JJ:aA Tryd.prog { own:=[],comp:=[],frz:=[],nils:=[] } Tryd.f14=some jb:=by kernel_rfl
theorem mZ (G:ak) (hF:G.at 0=some (.ra (bM.map wD))) (hG:G.at 1=some (.ra (aW.map wD))) (c:Ch):ap Tryd.prog G 14 [a4 c] (.w (.c (.d (.bool (decide (dJ c)))))):=by
  refine aC Tryd.func14 JJ rfl rfl ?_;rw[KF];have c1:=BQ G c.n;have c2:=BQ G c.m;by_cases h:c.se.length=32
  ·have g:(((c.se.length:Nat):Int)=32)=True:=eq_true (by omega);have c3:=BO G hF hG c.cl c.se (by omega);have c4:=qn G c.sk (aJ c.cl c.se 0 0).sk;have c5:=qn G c.rk (aJ c.cl c.se 0 0).rk;rw[decide_eq_true h];generalize (aJ c.cl c.se 0 0).sk=S at *
   generalize (aJ c.cl c.se 0 0).rk=R at *
   generalize (c.sk==S)=q1 at *
   generalize (c.rk==R)=q2 at *
   generalize iM c.n=q3 at *
   generalize iM c.m=q4 at *
   unfold a4;cases q3
   ·simp only[jb,ah,ae,aa,seval,iteOmega,toNatUp,g];refine sD (c1) ?_;exact a7
   ·cases q4
    ·simp only[jb,ah,ae,aa,seval,iteOmega,toNatUp,g];refine sD (c1) ?_;refine sD (c2) ?_;exact a7
    ·cases q1
     ·simp only[jb,ah,ae,aa,seval,iteOmega,toNatUp,g];refine sD (c1) ?_;refine sD (c2) ?_;refine sD (c3) ?_;refine sD (c4) ?_;exact a7
     ·simp only[jb,ah,ae,aa,seval,iteOmega,toNatUp,g];refine sD (c1) ?_;refine sD (c2) ?_;refine sD (c3) ?_;refine sD (c4) ?_;refine sD (c5) ?_;exact a7
  ·have g:(((c.se.length:Nat):Int)=32)=False:=eq_false (by omega);rw[decide_eq_false h];unfold a4;simp only[jb,ah,ae,aa,seval,iteOmega,toNatUp,g];exact a7
def Cy:ByteArray:=⟨#[115,101,99,116,105,109,101,32,101,120,112,111,114,116]⟩
def qx:aB:=⟨4,22,.seq (.reg [oO 4 (.box .roBox (.t 0)),oO 8 (.mv (.k (.c .nil))),oO 9 (.mv (kI 0))]) (.seq (.seq (.reg [oO 10 (.load (.ag 6) (.t 4)),oO 11 (.call 14 [(.t 10)] none),oO 12 (.un .not (.t 11))]) (.cond (.t 12) (.seq (.reg [oO 8 (.mv (.k (.c .nil))),oO 9 (.mv (kI 3))]) (.ret)) (.skip))) (.seq (.reg [oO 13 (.fieldAddr 1 (.t 4)),oO 14 (.load .sc (.t 13)),oM 15 1,oM 16 2,oO 17 (.call 36 [(.k (.c (.d (.str ⟨#[115,101,99,116,105,109,101,32,101,120,112,111,114,116]⟩)))),(.t 15),(.t 16)] none),oM 18 3,oO 19 (.call 35 [(.t 14),(.t 17),(.t 18)] none),oO 20 (.extract (.t 19) 0),oO 21 (.extract (.t 19) 1),oM 8 20,oM 9 21]) (.ret))),[(8,none),(9,none)]⟩
theorem JK:aA Tryd.prog { own:=[],comp:=[],frz:=[],nils:=[] } Tryd.f15=some qx:=by kernel_rfl
theorem kz (G:ak) (hF:G.at 0=some (.ra (bM.map wD))) (hG:G.at 1=some (.ra (aW.map wD))) (c:Ch) (l:ByteArray) (x:List UInt8) (n:Int) (hl:l.size≤1099511627776) (hx:x.length≤140737488355328) (hn1:-9223372036854775808≤n) (hn2:n≤9223372036854775807):ap Tryd.prog G 15 [a4 c,.str l,.sl (x.map bD),.int .i64 n] (.tup [.c (.d (.sl ((nr c l.data.toList x n).map bD))),.c (.d (.int .i64 (nA c n)))]):=by
  refine aC Tryd.func15 JK rfl rfl ?_;have c1:=mZ G hF hG c;unfold nr nA;by_cases h:dJ c
  ·rw[decide_eq_true h] at c1;rw[if_pos h,if_pos h];have c2:=Kk G hF hG Cy l x (by decide) hl hx;rw[show Cy.data.toList=ej from rfl] at c2;have hs:l.data.toList.length=l.size:=rfl;have c3:=qU G hF hG c.se (dF ej l.data.toList x) (by rw[h.1]; decide) (by rw[Gy,hs]; have:ej.length=14:=rfl; omega) n hn1 hn2;generalize dF ej l.data.toList x=L at *
   generalize fS c.se L n=E at *
   generalize jt n=e at *
   unfold a4 at *
   simp only[qx,ah,ae,aa,seval,iteOmega,toNatUp];refine sD (c1) ?_;refine aI c2 (by simp only[ae,aa,seval,iteOmega,toNatUp] <;> rfl) (.inl rfl) ?_;simp only[ae,aa,seval,iteOmega,toNatUp];refine sD (c3) ?_;exact cP
  ·rw[decide_eq_false h] at c1;rw[if_neg h,if_neg h];unfold a4 at *
   simp only[qx,ah,ae,aa,seval,iteOmega,toNatUp];refine sD (c1) ?_;exact cP
def kh:aB:=⟨2,26,.seq (.reg [oO 2 (.box .roBox (.t 0)),oO 4 (.alloc [(.d (.bool false)),.nil,.nil,.nil,(.d (.int .i64 0)),(.d (.int .i64 0))]),oO 5 (.mv (kI 0))]) (.seq (.seq (.reg [oO 6 (.load (.ag 6) (.t 2)),oO 7 (.call 14 [(.t 6)] none),oO 8 (.un .not (.t 7))]) (.cond (.t 8) (.seq (.reg [oO 9 (.build [(.d (.bool false)),.nil,.nil,.nil,(.d (.int .i64 0)),(.d (.int .i64 0))] []),oN (.store (.ag 6) (.t 4) (.t 9)),oO 5 (.mv (kI 3))]) (.ret)) (.skip))) (.seq (.seq (.reg [oM 10 1,oO 11 (.len (.t 10)),oO 12 (.bin .lss (.t 11) (kI 16)),oM 13 12,oG 14 (.mv (.t 1)) 13 false,oG 15 (.len (.t 14)) 13 false,oG 16 (.bin .gtr (.t 15) (kI 64)) 13 false,oO 17 (.pick (.t 13) (.k (.c (.d (.bool true)))) (.t 16))]) (.cond (.t 17) (.seq (.reg [oO 18 (.build [(.d (.bool false)),.nil,.nil,.nil,(.d (.int .i64 0)),(.d (.int .i64 0))] []),
 oN (.store (.ag 6) (.t 4) (.t 18)),oO 5 (.mv (kI 5))]) (.ret)) (.skip))) (.seq (.reg [oO 19 (.fieldAddr 0 (.t 2)),oO 20 (.load .sc (.t 19)),oM 21 1,oO 22 (.fieldAddr 1 (.t 2)),oO 23 (.load .sc (.t 22)),oO 24 (.call 23 [(.t 21),(.t 23)] none),oO 25 (.call 22 [(.t 20),(.t 24)] none),oN (.store (.ag 6) (.t 4) (.t 25)),oO 5 (.mv (kI 0))]) (.ret)))),[(4,(some (.ag 6))),(5,none)]⟩
theorem JL:aA Tryd.prog { own:=[],comp:=[],frz:=[],nils:=[] } Tryd.f10=some kh:=by kernel_rfl
theorem BS (G:ak) (hF:G.at 0=some (.ra (bM.map wD))) (hG:G.at 1=some (.ra (aW.map wD))) (c:Ch) (f:List UInt8) (hf:f.length≤9223372036854775807):ap Tryd.prog G 10 [a4 c,.sl (f.map bD)] (.tup [.c (.d (a4 (jz c f))),.c (.d (.int .i64 (fb c f)))]):=by
  refine aC Tryd.func10 JL rfl rfl ?_;have c1:=mZ G hF hG c;by_cases h:dJ c
  ·rw[decide_eq_true h] at c1;by_cases h1:f.length<16
   ·have e:fb c f=5:=by unfold fb; rw[if_neg (not_not_intro h),if_pos (.inl h1)]
    rw[show jz c f=bL from if_neg (by rw[e]; decide),e];have g1:((f.length:Int)<16)=True:=eq_true (by omega);unfold a4 bL at *
    simp only[kh,ah,ae,aa,seval,iteOmega,toNatUp,g1];refine sC (c1) ?_;simp only[g1,ae,aa,seval,iteOmega,toNatUp];exact cP
   ·have g1:((f.length:Int)<16)=False:=eq_false (by omega);by_cases h2:64<f.length
    ·have e:fb c f=5:=by unfold fb; rw[if_neg (not_not_intro h),if_pos (.inr h2)]
     rw[show jz c f=bL from if_neg (by rw[e]; decide),e];have g2:((f.length:Int)>64)=True:=eq_true (by omega);unfold a4 bL at *
     simp only[kh,ah,ae,aa,seval,iteOmega,toNatUp,g1];refine sC (c1) ?_;simp only[g1,g2,ae,aa,seval,iteOmega,toNatUp];exact cP
    ·have g2:((f.length:Int)>64)=False:=eq_false (by omega);have e:fb c f=0:=by unfold fb; rw[if_neg (not_not_intro h),if_neg (by omega)]
     rw[show jz c f=aJ c.cl (bH f c.se) 0 0 from if_pos e,e];have c2:=BN G hF hG f c.se (by omega) (by rw[h.1]; decide);have c3:=BP G hF hG c.cl (bH f c.se) (by rw[fD]; decide);generalize aJ c.cl (bH f c.se) 0 0=C at *
     generalize bH f c.se=M at *
     unfold a4 at *
     simp only[kh,ah,ae,aa,seval,iteOmega,toNatUp,g1];refine sC (c1) ?_;simp only[g1,g2,ae,aa,seval,iteOmega,toNatUp];refine sD (c2) ?_;refine sD (c3) ?_;exact cP
  ·rw[decide_eq_false h] at c1;have e:fb c f=3:=if_pos h;rw[show jz c f=bL from if_neg (by rw[e]; decide),e];unfold a4 bL at *
   simp only[kh,ah,ae,aa,seval,iteOmega,toNatUp];refine sD (c1) ?_;exact cP
def Bc:aB:=⟨2,10,.seq (.reg [oO 4 (.mv (.k (.c .nil)))]) (.seq (.reg [oM 5 0,oO 6 (.conv .u64 (.t 5)),oO 7 (.call 25 [(.t 6),(kI 8)] none),oM 8 1,oO 9 (.bldSl false 2 1 (.sl []) [(0,(.t 7)),(1,(.t 8))]),oM 4 9]) (.ret)),[(4,none)]⟩
theorem JO:aA Tryd.prog { own:=[],comp:=[],frz:=[],nils:=[] } Tryd.f27=some Bc:=by kernel_rfl
theorem BU (G:ak) (n:Int) (h:List UInt8) (hn:0≤n∧n≤9223372036854775807):ap Tryd.prog G 27 [.int .i64 n,.sl (h.map bD)] (.w (.c (.d (cR (bT n h))))):=by
  refine aC Tryd.func27 JO rfl rfl ?_;obtain⟨a,rfl⟩:=Ly hn.1;have c:=qy G a 8 (by decide);rw[show (8:Int).toNat=8 from rfl] at c;unfold bT cR;rw[show ((a:Nat):Int).toNat=a from rfl];generalize aN a 8=P at *
  simp only[Bc,ah,ae,aa,seval,iteOmega,toNatUp,KR,Ls];refine sD (c) ?_;exact a7
def Be:aB:=⟨3,30,.seq (.reg [oO 3 (.box .roBox (.t 0)),oO 6 (.alloc [(.d (.bool false)),.nil,.nil,.nil,(.d (.int .i64 0)),(.d (.int .i64 0))])]) (.seq (.reg [oO 7 (.fieldAddr 0 (.t 3)),oO 8 (.load .sc (.t 7)),oO 9 (.fieldAddr 1 (.t 3)),oO 10 (.load .sc (.t 9)),oO 11 (.bldSl false 1 1 (.sl []) [(0,(.t 10))]),oO 12 (.call 24 [(.t 11)] none),oO 13 (.fieldAddr 2 (.t 3)),oO 14 (.load .sc (.t 13)),oO 15 (.bldSl false 1 1 (.sl []) [(0,(.t 14))]),oO 16 (.call 24 [(.t 15)] none),oO 17 (.fieldAddr 3 (.t 3)),oO 18 (.load .sc (.t 17)),oO 19 (.bldSl false 1 1 (.sl []) [(0,(.t 18))]),oO 20 (.call 24 [(.t 19)] none),oO 21 (.fieldAddr 4 (.t 3)),oO 22 (.load .sc (.t 21)),oM 23 1,oO 24 (.bin .add (.t 22) (.t 23)),oO 25 (.fieldAddr 5 (.t 3)),oO 26 (.load .sc (.t 25)),oM 27 2,oO 28 (.bin .add (.t 26) (.t 27)),
 oO 29 (.build [(.d (.bool false)),.nil,.nil,.nil,(.d (.int .i64 0)),(.d (.int .i64 0))] [(0,1,(.t 8)),(1,1,(.t 12)),(2,1,(.t 16)),(3,1,(.t 20)),(4,1,(.t 24)),(5,1,(.t 28))]),oN (.store (.ag 6) (.t 6) (.t 29))]) (.ret)),[(6,(some (.ag 6)))]⟩
theorem JP:aA Tryd.prog { own:=[],comp:=[],frz:=[],nils:=[] } Tryd.f28=some Be:=by kernel_rfl
theorem BV (G:ak) (c:Ch) (x y:Int) (h1:c.se.length≤140737488355328) (h2:c.sk.length≤140737488355328) (h3:c.rk.length≤140737488355328) (h4:0≤c.n∧c.n≤1099511627776) (h5:0≤c.m∧c.m≤1099511627776) (hx:0≤x∧x≤1) (hy:0≤y∧y≤1):ap Tryd.prog G 28 [a4 c,.int .i64 x,.int .i64 y] (.w (.c (.d (a4 ⟨c.cl,c.se,c.sk,c.rk,c.n+x,c.m+y⟩)))):=by
  refine aC Tryd.func28 JP rfl rfl ?_;have c1:=de G [c.se] (by simp) (by simp; omega);have c2:=de G [c.sk] (by simp) (by simp; omega);have c3:=de G [c.rk] (by simp) (by simp; omega);simp only[KR,Ls,List.flatten_cons,List.flatten_nil,K5] at c1 c2 c3;obtain⟨cl,se,sk,rk,n,m⟩:=c;dsimp only at *
  unfold a4;dsimp only;simp only[Be,ah,ae,aa,seval,iteOmega,toNatUp];refine sD (c1) ?_;refine sD (c2) ?_;refine sD (c3) ?_;exact a7
def jc:aB:=⟨1,33,.seq (.reg [oO 2 (.mv (.k (.c .nil))),oO 3 (.mv (.k (.c .nil))),oO 4 (.mv (kI 0))]) (.seq (.reg [oM 8 0,oO 9 (.call 47 [(.t 8),(kI 3)] none),oM 7 9,oO 10 (.extract (.t 7) 0),oO 11 (.extract (.t 7) 1),oO 12 (.extract (.t 7) 2),oM 2 10,oM 3 11,oM 5 12]) (.seq (.seq (.reg [oM 13 5,oO 14 (.un .not (.t 13))]) (.cond (.t 14) (.seq (.reg [oO 2 (.mv (.k (.c .nil))),oO 3 (.mv (.k (.c .nil))),oO 4 (.mv (kI 1))]) (.ret)) (.skip))) (.seq (.reg [oM 15 2,oO 16 (.slice 1 (.t 15) (some (kI 1)) none none),oO 17 (.call 31 [(.t 16)] none),oO 18 (.conv .i64 (.t 17)),oM 6 18]) (.seq (.seq (.reg [oM 19 3,oO 20 (.len (.t 19)),oM 21 6,oO 22 (.bin .lss (.t 20) (.t 21))]) (.cond (.t 22) (.seq (.reg [oO 2 (.mv (.k (.c .nil))),oO 3 (.mv (.k (.c .nil))),oO 4 (.mv (kI 1))]) (.ret)) (.skip))) (.seq (.seq (.reg [oM 23 3,
 oO 24 (.len (.t 23)),oM 25 6,oO 26 (.bin .gtr (.t 24) (.t 25)),oM 27 26,oG 28 (.mv (.t 6)) 27 false,oG 29 (.bin .gtr (.t 28) (kI 16400)) 27 false,oO 30 (.pick (.t 27) (.k (.c (.d (.bool true)))) (.t 29))]) (.cond (.t 30) (.seq (.reg [oO 2 (.mv (.k (.c .nil))),oO 3 (.mv (.k (.c .nil))),oO 4 (.mv (kI 2))]) (.ret)) (.skip))) (.seq (.reg [oM 31 2,oM 32 3,oM 2 31,oM 3 32,oO 4 (.mv (kI 0))]) (.ret))))))),[(2,none),(3,none),(4,none)]⟩
theorem JQ:aA Tryd.prog { own:=[],comp:=[],frz:=[],nils:=[] } Tryd.f29=some jc:=by kernel_rfl
theorem Km (G:ak) (r:List UInt8) (hr:r.length≤1099511627776):ap Tryd.prog G 29 [.sl (r.map bD)] (.tup [.c (.d (.sl ((if d9 r=0 then r.take 3 else []).map bD))),.c (.d (.sl ((if d9 r=0 then r.drop 3 else []).map bD))),.c (.d (.int .i64 (d9 r)))]):=by
  refine aC Tryd.func29 JQ rfl rfl ?_;by_cases h1:r.length<3
  ·have e:d9 r=1:=if_pos h1;rw[e,if_neg (by decide),if_neg (by decide)];have c1:=JN G r 3 (.inr (by omega));simp only[jc,ah,ae,aa,seval,iteOmega,toNatUp];refine sD (c1) ?_;exact eZ
  ·have c1:=JM G r 3 (by omega) hr;have e1:(r.take 3).drop 1=ct r 1 2:=by unfold ct; rw[List.drop_take]
   have l1:(ct r 1 2).length=2:=Gl (by omega);have t1:(ct r 1 2).take 2=ct r 1 2:=KM (by omega);have c2:=qC G (ct r 1 2) (by omega);have b2:=(CZ 2 (ct r 1 2) l1 (by decide)).1;have hl:(r.drop 3).length=r.length-3:=KP;have l3:(r.take 3).length=3:=by simp; omega
   have pe:d9 r=if r.length-3<aV (ct r 1 2) then 1 else if aV (ct r 1 2)<r.length-3∨16400<aV (ct r 1 2) then 2 else 0:=if_neg h1
   rw[← hl] at pe;generalize aV (ct r 1 2)=N at *
   generalize r.drop 3=S at *
   generalize hH:r.take 3=H at *
   by_cases h2:S.length<N
   ·rw[if_pos h2] at pe;rw[pe,if_neg (by decide),if_neg (by decide)];have g2:((S.length:Int)<(N:Int))=True:=eq_true (by omega);simp only[jc,ah,ae,aa,seval,iteOmega,toNatUp];refine sC (c1) ?_;simp only[l3,e1,l1,t1,ae,aa,seval,iteOmega,toNatUp];refine sC (c2) ?_;simp only[g2,ae,aa,seval,iteOmega,toNatUp];exact eZ
   ·rw[if_neg h2] at pe;have g2:((S.length:Int)<(N:Int))=False:=eq_false (by omega);by_cases h3:N<S.length
    ·rw[if_pos (.inl h3)] at pe;rw[pe,if_neg (by decide),if_neg (by decide)];have g3:((S.length:Int)>(N:Int))=True:=eq_true (by omega);simp only[jc,ah,ae,aa,seval,iteOmega,toNatUp];refine sC (c1) ?_;simp only[l3,e1,l1,t1,ae,aa,seval,iteOmega,toNatUp];refine sC (c2) ?_;simp only[g2,g3,ae,aa,seval,iteOmega,toNatUp];exact eZ
    ·have g3:((S.length:Int)>(N:Int))=False:=eq_false (by omega);by_cases h4:16400<N
     ·rw[if_pos (.inr h4)] at pe;rw[pe,if_neg (by decide),if_neg (by decide)];have g4:((N:Int)>16400)=True:=eq_true (by omega);simp only[jc,ah,ae,aa,seval,iteOmega,toNatUp];refine sC (c1) ?_;simp only[l3,e1,l1,t1,ae,aa,seval,iteOmega,toNatUp];refine sC (c2) ?_;simp only[g2,g3,g4,ae,aa,seval,iteOmega,toNatUp];exact eZ
     ·rw[if_neg (by omega)] at pe;rw[pe,if_pos rfl,if_pos rfl];have g4:((N:Int)>16400)=False:=eq_false (by omega);simp only[jc,ah,ae,aa,seval,iteOmega,toNatUp];refine sC (c1) ?_;simp only[l3,e1,l1,t1,ae,aa,seval,iteOmega,toNatUp];refine sC (c2) ?_;simp only[g2,g3,g4,ae,aa,seval,iteOmega,toNatUp];exact eZ
theorem kA {c:Ch} {k:Int} {b:List UInt8} {e:Int} (h:dr c k b=e) (he:e≠0):ny c k b=bL∧nz c k b=[]:=⟨if_neg (by rw[h]; exact he),if_neg (by rw[h]; exact he)⟩
def iw:aB:=⟨3,58,.seq (.reg [oO 3 (.box .roBox (.t 0)),oO 6 (.alloc [(.d (.bool false)),.nil,.nil,.nil,(.d (.int .i64 0)),(.d (.int .i64 0))]),oO 7 (.mv (.k (.c .nil))),oO 8 (.mv (kI 0))]) (.seq (.seq (.reg [oO 12 (.load (.ag 6) (.t 3)),oO 13 (.call 14 [(.t 12)] none),oO 14 (.un .not (.t 13))]) (.cond (.t 14) (.seq (.reg [oO 15 (.build [(.d (.bool false)),.nil,.nil,.nil,(.d (.int .i64 0)),(.d (.int .i64 0))] []),oN (.store (.ag 6) (.t 6) (.t 15)),oO 7 (.mv (.k (.c .nil))),oO 8 (.mv (kI 3))]) (.ret)) (.skip))) (.seq (.seq (.reg [oM 16 1,oO 17 (.bin .lss (.t 16) (kI 0)),oM 18 17,oG 19 (.mv (.t 1)) 18 false,oG 20 (.bin .geq (.t 19) (kI 256)) 18 false,oO 21 (.pick (.t 18) (.k (.c (.d (.bool true)))) (.t 20))]) (.cond (.t 21) (.seq (.reg [oO 22 (.build [(.d (.bool false)),.nil,.nil,.nil,(.d (.int .i64 0)),(.d (.int .i64 0))] []),
 oN (.store (.ag 6) (.t 6) (.t 22)),oO 7 (.mv (.k (.c .nil))),oO 8 (.mv (kI 4))]) (.ret)) (.skip))) (.seq (.seq (.reg [oM 23 2,oO 24 (.len (.t 23)),oO 25 (.bin .gtr (.t 24) (kI 16384))]) (.cond (.t 25) (.seq (.reg [oO 26 (.build [(.d (.bool false)),.nil,.nil,.nil,(.d (.int .i64 0)),(.d (.int .i64 0))] []),oN (.store (.ag 6) (.t 6) (.t 26)),oO 7 (.mv (.k (.c .nil))),oO 8 (.mv (kI 2))]) (.ret)) (.skip))) (.seq (.seq (.reg [oO 27 (.fieldAddr 4 (.t 3)),oO 28 (.load .sc (.t 27)),oO 29 (.bin .eql (.t 28) (kI 1099511627776))]) (.cond (.t 29) (.seq (.reg [oO 30 (.build [(.d (.bool false)),.nil,.nil,.nil,(.d (.int .i64 0)),(.d (.int .i64 0))] []),oN (.store (.ag 6) (.t 6) (.t 30)),oO 7 (.mv (.k (.c .nil))),oO 8 (.mv (kI 7))]) (.ret)) (.skip))) (.seq (.reg [oM 31 1,oO 32 (.conv .u64 (.t 31)),oO 33 (.call 25 [(.t 32),(kI 1)] none),
 oM 34 2,oO 35 (.len (.t 34)),oO 36 (.bin .add (.t 35) (kI 16)),oO 37 (.conv .u64 (.t 36)),oO 38 (.call 25 [(.t 37),(kI 2)] none),oO 39 (.bldSl false 2 1 (.sl []) [(0,(.t 33)),(1,(.t 38))]),oO 40 (.call 24 [(.t 39)] none),oM 9 40]) (.seq (.reg [oO 42 (.fieldAddr 2 (.t 3)),oO 43 (.load .sc (.t 42)),oO 44 (.fieldAddr 4 (.t 3)),oO 45 (.load .sc (.t 44)),oM 46 9,oO 47 (.call 27 [(.t 45),(.t 46)] none),oM 48 2,oO 49 (.call 26 [(.t 43),(.t 47),(.t 48)] none),oM 41 49,oO 50 (.extract (.t 41) 0),oO 51 (.extract (.t 41) 1),oM 10 50,oM 11 51]) (.seq (.reg [oO 52 (.load (.ag 6) (.t 3)),oO 53 (.call 28 [(.t 52),(kI 1),(kI 0)] none),oM 54 9,oM 55 10,oO 56 (.bldSl false 2 1 (.sl []) [(0,(.t 54)),(1,(.t 55))]),oO 57 (.call 24 [(.t 56)] none),oN (.store (.ag 6) (.t 6) (.t 53)),oM 7 57,oO 8 (.mv (kI 0))]) (.ret)))))))),
 [(6,(some (.ag 6))),(7,none),(8,none)]⟩
theorem JR:aA Tryd.prog { own:=[],comp:=[],frz:=[],nils:=[] } Tryd.f11=some iw:=by kernel_rfl
theorem Kn (G:ak) (hF:G.at 0=some (.ra (bM.map wD))) (hG:G.at 1=some (.ra (aW.map wD))) (c:Ch) (k:Int) (b:List UInt8) (hb:b.length≤9223372036854775807):ap Tryd.prog G 11 [a4 c,.int .i64 k,.sl (b.map bD)] (.tup [.c (.d (a4 (ny c k b))),.c (.d (.sl ((nz c k b).map bD))),.c (.d (.int .i64 (dr c k b)))]):=by
  refine aC Tryd.func11 JR rfl rfl ?_;have c1:=mZ G hF hG c;by_cases h:dJ c
  ·rw[decide_eq_true h] at c1;by_cases k1:k<0
   ·have g1:(k<0)=True:=eq_true k1;have e:dr c k b=4:=by unfold dr; rw[if_neg (not_not_intro h),if_pos (.inl k1)]
    obtain⟨q1,q2⟩:=kA e (by decide);rw[q1,q2,e];unfold a4 bL at *
    simp only[iw,ah,ae,aa,seval,iteOmega,toNatUp];refine sC (c1) ?_;simp only[g1,ae,aa,seval,iteOmega,toNatUp];exact eZ
   ·have g1:(k<0)=False:=eq_false k1;by_cases k2:255<k
    ·have g2:(k≥256)=True:=eq_true (by omega);have e:dr c k b=4:=by unfold dr; rw[if_neg (not_not_intro h),if_pos (.inr k2)]
     obtain⟨q1,q2⟩:=kA e (by decide);rw[q1,q2,e];unfold a4 bL at *
     simp only[iw,ah,ae,aa,seval,iteOmega,toNatUp];refine sC (c1) ?_;simp only[g1,g2,ae,aa,seval,iteOmega,toNatUp];exact eZ
    ·have g2:(k≥256)=False:=eq_false (by omega);by_cases h3:16384<b.length
     ·have g3:((b.length:Int)>16384)=True:=eq_true (by omega);have e:dr c k b=2:=by unfold dr; rw[if_neg (not_not_intro h),if_neg (by omega),if_pos h3]
      obtain⟨q1,q2⟩:=kA e (by decide);rw[q1,q2,e];unfold a4 bL at *
      simp only[iw,ah,ae,aa,seval,iteOmega,toNatUp];refine sC (c1) ?_;simp only[g1,g2,g3,ae,aa,seval,iteOmega,toNatUp];exact eZ
     ·have g3:((b.length:Int)>16384)=False:=eq_false (by omega);by_cases h4:c.n=1099511627776
      ·have g4:(c.n=1099511627776)=True:=eq_true h4;have e:dr c k b=7:=by unfold dr; rw[if_neg (not_not_intro h),if_neg (by omega),if_neg h3,if_pos h4]
       obtain⟨q1,q2⟩:=kA e (by decide);rw[q1,q2,e];unfold a4 bL at *
       simp only[iw,ah,ae,aa,seval,iteOmega,toNatUp];refine sC (c1) ?_;simp only[g1,g2,g3,g4,ae,aa,seval,iteOmega,toNatUp];exact eZ
      ·have g4:(c.n=1099511627776)=False:=eq_false h4;have e:dr c k b=0:=by unfold dr; rw[if_neg (not_not_intro h),if_neg (by omega),if_neg h3,if_neg h4]
       rw[show ny c k b=_ from if_pos e,show nz c k b=_ from if_pos e,e];obtain⟨a,ha⟩:=Ly (show 0≤k by omega);have ha:k=(a:Int):=ha;subst ha;have c2:=qy G a 1 (by decide);have c3:=qy G (b.length+16) 2 (by decide);rw[show (1:Int).toNat=1 from rfl] at c2;rw[show (2:Int).toNat=2 from rfl] at c3;have c4:=de G [aN a 1,aN (b.length+16) 2] (by simp) (by simp[cU]);rw[show [aN a 1,aN (b.length+16) 2].flatten=bf (a:Int) b.length from by simp[bf,Ck]] at c4;have c5:=BU G c.n (bf (a:Int) b.length) (by have:=h.2.1; omega);have c6:=Jq G c.sk (bT c.n (bf (a:Int) b.length)) b (by rw[qV h]; decide) (show (2:Nat)≤_ by decide) (fun x hx=>by
         rcases K9.1 hx with rfl | hx
         ·rw[cU]; decide
         ·rw[K1.1 hx,il]; decide) (by omega)
       have c7:=BV G c 1 0 (by rw[h.1]; decide) (by rw[qV h]; decide) (by rw[qW h]; decide) h.2.1 h.2.2.1 (by decide) (by decide);rw[Int.add_zero] at c7;have hl:(df c.sk (bT c.n (bf (a:Int) b.length)) b).length≤20000:=by
         unfold df;split
         ·rw[KJ,gb,iW]; omega
         ·exact KU _
       have c8:=de G [bf (a:Int) b.length,df c.sk (bT c.n (bf (a:Int) b.length)) b] (by simp) (by simp[il]; omega);rw[show [bf (a:Int) b.length,df c.sk (bT c.n (bf (a:Int) b.length)) b].flatten=bf (a:Int) b.length++df c.sk (bT c.n (bf (a:Int) b.length)) b from by simp] at c8;simp only[KR,Ls] at c4 c8;generalize df c.sk (bT c.n (bf (a:Int) b.length)) b=S at *
       generalize bA c.sk (bT c.n (bf (a:Int) b.length)) b.length=q at *
       generalize cR (bT c.n (bf (a:Int) b.length))=A at *
       generalize bf (a:Int) b.length=H at *
       generalize aN a 1=P1 at *
       generalize aN (b.length+16) 2=P2 at *
       unfold a4 at *
       dsimp only at c7;dsimp only;simp only[iw,ah,ae,aa,seval,iteOmega,toNatUp];refine sC (c1) ?_;simp only[g1,g2,g3,g4,ae,aa,seval,iteOmega,toNatUp];refine sD (c2) ?_;refine sD (c3) ?_;refine sD (c4) ?_;refine sD (c5) ?_;refine sD (c6) ?_;refine sD (c7) ?_;refine sD (c8) ?_;exact eZ
  ·rw[decide_eq_false h] at c1;have e:dr c k b=3:=if_pos h;obtain⟨q1,q2⟩:=kA e (by decide);rw[q1,q2,e];unfold a4 bL at *
   simp only[iw,ah,ae,aa,seval,iteOmega,toNatUp];refine sD (c1) ?_;exact eZ
theorem m5 {c:Ch} {r:List UInt8} {e:Int} (h:dt c r=e) (he:e≠0):kV c r=bL∧jx c r=0∧jy c r=[]:=⟨if_neg (by rw[h]; exact he),if_neg (by rw[h]; exact he),if_neg (by rw[h]; exact he)⟩
theorem JS {r:List UInt8} (h:d9 r=0):3≤r.length∧r.length≤16403:=by
  unfold d9 at h;by_cases h1:r.length<3
  ·rw[if_pos h1] at h; exact absurd h (by decide)
  ·rw[if_neg h1] at h;by_cases h2:r.length-3<aV (ct r 1 2)
   ·rw[if_pos h2] at h; exact absurd h (by decide)
   ·rw[if_neg h2] at h;by_cases h3:aV (ct r 1 2)<r.length-3∨16400<aV (ct r 1 2)
    ·rw[if_pos h3] at h; exact absurd h (by decide)
    ·omega
theorem Ko {r:List UInt8} (h:3≤r.length):(r.take 3).take 1=[r.getD 0 0]:=by
  match r,h with
  | a::b::c::l,_=>rfl
def jd:aB:=⟨2,49,.seq (.reg [oO 2 (.box .roBox (.t 0)),oO 4 (.alloc [(.d (.bool false)),.nil,.nil,.nil,(.d (.int .i64 0)),(.d (.int .i64 0))]),oO 5 (.mv (kI 0)),oO 6 (.mv (.k (.c .nil))),oO 7 (.mv (kI 0))]) (.seq (.seq (.reg [oO 10 (.load (.ag 6) (.t 2)),oO 11 (.call 14 [(.t 10)] none),oO 12 (.un .not (.t 11))]) (.cond (.t 12) (.seq (.reg [oO 13 (.build [(.d (.bool false)),.nil,.nil,.nil,(.d (.int .i64 0)),(.d (.int .i64 0))] []),oN (.store (.ag 6) (.t 4) (.t 13)),oO 5 (.mv (kI 0)),oO 6 (.mv (.k (.c .nil))),oO 7 (.mv (kI 3))]) (.ret)) (.skip))) (.seq (.reg [oM 15 1,oO 16 (.call 29 [(.t 15)] none),oM 14 16,oO 17 (.extract (.t 14) 0),oO 18 (.extract (.t 14) 1),oO 19 (.extract (.t 14) 2),oM 8 17,oM 9 18,oM 7 19]) (.seq (.seq (.reg [oM 20 7,oO 21 (.bin .neq (.t 20) (kI 0))]) (.cond (.t 21) (.seq (.reg [oO 22 (.build [(.d (.bool false)),.nil,.nil,.nil,(.d (.int .i64 0)),(.d (.int .i64 0))] []),
 oM 23 7,oN (.store (.ag 6) (.t 4) (.t 22)),oO 5 (.mv (kI 0)),oO 6 (.mv (.k (.c .nil))),oM 7 23]) (.ret)) (.skip))) (.seq (.seq (.reg [oO 24 (.fieldAddr 5 (.t 2)),oO 25 (.load .sc (.t 24)),oO 26 (.bin .eql (.t 25) (kI 1099511627776))]) (.cond (.t 26) (.seq (.reg [oO 27 (.build [(.d (.bool false)),.nil,.nil,.nil,(.d (.int .i64 0)),(.d (.int .i64 0))] []),oN (.store (.ag 6) (.t 4) (.t 27)),oO 5 (.mv (kI 0)),oO 6 (.mv (.k (.c .nil))),oO 7 (.mv (kI 7))]) (.ret)) (.skip))) (.seq (.reg [oO 29 (.fieldAddr 3 (.t 2)),oO 30 (.load .sc (.t 29)),oO 31 (.fieldAddr 5 (.t 2)),oO 32 (.load .sc (.t 31)),oM 33 8,oO 34 (.call 27 [(.t 32),(.t 33)] none),oM 35 9,oO 36 (.call 30 [(.t 30),(.t 34),(.t 35)] none),oM 28 36,oO 37 (.extract (.t 28) 0),oO 38 (.extract (.t 28) 1),oM 6 37,oM 7 38]) (.seq (.seq (.reg [oM 39 7,
 oO 40 (.bin .neq (.t 39) (kI 0))]) (.cond (.t 40) (.seq (.reg [oO 41 (.build [(.d (.bool false)),.nil,.nil,.nil,(.d (.int .i64 0)),(.d (.int .i64 0))] []),oN (.store (.ag 6) (.t 4) (.t 41)),oO 5 (.mv (kI 0)),oO 6 (.mv (.k (.c .nil))),oO 7 (.mv (kI 6))]) (.ret)) (.skip))) (.seq (.reg [oO 42 (.load (.ag 6) (.t 2)),oO 43 (.call 28 [(.t 42),(kI 0),(kI 1)] none),oM 44 8,oO 45 (.slice 1 (.t 44) none (some (kI 1)) none),oO 46 (.call 31 [(.t 45)] none),oO 47 (.conv .i64 (.t 46)),oM 48 6,oN (.store (.ag 6) (.t 4) (.t 43)),oM 5 47,oM 6 48,oO 7 (.mv (kI 0))]) (.ret)))))))),[(4,(some (.ag 6))),(5,none),(6,none),(7,none)]⟩
theorem JU:aA Tryd.prog { own:=[],comp:=[],frz:=[],nils:=[] } Tryd.f12=some jd:=by kernel_rfl
theorem Kp (G:ak) (hF:G.at 0=some (.ra (bM.map wD))) (hG:G.at 1=some (.ra (aW.map wD))) (c:Ch) (r:List UInt8) (hr:r.length≤1099511627776):ap Tryd.prog G 12 [a4 c,.sl (r.map bD)] (.tup [.c (.d (a4 (kV c r))),.c (.d (.int .i64 (jx c r))),.c (.d (.sl ((jy c r).map bD))),.c (.d (.int .i64 (dt c r)))]):=by
  refine aC Tryd.func12 JU rfl rfl ?_;have c1:=mZ G hF hG c;have c2:=Km G r hr;by_cases h:dJ c
  ·rw[decide_eq_true h] at c1;by_cases h1:d9 r=0
   ·rw[if_pos h1,if_pos h1,h1] at c2;by_cases h4:c.m=1099511627776
    ·have g4:(c.m=1099511627776)=True:=eq_true h4;have e:dt c r=7:=by unfold dt; rw[if_neg (not_not_intro h),if_neg (not_not_intro h1),if_pos h4]
     obtain⟨q1,q2,q3⟩:=m5 e (by decide);rw[q1,q2,q3,e];unfold a4 bL at *
     simp only[jd,ah,ae,aa,seval,iteOmega,toNatUp];refine sD (c1) ?_;refine sC (c2) ?_;simp only[g4,ae,aa,seval,iteOmega,toNatUp];exact kX
    ·have g4:(c.m=1099511627776)=False:=eq_false h4;obtain⟨l1,l2⟩:=JS h1;have l3:(r.take 3).length=3:=by simp; omega
     have c3:=BU G c.m (r.take 3) (by have:=h.2.2.1; omega);have c4:=Kh G c.rk (bT c.m (r.take 3)) (r.drop 3) (by rw[qW h]; decide) (show (2:Nat)≤_ by decide) (fun x hx=>by
       rcases K9.1 hx with rfl | hx
       ·rw[cU]; decide
       ·rw[K1.1 hx,l3]; decide) (by simp; omega)
     rw[show dE c.rk (bT c.m (r.take 3)) (r.drop 3)=iL c r from rfl] at c4;by_cases x0:iL c r=0
     ·have e:dt c r=0:=by unfold dt; rw[if_neg (not_not_intro h),if_neg (not_not_intro h1),if_neg h4,if_pos x0]
      rw[show kV c r=_ from if_pos e,show jx c r=_ from if_pos e,show jy c r=_ from if_pos e,e];rw[x0] at c4;have c5:=BV G c 0 1 (by rw[h.1]; decide) (by rw[qV h]; decide) (by rw[qW h]; decide) h.2.1 h.2.2.1 (by decide) (by decide);rw[Int.add_zero] at c5;have c6:=qC G [r.getD 0 0] (show (1:Nat)≤_ by decide);have hb:=(r.getD 0 0).toNat_lt;rw[show aV [r.getD 0 0]=(r.getD 0 0).toNat from by simp only[aV,List.foldl]; omega] at c6;have t1:=Ko l1;generalize r.getD 0 0=x at *
      generalize eJ c.rk (bT c.m (r.take 3)) (r.drop 3)=B at *
      generalize cR (bT c.m (r.take 3))=A at *
      generalize r.take 3=H at *
      generalize r.drop 3=S at *
      unfold a4 at *
      dsimp only at c5;dsimp only;simp only[jd,ah,ae,aa,seval,iteOmega,toNatUp];refine sD (c1) ?_;refine sC (c2) ?_;simp only[g4,ae,aa,seval,iteOmega,toNatUp];refine sD (c3) ?_;refine sD (c4) ?_;refine sC (c5) ?_;simp only[l3,t1,ae,aa,seval,iteOmega,toNatUp];refine sD (c6) ?_;exact kX
     ·have gx:(iL c r=0)=False:=eq_false x0;have e:dt c r=6:=by unfold dt; rw[if_neg (not_not_intro h),if_neg (not_not_intro h1),if_neg h4,if_neg x0]
      obtain⟨q1,q2,q3⟩:=m5 e (by decide);rw[q1,q2,q3,e];generalize iL c r=X at *
      generalize eJ c.rk (bT c.m (r.take 3)) (r.drop 3)=B at *
      generalize cR (bT c.m (r.take 3))=A at *
      generalize r.take 3=H at *
      generalize r.drop 3=S at *
      unfold a4 bL at *
      simp only[jd,ah,ae,aa,seval,iteOmega,toNatUp];refine sD (c1) ?_;refine sC (c2) ?_;simp only[g4,ae,aa,seval,iteOmega,toNatUp];refine sD (c3) ?_;refine sC (c4) ?_;simp only[gx,ae,aa,seval,iteOmega,toNatUp];exact kX
   ·have g1:(d9 r=0)=False:=eq_false h1;rw[if_neg h1,if_neg h1] at c2;have e:dt c r=d9 r:=by unfold dt; rw[if_neg (not_not_intro h),if_pos h1]
    obtain⟨q1,q2,q3⟩:=m5 e h1;rw[q1,q2,q3,e];generalize d9 r=p at *
    unfold a4 bL at *
    simp only[jd,ah,ae,aa,seval,iteOmega,toNatUp];refine sD (c1) ?_;refine sC (c2) ?_;simp only[g1,ae,aa,seval,iteOmega,toNatUp];exact kX
  ·rw[decide_eq_false h] at c1;have e:dt c r=3:=if_pos h;obtain⟨q1,q2,q3⟩:=m5 e (by decide);rw[q1,q2,q3,e];unfold a4 bL at *
   simp only[jd,ah,ae,aa,seval,iteOmega,toNatUp];refine sD (c1) ?_;exact kX
def qz:aB:=⟨2,32,.seq (.reg [oO 4 (.alloc [(.d (.bool false)),.nil,.nil,.nil,(.d (.int .i64 0)),(.d (.int .i64 0))])]) (.seq (.reg [oM 10 1,oO 11 (.bldSl true 10 1 (.int .u8 0) [(0,(.k (.c (.d (.int .u8 115))))),(1,(.k (.c (.d (.int .u8 101))))),(2,(.k (.c (.d (.int .u8 99))))),(3,(.k (.c (.d (.int .u8 116))))),(4,(.k (.c (.d (.int .u8 105))))),(5,(.k (.c (.d (.int .u8 109))))),(6,(.k (.c (.d (.int .u8 101))))),(7,(.k (.c (.d (.int .u8 32))))),(8,(.k (.c (.d (.int .u8 117))))),(9,(.k (.c (.d (.int .u8 112)))))]),oO 12 (.markF (.t 11)),oO 13 (.call 53 [(.t 10),(.t 12),(kI 32)] none),oM 9 13,oO 14 (.extract (.t 9) 0),oO 15 (.extract (.t 9) 1),oM 5 14,oM 6 15]) (.seq (.reg [oM 17 1,oO 18 (.bldSl true 12 1 (.int .u8 0) [(0,(.k (.c (.d (.int .u8 115))))),(1,(.k (.c (.d (.int .u8 101))))),(2,(.k (.c (.d (.int .u8 99))))),(3,(.k (.c (.d (.int .u8 116))))),(4,(.k (.c (.d (.int .u8 105))))),(5,(.k (.c (.d (.int .u8 109))))),(6,(.k (.c (.d (.int .u8 101))))),(7,(.k (.c (.d (.int .u8 32))))),(8,(.k (.c (.d (.int .u8 100))))),(9,(.k (.c (.d (.int .u8 111))))),(10,(.k (.c (.d (.int .u8 119))))),(11,(.k (.c (.d (.int .u8 110)))))]),
 oO 19 (.markF (.t 18)),oO 20 (.call 53 [(.t 17),(.t 19),(kI 32)] none),oM 16 20,oO 21 (.extract (.t 16) 0),oO 22 (.extract (.t 16) 1),oM 7 21,oM 8 22]) (.seq (.seq (.reg [oM 23 0]) (.cond (.t 23) (.seq (.reg [oM 24 1,oM 25 5,oM 26 7,oO 27 (.build [(.d (.bool false)),.nil,.nil,.nil,(.d (.int .i64 0)),(.d (.int .i64 0))] [(0,1,(.k (.c (.d (.bool true))))),(1,1,(.t 24)),(2,1,(.t 25)),(3,1,(.t 26))]),oN (.store (.ag 6) (.t 4) (.t 27))]) (.ret)) (.skip))) (.seq (.reg [oM 28 1,oM 29 7,oM 30 5,oO 31 (.build [(.d (.bool false)),.nil,.nil,.nil,(.d (.int .i64 0)),(.d (.int .i64 0))] [(1,1,(.t 28)),(2,1,(.t 29)),(3,1,(.t 30))]),oN (.store (.ag 6) (.t 4) (.t 31))]) (.ret))))),[(4,(some (.ag 6)))]⟩
theorem JW:aA Tryd.prog { own:=[11,18],comp:=[],frz:=[12,19],nils:=[] } Tryd.f38=some qz:=by kernel_rfl
theorem Kq (G:ak) (cl:Bool) (K:List UInt8) (hK:K.length≤140737488355328):ap Tryd.prog G 38 [.bool cl,.sl (K.map bD)] (.w (.c (.d (a4 (aJ cl K 0 0))))):=by
  refine aC Tryd.func38 JW rfl rfl ?_;have c1:=A7 G K kx hK (by decide) 32 (by decide) (by decide);have c2:=A7 G K ky hK (by decide) 32 (by decide) (by decide);rw[show fS K kx 32=cx K from ik K kx (by decide),ij (by decide)] at c1;rw[show fS K ky 32=cI K from ik K ky (by decide),ij (by decide)] at c2;unfold a4 aJ;dsimp only;generalize cx K=U at *
  generalize cI K=W at *
  cases cl
  ·rw[cond_false,cond_false];simp only[qz,ah,ae,aa,seval,iteOmega,toNatUp];refine aI c1 (by simp only[ae,aa,seval,iteOmega,toNatUp] <;> rfl) (.inl rfl) ?_;simp only[ae,aa,seval,iteOmega,toNatUp];refine aI c2 (by simp only[ae,aa,seval,iteOmega,toNatUp] <;> rfl) (.inl rfl) ?_;simp only[ae,aa,seval,iteOmega,toNatUp];exact a7
  ·rw[cond_true,cond_true];simp only[qz,ah,ae,aa,seval,iteOmega,toNatUp];refine aI c1 (by simp only[ae,aa,seval,iteOmega,toNatUp] <;> rfl) (.inl rfl) ?_;simp only[ae,aa,seval,iteOmega,toNatUp];refine aI c2 (by simp only[ae,aa,seval,iteOmega,toNatUp] <;> rfl) (.inl rfl) ?_;simp only[ae,aa,seval,iteOmega,toNatUp];exact a7
def mC:aB:=⟨3,23,.seq (.reg [oO 6 (.alloc [(.d (.bool false)),.nil,.nil,.nil,(.d (.int .i64 0)),(.d (.int .i64 0))]),oO 7 (.mv (kI 0))]) (.seq (.seq (.reg [oM 8 1,oO 9 (.len (.t 8)),oO 10 (.bin .lss (.t 9) (kI 16)),oM 11 10,oG 12 (.mv (.t 1)) 11 false,oG 13 (.len (.t 12)) 11 false,oG 14 (.bin .gtr (.t 13) (kI 65535)) 11 false,oO 15 (.pick (.t 11) (.k (.c (.d (.bool true)))) (.t 14))]) (.cond (.t 15) (.seq (.reg [oO 16 (.build [(.d (.bool false)),.nil,.nil,.nil,(.d (.int .i64 0)),(.d (.int .i64 0))] []),oN (.store (.ag 6) (.t 6) (.t 16)),oO 7 (.mv (kI 5))]) (.ret)) (.skip))) (.seq (.reg [oM 17 0,oM 18 2,oO 19 (.call 20 [(.t 18)] none),oM 20 1,oO 21 (.call 39 [(.t 19),(.t 20)] none),oO 22 (.call 38 [(.t 17),(.t 21)] none),oN (.store (.ag 6) (.t 6) (.t 22)),oO 7 (.mv (kI 0))]) (.ret))),[(6,(some (.ag 6))),(7,none)]⟩
theorem JX:aA Tryd.prog { own:=[],comp:=[],frz:=[],nils:=[] } Tryd.f18=some mC:=by kernel_rfl
theorem BW (G:ak) (cl:Bool) (s h:List UInt8) (hs:s.length≤9223372036854775807) (hh:h.length≤140737488355328):ap Tryd.prog G 18 [.bool cl,.sl (s.map bD),.sl (h.map bD)] (.tup [.c (.d (a4 (fa cl s h))),.c (.d (.int .i64 (fy s)))]):=by
  refine aC Tryd.func18 JX rfl rfl ?_;by_cases h1:s.length<16
  ·have e:fy s=5:=if_pos (.inl h1);rw[show fa cl s h=bL from if_neg (by rw[e]; decide),e];have g1:((s.length:Int)<16)=True:=eq_true (by omega);unfold a4 bL;simp only[mC,ah,ae,aa,seval,iteOmega,toNatUp,g1];exact cP
  ·have g1:((s.length:Int)<16)=False:=eq_false (by omega);by_cases h2:65535<s.length
   ·have e:fy s=5:=if_pos (.inr h2);rw[show fa cl s h=bL from if_neg (by rw[e]; decide),e];have g2:((s.length:Int)>65535)=True:=eq_true (by omega);unfold a4 bL;simp only[mC,ah,ae,aa,seval,iteOmega,toNatUp,g1,g2];exact cP
   ·have e:fy s=0:=if_neg (by omega);rw[show fa cl s h=aJ cl (bH (aZ h) s) 0 0 from if_pos e,e];have g2:((s.length:Int)>65535)=False:=eq_false (by omega);have c1:=kg G h hh;have c2:=JB G (aZ h) s (by rw[dL]; decide) (by omega);have c3:=Kq G cl (bH (aZ h) s) (by rw[fD]; decide);generalize aJ cl (bH (aZ h) s) 0 0=C at *
    generalize bH (aZ h) s=M at *
    generalize aZ h=H at *
    unfold a4 at *
    simp only[mC,ah,ae,aa,seval,iteOmega,toNatUp,g1,g2];refine sD (c1) ?_;refine sD (c2) ?_;refine sD (c3) ?_;exact cP
def hU (s:Int):List UInt8:=bH (aZ (cz s 20)) (cz s 32)
theorem Ie (s:Int):(hU s).length=32:=fD _ _
def Bf:aB:=⟨1,26,.seq (.reg [oO 2 (.alloc [(.d (.bool false)),.nil,.nil,.nil,(.d (.int .i64 0)),(.d (.int .i64 0))]),oO 3 (.alloc [(.d (.bool false)),.nil,.nil,.nil,(.d (.int .i64 0)),(.d (.int .i64 0))])]) (.seq (.reg [oM 9 0,oO 10 (.call 19 [(.t 9)] none),oM 11 0,oO 12 (.call 9 [(.t 11),(kI 20)] none),oO 13 (.call 18 [(.k (.c (.d (.bool true)))),(.t 10),(.t 12)] none),oM 8 13,oO 14 (.extract (.t 8) 0),oO 15 (.extract (.t 8) 1),oO 4 (.alloc [(.d (.bool false)),.nil,.nil,.nil,(.d (.int .i64 0)),(.d (.int .i64 0))]),oN (.store (.ag 6) (.t 4) (.t 14)),oM 5 15]) (.seq (.reg [oM 17 0,oO 18 (.call 19 [(.t 17)] none),oM 19 0,oO 20 (.call 9 [(.t 19),(kI 20)] none),oO 21 (.call 18 [(.k (.c (.d (.bool false)))),(.t 18),(.t 20)] none),oM 16 21,oO 22 (.extract (.t 16) 0),oO 23 (.extract (.t 16) 1),
 oO 6 (.alloc [(.d (.bool false)),.nil,.nil,.nil,(.d (.int .i64 0)),(.d (.int .i64 0))]),oN (.store (.ag 6) (.t 6) (.t 22)),oM 7 23]) (.seq (.reg [oO 24 (.loadX (.ag 6) (.t 4) [(.t 2),(.t 3)]),oO 25 (.loadX (.ag 6) (.t 6) [(.t 2),(.t 3)]),oN (.store (.ag 6) (.t 2) (.t 24)),oN (.store (.ag 6) (.t 3) (.t 25))]) (.ret)))),[(2,(some (.ag 6))),(3,(some (.ag 6)))]⟩
theorem JY:aA Tryd.prog { own:=[],comp:=[],frz:=[],nils:=[],lx:=[(24,[2,3]),(25,[2,3])] } Tryd.f6=some Bf:=by kernel_rfl
theorem Kr (G:ak) (s:Int):ap Tryd.prog G 6 [.int .i64 s] (.tup [.c (.d (a4 (aJ true (hU s) 0 0))),.c (.d (a4 (aJ false (hU s) 0 0)))]):=by
  refine aC Tryd.func6 JY rfl rfl ?_;have c1:=JV G s;have c2:=xc G s 20 (by decide);have l1:(cz s 32).length=32:=sV _ _;have l2:(cz s 20).length=20:=sV _ _;have e:fy (cz s 32)=0:=if_neg (by omega);have c3:=BW G true (cz s 32) (cz s 20) (by omega) (by omega);have c4:=BW G false (cz s 32) (cz s 20) (by omega) (by omega);rw[show fa true (cz s 32) (cz s 20)=aJ true (hU s) 0 0 from if_pos e,e] at c3;rw[show fa false (cz s 32) (cz s 20)=aJ false (hU s) 0 0 from if_pos e,e] at c4;generalize cz s 32=B1 at *
  generalize cz s 20=B2 at *
  generalize aJ true (hU s) 0 0=X at *
  generalize aJ false (hU s) 0 0=Y at *
  unfold a4 at *
  simp only[Bf,ah,ae,aa,seval,iteOmega,toNatUp];refine sD (c1) ?_;refine sD (c2) ?_;refine sD (c3) ?_;refine sD (c1) ?_;refine sD (c2) ?_;refine sD (c4) ?_;exact cP
def rH (cl:Bool) (K:List UInt8):List UInt8:=(aJ cl K 0 0).sk
def rI (cl:Bool) (K:List UInt8):List UInt8:=(aJ cl K 0 0).rk
theorem jn (cl:Bool) (K:List UInt8) (n m:Int):a4 (aJ cl K n m)=.agg [.bool cl,.sl (K.map bD),.sl ((rH cl K).map bD),.sl ((rI cl K).map bD),.int .i64 n,.int .i64 m]:=rfl
def sW:aB:=⟨0,74,.seq (.reg [oO 0 (.mv (.k (.c (.d (.bool false)))))]) (.seq (.reg [oO 11 (.make false 1 1 (.int .u8 0) (kI 16) (kI 16)),oO 12 (.call 17 [(.k (.c (.d (.bool true)))),(.t 11),(.k (.c .nil))] none),oM 10 12,oO 13 (.extract (.t 10) 0),oO 14 (.extract (.t 10) 1),oO 1 (.alloc [(.d (.bool false)),.nil,.nil,.nil,(.d (.int .i64 0)),(.d (.int .i64 0))]),oN (.store (.ag 6) (.t 1) (.t 13)),oM 2 14]) (.seq (.reg [oO 16 (.make false 1 1 (.int .u8 0) (kI 16) (kI 16)),oO 17 (.call 17 [(.k (.c (.d (.bool false)))),(.t 16),(.k (.c .nil))] none),oM 15 17,oO 18 (.extract (.t 15) 0),oO 19 (.extract (.t 15) 1),oO 3 (.alloc [(.d (.bool false)),.nil,.nil,.nil,(.d (.int .i64 0)),(.d (.int .i64 0))]),oN (.store (.ag 6) (.t 3) (.t 18)),oM 4 19]) (.seq (.reg [oO 21 (.load (.ag 6) (.t 1)),oO 22 (.bldSl true 2 1 (.int .u8 0) [(0,(.k (.c (.d (.int .u8 104))))),(1,(.k (.c (.d (.int .u8 105)))))]),
 oO 23 (.markF (.t 22)),oO 24 (.call 11 [(.t 21),(kI 9),(.t 23)] none),oM 20 24,oO 25 (.extract (.t 20) 0),oO 26 (.extract (.t 20) 1),oO 27 (.extract (.t 20) 2),oN (.store (.ag 6) (.t 1) (.t 25)),oM 5 26,oM 6 27]) (.seq (.reg [oO 29 (.load (.ag 6) (.t 3)),oM 30 5,oO 31 (.call 12 [(.t 29),(.t 30)] none),oM 28 31,oO 32 (.extract (.t 28) 0),oO 33 (.extract (.t 28) 1),oO 34 (.extract (.t 28) 2),oO 35 (.extract (.t 28) 3),oN (.store (.ag 6) (.t 3) (.t 32)),oM 7 33,oM 8 34,oM 9 35]) (.seq (.reg [oM 36 2,oO 37 (.bin .eql (.t 36) (kI 0)),oM 38 37,oG 39 (.mv (.t 4)) 38 true,oG 40 (.bin .eql (.t 39) (kI 0)) 38 true,oO 41 (.pick (.t 38) (.t 40) (.k (.c (.d (.bool false))))),oM 42 41,oG 43 (.mv (.t 6)) 42 true,oG 44 (.bin .eql (.t 43) (kI 0)) 42 true,oO 45 (.pick (.t 42) (.t 44) (.k (.c (.d (.bool false))))),
 oM 46 45,oG 47 (.mv (.t 9)) 46 true,oG 48 (.bin .eql (.t 47) (kI 0)) 46 true,oO 49 (.pick (.t 46) (.t 48) (.k (.c (.d (.bool false))))),oM 50 49,oG 51 (.mv (.t 7)) 50 true,oG 52 (.bin .eql (.t 51) (kI 9)) 50 true,oO 53 (.pick (.t 50) (.t 52) (.k (.c (.d (.bool false))))),oM 54 53,oG 55 (.mv (.t 8)) 54 true,oG 56 (.b2s (.t 55)) 54 true,oG 57 (.bin .eql (.t 56) (.k (.c (.d (.str ⟨#[104,105]⟩))))) 54 true,oO 58 (.pick (.t 54) (.t 57) (.k (.c (.d (.bool false))))),oM 59 58,oG 60 (.fieldAddr 4 (.t 1)) 59 true,oG 61 (.load .sc (.t 60)) 59 true,oG 62 (.bin .eql (.t 61) (kI 1)) 59 true,oO 63 (.pick (.t 59) (.t 62) (.k (.c (.d (.bool false))))),oM 64 63,oG 65 (.fieldAddr 5 (.t 3)) 64 true,oG 66 (.load .sc (.t 65)) 64 true,oG 67 (.bin .eql (.t 66) (kI 1)) 64 true,oO 68 (.pick (.t 64) (.t 67) (.k (.c (.d (.bool false))))),
 oM 69 68,oG 70 (.mv (.t 5)) 69 true,oG 71 (.len (.t 70)) 69 true,oG 72 (.bin .eql (.t 71) (kI 21)) 69 true,oO 73 (.pick (.t 69) (.t 72) (.k (.c (.d (.bool false))))),oM 0 73]) (.ret)))))),[(0,none)]⟩
theorem Du:aA Tryd.prog { own:=[22],comp:=[],frz:=[11,16,23],nils:=[] } Tryd.f5=some sW:=by kernel_rfl
set_option maxHeartbeats 1600000 in
theorem ES (G:ak) (hF:G.at 0=some (.ra (bM.map wD))) (hG:G.at 1=some (.ra (aW.map wD))):ap Tryd.prog G 5 [] (.w (.c (.d (.bool true)))):=by
  refine aC Tryd.func5 Du rfl rfl ?_;have c1:=BR G hF hG true (List.replicate 16 0) [] (by simp) (by simp);have c2:=BR G hF hG false (List.replicate 16 0) [] (by simp) (by simp);have e:fy (List.replicate 16 0)=0:=if_neg (by simp);rw[show fa true (List.replicate 16 0) []=_ from if_pos e,e] at c1;rw[show fa false (List.replicate 16 0) []=_ from if_pos e,e] at c2;obtain⟨R,⟨s1,s2,s3,s4⟩,r1,r2,r3,r4⟩:=Ib (cl:=true) (K:=bH (aZ []) (List.replicate 16 0)) (b:=[104,105]) (n:=0) (m:=0) (k:=9) (fD _ _) (by decide) (by decide) (by decide) (by decide);have c3:=Kn G hF hG (aJ true (bH (aZ []) (List.replicate 16 0)) 0 0) 9 [104,105] (by decide);have s4:R.length=21:=s4;rw[s1,s2,s3] at c3;have c4:=Kp G hF hG (aJ (!true) (bH (aZ []) (List.replicate 16 0)) 0 0) R (by omega);rw[r1,r2,r3,r4,Bool.not_true] at c4;obtain⟨B,hB⟩:∃ B:List UInt8,B=[104,105]:=⟨_,rfl⟩
  rw[← hB] at c4;have hs:(⟨B.toArray⟩:ByteArray)=⟨#[104,105]⟩:=by rw[hB]
  clear hB;generalize bH (aZ []) (List.replicate 16 0)=K at *
  clear r1 r2 r3 r4 s1 s2 s3 e;rw[jn] at c1 c2;rw[jn,jn] at c3 c4;generalize rH true K=S1 at *
  generalize rI true K=S2 at *
  generalize rH false K=S3 at *
  generalize rI false K=S4 at *
  simp only[sW,ah,ae,aa,seval,iteOmega,toNatUp];refine aI c1 (by simp only[ae,aa,seval,iteOmega,toNatUp,jk] <;> rfl) (.inl rfl) ?_;simp only[ae,aa,seval,iteOmega,toNatUp];refine aI c2 (by simp only[ae,aa,seval,iteOmega,toNatUp,jk] <;> rfl) (.inl rfl) ?_;simp only[ae,aa,seval,iteOmega,toNatUp];refine aI c3 (by simp only[ae,aa,seval,iteOmega,toNatUp] <;> rfl) (.inl rfl) ?_;simp only[ae,aa,seval,iteOmega,toNatUp];refine sC (c4) ?_;simp only[s4,hs,lI,ae,aa,seval,iteOmega,toNatUp];exact a7
end Go.Proofs.YtbkhllchjbjhgaaDoor
