/- Texts of one's own, merged: from: Layer 6 on data: tags,sealed bytes,opened ones; both codes. Own work. -/
import Derived.Shelf.Abstract
import Derived.Test.YtlghfnidknfakaaGreatDoorMg112
import Derived.Test.YtlghfnidknfakaaGreatDoorMg110
import Derived.Test.YtlghfnidknfakaaGreatDoorMg113
import Derived.Test.YtlghfnidknfakaaGreatDoorMg17
set_option linter.unusedVariables false
set_option linter.unusedSimpArgs false
namespace Go.Proofs.YtlghfnidknfakaaGreatDoor
open Go.RowKit IntWalk
set_option maxHeartbeats 1600000
def j9 (tag:List UInt8):List UInt8:=(tag.set 8 (kX (tag.getD 8 0) 127)).set 12 (kX (tag.getD 12 0) 127)
theorem v5 (tag:List UInt8):(j9 tag).length=tag.length:=by unfold j9; rw[XQ,XQ]
def cG (key:List UInt8) (ad:List (List UInt8)) (b:List UInt8):List UInt8:=iT (aP (key.take 16)) (ad++[b])
theorem ku (key:List UInt8) (ad:List (List UInt8)) (b:List UInt8):(cG key ad b).length=16:=O3 _ _
def eK (key tag b:List UInt8):List UInt8:=ft (aP (key.drop 16)) (j9 tag) b
theorem q7 (key tag b:List UInt8):(eK key tag b).length=b.length:=qC _ _ _
def iQ (l:List (List UInt8)):Bool:=l.any fun x=>decide (65519<x.length)
def dc (key:List UInt8) (ad:List (List UInt8)) (n:Int):Int:=if key.length≠32 then 5 else if 16<ad.length then 8 else if iQ ad=true∨65519<n then 2 else 0
def nU (key:List UInt8) (ad:List (List UInt8)) (b:List UInt8):List UInt8:=if dc key ad b.length=0 then cG key ad b else []
def gL (key:List UInt8) (ad:List (List UInt8)) (b:List UInt8):List UInt8:=if dc key ad b.length=0 then cG key ad b++eK key (cG key ad b) b else []
def nV (key:List UInt8) (ad:List (List UInt8)) (s:List UInt8):Int :=
  if dc key ad ((s.length:Int)-16)≠0 then dc key ad ((s.length:Int)-16) else if s.length<16 then 1 else if s.take 16=cG key ad (eK key (s.take 16) (s.drop 16)) then 0 else 6
def zz (key:List UInt8) (ad:List (List UInt8)) (s:List UInt8):List UInt8:=if nV key ad s=0 then eK key (s.take 16) (s.drop 16) else []
theorem NE {l:List (List UInt8)} (h:iQ l=false):∀ x∈l,x.length≤65519:=by
  unfold iQ at h;rw[XB] at h;intro x hx
  simpa using h x hx
theorem I6 {key:List UInt8} {ad:List (List UInt8)} {n:Int} (h:dc key ad n=0):key.length=32∧ad.length≤16∧iQ ad=false∧n≤65519:=by
  unfold dc at h;split at h
  ·cases h
  ·split at h
   ·cases h
   ·split at h
    ·cases h
    ·rename_i h1 h2 h3;cases hl:iQ ad
     ·exact⟨by omega,by omega,rfl,by omega⟩
     ·exact absurd (.inl hl) h3
theorem GK (key:List UInt8) (ad:List (List UInt8)) (n:Int):dc key ad n=0∨dc key ad n=5∨dc key ad n=8∨dc key ad n=2:=by
  unfold dc;split
  ·exact .inr (.inl rfl)
  ·split
   ·exact .inr (.inr (.inl rfl))
   ·split
    ·exact .inr (.inr (.inr rfl))
    ·exact .inl rfl
theorem Re {k:List UInt8} {l:List (List UInt8)} (h:k.length=16) (hn:l.length≤17) (hl:∀ x∈l,x.length≤65535):zx k l=iT (aP k) l∧tU k l=0:=by
  have:ji l=false:=by
    unfold ji;rw[XB];intro x hx;have:=hl x hx
    simpa using this
  refine⟨if_pos ⟨h,hn,this⟩,?_⟩;unfold tU;rw[if_neg (by omega),if_neg (by omega),this,if_neg (by simp)]
theorem NF {k c b:List UInt8} (h:k.length=16) (hc:c.length=16) (hb:b.length≤65535):s7 k c b=ft (aP k) c b∧jj k c b=0:=by
  refine⟨if_pos ⟨h,hc,hb⟩,?_⟩;unfold jj;rw[if_neg (by omega),if_neg (by omega),if_neg (by omega)]
theorem I7 {ad:List (List UInt8)} {b:List UInt8} (h:iQ ad=false) (hb:b.length≤65519):∀ x∈ad++[b],x.length≤65535:=by
  intro x hx;rcases WO.1 hx with hx | hx
  ·have:=NE h x hx; omega
  ·simp only[WG] at hx; subst hx; omega
def w8:aE:=⟨1,6,.seq (.reg [oO 2 (.mv (.k (.c (.d (.bool false)))))]) (.seq (.reg [oM 3 0,oO 4 (.len (.t 3)),oO 5 (.bin .gtr (.t 4) (kI 65519)),oM 2 5]) (.ret)),[(2,none)]⟩
theorem Rf:aC Tryz.prog { own:=[],comp:=[],frz:=[],nils:=[] } Tryz.f134=some w8:=by kernel_rfl
theorem Tv (G:ah) (x:List UInt8) (hx:x.length≤9223372036854775807):kT Tryz.prog G 134 [] [.sl (x.map bD)] (.w (.c (.d (.bool (decide (65519<x.length)))))):=by
  refine⟨enters_of Tryz.func134 (by kernel_rfl) rfl,?_⟩;refine aG Tryz.func134 Rf rfl rfl ?_;by_cases h:65519<x.length
  ·have hd:decide (65519<x.length)=true:=decide_eq_true h;rw[hd];simp only[w8,af,ae,aa,seval,iteOmega,toNatUp];exact aI
  ·have hd:decide (65519<x.length)=false:=decide_eq_false h;rw[hd];simp only[w8,af,ae,aa,seval,iteOmega,toNatUp];exact aI
def nc:aE:=⟨3,21,.seq (.reg [oO 6 (.mv (kI 0))]) (.seq (.seq (.reg [oM 8 0,oO 9 (.len (.t 8)),oO 10 (.bin .neq (.t 9) (kI 32))]) (.cond (.t 10) (.seq (.reg [oO 6 (.mv (kI 5))]) (.ret)) (.skip))) (.seq (.seq (.reg [oM 11 1,oO 12 (.len (.t 11)),oO 13 (.bin .gtr (.t 12) (kI 16))]) (.cond (.t 13) (.seq (.reg [oO 6 (.mv (kI 8))]) (.ret)) (.skip))) (.seq (.reg [oO 7 (.mv (.k (.c (.d (.fn 134 [])))))]) (.seq (.seq (.reg [oM 14 1,oM 15 7,oO 16 (.call 135 [(.t 14),(.t 15)] none),oM 17 16,oG 18 (.mv (.t 2)) 17 false,oG 19 (.bin .gtr (.t 18) (kI 65519)) 17 false,oO 20 (.pick (.t 17) (.k (.c (.d (.bool true)))) (.t 19))]) (.cond (.t 20) (.seq (.reg [oO 6 (.mv (kI 2))]) (.ret)) (.skip))) (.seq (.reg [oO 6 (.mv (kI 0))]) (.ret)))))),[(6,none)]⟩
theorem Tw:aC Tryz.prog { own:=[],comp:=[],frz:=[],nils:=[] } Tryz.f121=some nc:=by kernel_rfl
theorem Vo (G:ah) (key:List UInt8) (ad:List (List UInt8)) (n:Int) (hk:key.length≤9223372036854775807) (hl:ad.length≤9223372036854775807) (hb:∀ x∈ad,x.length≤9223372036854775807):ak Tryz.prog G 121 [.sl (key.map bD),cT ad,.int .i64 n] (.w (.c (.d (.int .i64 (dc key ad n))))):=by
  refine aG Tryz.func121 Tw rfl rfl ?_;have hc:=SS G ad 134 [] (fun x=>decide (65519<x.length)) hl (fun x hx=>Tv G x (hb x hx));have hL:(ad.any fun x=>decide (65519<x.length))=iQ ad:=rfl;rw[hL] at hc;unfold dc;by_cases h:key.length=32
  ·rw[if_neg (by omega)];by_cases h2:16<ad.length
   ·rw[if_pos h2];simp only[nc,af,ae,aa,seval,iteOmega,toNatUp];exact aI
   ·rw[if_neg h2];cases hl:iQ ad
    ·rw[hl] at hc;by_cases h3:65519<n
     ·rw[if_pos (.inr h3)];simp only[nc,af,ae,aa,seval,iteOmega,toNatUp];refine sD (hc) ?_;exact aI
     ·rw[if_neg (by simp; omega)];simp only[nc,af,ae,aa,seval,iteOmega,toNatUp];refine sD (hc) ?_;exact aI
    ·rw[hl] at hc;rw[if_pos (.inl rfl)];simp only[nc,af,ae,aa,seval,iteOmega,toNatUp];refine sD (hc) ?_;exact aI
  ·rw[if_pos h];simp only[nc,af,ae,aa,seval,iteOmega,toNatUp];exact aI
def GL:aE:=⟨3,23,.seq (.reg [oO 6 (.mv (.k (.c .nil)))]) (.seq (.reg [oM 10 1,oM 11 2,oO 12 (.bldSl false 1 1 (.sl []) [(0,(.t 11))]),oO 13 (.bldSl false 2 1 (.sl []) [(0,(.t 10)),(1,(.t 12))]),oO 14 (.call 138 [(.t 13)] none),oM 7 14]) (.seq (.reg [oM 16 0,oO 17 (.slice 1 (.t 16) none (some (kI 16)) none),oM 18 7,oO 19 (.call 139 [(.t 17),(.t 18)] (some (0,1))),oM 15 19,oO 20 (.extract (.t 15) 0),oO 21 (.extract (.t 15) 1),oM 8 20,oM 9 21]) (.seq (.reg [oM 22 8,oM 6 22]) (.ret)))),[(6,none)]⟩
theorem Rh:aC Tryz.prog { own:=[],comp:=[(19,0)],frz:=[],nils:=[] } Tryz.f123=some GL:=by kernel_rfl
theorem Tx (G:ah) (key:List UInt8) (ad:List (List UInt8)) (b:List UInt8) (h:key.length=32) (hn:ad.length≤16) (hl:iQ ad=false) (hb:b.length≤65519):ak Tryz.prog G 123 [.sl (key.map bD),cT ad,.sl (b.map bD)] (.w (.c (.fr 1 ((cG key ad b).map bD)))):=by
  refine aG Tryz.func123 Rh rfl rfl ?_;have hf:[ad,[b]].flatten=ad++[b]:=by simp
  have hc:=SV G [ad,[b]] (by simp) (by rw[hf]; simp; omega);rw[hf] at hc;have hk:(key.take 16).length=16:=by rw[WF]; omega
  obtain⟨v1,v2⟩:=Re (l:=ad++[b]) hk (by simp; omega) (I7 hl hb);have hv:=Tq G (key.take 16) (ad++[b]) (by omega) (by simp; omega) (fun x hx=>Xi (I7 hl hb x hx) (by decide));rw[v1,v2] at hv;have ht:iT (aP (key.take 16)) (ad++[b])=cG key ad b:=rfl;rw[ht] at hv;simp only[GL,af,ae,aa,seval,iteOmega,toNatUp];refine sD (hc) ?_;refine sD (hv) ?_;exact ew
theorem w9 {tag:List UInt8} (h:tag.length=16) {i:Nat} (hi:i<16):tag[i]?=some (tag.getD i 0):=by
  rw[WB,Wz (by omega)]; rfl
theorem Ri {tag:List UInt8} (h:tag.length=16) (x:UInt8):(tag.set 8 x)[12]?=some (tag.getD 12 0):=by
  rw[List.getElem?_set_ne (by decide),w9 h (by decide)]
def I8:aE:=⟨1,18,.seq (.reg [oO 2 (.mv (.k (.c .nil)))]) (.seq (.reg [oM 4 0,oO 5 (.bldSl false 1 1 (.sl []) [(0,(.t 4))]),oO 6 (.call 90 [(.t 5)] (some (0,1))),oM 3 6]) (.seq (.reg [oM 7 3,oO 8 (.idxSl 1 (.t 7) (kI 8)),oO 9 (.load .sc (.t 8)),oO 10 (.bin .and (.t 9) (.k (.c (.d (.int .u8 127))))),oO 11 (.idxSl 1 (.t 7) (kI 8)),oN (.store .sc (.t 11) (.t 10))]) (.seq (.reg [oM 12 3,oO 13 (.idxSl 1 (.t 12) (kI 12)),oO 14 (.load .sc (.t 13)),oO 15 (.bin .and (.t 14) (.k (.c (.d (.int .u8 127))))),oO 16 (.idxSl 1 (.t 12) (kI 12)),oN (.store .sc (.t 16) (.t 15))]) (.seq (.reg [oM 17 3,oM 2 17]) (.ret))))),[(2,none)]⟩
theorem Ty:aC Tryz.prog { own:=[6],comp:=[],frz:=[],nils:=[] } Tryz.f137=some I8:=by kernel_rfl
theorem Vp (G:ah) (tag:List UInt8) (h:tag.length=16):ak Tryz.prog G 137 [.sl (tag.map bD)] (.w (.c (.fr 1 ((j9 tag).map bD)))):=by
  refine aG Tryz.func137 Ty rfl rfl ?_;have hj:=fo G [tag] (by simp) (by simp; omega);have hf:[tag].flatten=tag:=by simp
  rw[hf] at hj;have g1:=w9 h (i:=8) (by decide);have g2:=w9 h (i:=12) (by decide);have g3:=Ri h (kX (tag.getD 8 0) 127);have x1:=IB (tag.getD 8 0) 127 127 rfl;have x2:=IB (tag.getD 12 0) 127 127 rfl;have hs:(tag.set 8 (kX (tag.getD 8 0) 127)).set 12 (kX (tag.getD 12 0) 127)=j9 tag:=rfl;simp only[I8,af,ae,aa,seval,iteOmega,toNatUp];refine sC (hj) ?_;simp only[aJ,g1,g2,g3,x1,x2,wK,hs,ae,aa,seval,iteOmega,toNatUp];exact IA (by simp only[ae,aa,seval,iteOmega,toNatUp,v5])
theorem Vq (G:ah) (tag:List UInt8) (h:tag.length=16):ak Tryz.prog G 137 [.sl (tag.map bD)] (.w (.c (.d (.sl ((j9 tag).map bD))))):=kH (Vp G tag h)
def GM:aE:=⟨3,19,.seq (.reg [oO 6 (.mv (.k (.c .nil)))]) (.seq (.reg [oM 10 0,oO 11 (.slice 1 (.t 10) (some (kI 16)) none none),oM 12 1,oO 13 (.call 137 [(.t 12)] none),oM 14 2,oO 15 (.call 136 [(.t 11),(.t 13),(.t 14)] (some (0,1))),oM 9 15,oO 16 (.extract (.t 9) 0),oO 17 (.extract (.t 9) 1),oM 7 16,oM 8 17]) (.seq (.reg [oM 18 7,oM 6 18]) (.ret))),[(6,none)]⟩
theorem Rj:aC Tryz.prog { own:=[],comp:=[(15,0)],frz:=[],nils:=[] } Tryz.f122=some GM:=by kernel_rfl
theorem Tz (G:ah) (key tag b:List UInt8) (h:key.length=32) (ht:tag.length=16) (hb:b.length≤65535):ak Tryz.prog G 122 [.sl (key.map bD),.sl (tag.map bD),.sl (b.map bD)] (.w (.c (.fr 1 ((eK key tag b).map bD)))):=by
  refine aG Tryz.func122 Rj rfl rfl ?_;have hk:(key.drop 16).length=16:=by rw[WL]; omega
  have hk2:(key.drop 16).take 16=key.drop 16:=WE (by omega);obtain⟨v1,v2⟩:=NF (c:=j9 tag) (b:=b) hk (by rw[v5]; exact ht) hb;have hv:=Vm G (key.drop 16) (j9 tag) b (by omega) (by rw[v5]; omega) (by omega);rw[v1,v2] at hv;have hs:ft (aP (key.drop 16)) (j9 tag) b=eK key tag b:=rfl;rw[hs] at hv;simp only[GM,af,ae,aa,seval,iteOmega,toNatUp,h];refine sC (Vq G tag ht) ?_;simp only[hk2,ae,aa,seval,iteOmega,toNatUp];refine sD (hv) ?_;exact ew
theorem TA (G:ah) (key tag b:List UInt8) (h:key.length=32) (ht:tag.length=16) (hb:b.length≤65535):ak Tryz.prog G 122 [.sl (key.map bD),.sl (tag.map bD),.sl (b.map bD)] (.w (.c (.d (.sl ((eK key tag b).map bD))))):=kH (Tz G key tag b h ht hb)
def xO:aE:=⟨3,21,.seq (.reg [oO 6 (.mv (.k (.c .nil))),oO 7 (.mv (kI 0))]) (.seq (.seq (.reg [oM 9 0,oM 10 1,oM 11 2,oO 12 (.len (.t 11)),oO 13 (.call 121 [(.t 9),(.t 10),(.t 12)] none),oM 8 13]) (.seq (.reg [oM 14 8,oO 15 (.bin .neq (.t 14) (kI 0))]) (.cond (.t 15) (.seq (.reg [oM 16 8,oO 6 (.mv (.k (.c .nil))),oM 7 16]) (.ret)) (.skip)))) (.seq (.reg [oM 17 0,oM 18 1,oM 19 2,oO 20 (.call 123 [(.t 17),(.t 18),(.t 19)] (some (0,1))),oM 6 20,oO 7 (.mv (kI 0))]) (.ret))),[(6,none),(7,none)]⟩
theorem TB:aC Tryz.prog { own:=[20],comp:=[],frz:=[],nils:=[] } Tryz.f125=some xO:=by kernel_rfl
theorem Vr (G:ah) (key:List UInt8) (ad:List (List UInt8)) (b:List UInt8) (hk:key.length≤9223372036854775807) (hl:ad.length≤9223372036854775807) (hx:∀ x∈ad,x.length≤9223372036854775807) (hb:b.length≤9223372036854775807):ak Tryz.prog G 125 [.sl (key.map bD),cT ad,.sl (b.map bD)] (.tup [.c (.fr 1 ((nU key ad b).map bD)),.c (.d (.int .i64 (dc key ad b.length)))]):=by
  refine aG Tryz.func125 TB rfl rfl ?_;have hc:=Vo G key ad (b.length:Int) hk hl hx;by_cases he:dc key ad (b.length:Int)=0
  ·have hv:nU key ad b=cG key ad b:=if_pos he;obtain⟨k1,k2,k3,k4⟩:=I6 he;rw[he] at hc ⊢;rw[hv];simp only[xO,af,ae,aa,seval,iteOmega,toNatUp];refine sD (hc) ?_;refine sD (Tx G key ad b k1 k2 k3 (by omega)) ?_;exact dr
  ·have hv:nU key ad b=[]:=if_neg he;rw[hv];have hne:dc key ad (b.length:Int)=0↔False:=⟨he,False.elim⟩
   rcases GK key ad b.length with e | e | e | e
   ·exact absurd e he
   all_goals
     rw[e] at hc ⊢;simp only[xO,af,ae,aa,seval,iteOmega,toNatUp];refine bi hc rfl (.inl rfl) ?_;simp only[ae,aa,seval,iteOmega,toNatUp];exact dr
theorem Vs (G:ah) (key:List UInt8) (ad:List (List UInt8)) (b:List UInt8) (hk:key.length≤9223372036854775807) (hl:ad.length≤9223372036854775807) (hx:∀ x∈ad,x.length≤9223372036854775807) (hb:b.length≤9223372036854775807):ak Tryz.prog G 125 [.sl (key.map bD),cT ad,.sl (b.map bD)] (.tup [.c (.d (.sl ((nU key ad b).map bD))),.c (.d (.int .i64 (dc key ad b.length)))]):=pb (Vr G key ad b hk hl hx hb)
def xa:aE:=⟨3,27,.seq (.reg [oO 6 (.mv (.k (.c .nil))),oO 7 (.mv (kI 0))]) (.seq (.reg [oM 11 0,oM 12 1,oM 13 2,oO 14 (.call 125 [(.t 11),(.t 12),(.t 13)] none),oM 10 14,oO 15 (.extract (.t 10) 0),oO 16 (.extract (.t 10) 1),oM 8 15,oM 9 16]) (.seq (.seq (.reg [oM 17 9,oO 18 (.bin .neq (.t 17) (kI 0))]) (.cond (.t 18) (.seq (.reg [oM 19 9,oO 6 (.mv (.k (.c .nil))),oM 7 19]) (.ret)) (.skip))) (.seq (.reg [oM 20 8,oM 21 0,oM 22 8,oM 23 2,oO 24 (.call 122 [(.t 21),(.t 22),(.t 23)] none),oO 25 (.bldSl false 2 1 (.sl []) [(0,(.t 20)),(1,(.t 24))]),oO 26 (.call 90 [(.t 25)] (some (0,1))),oM 6 26,oO 7 (.mv (kI 0))]) (.ret)))),[(6,none),(7,none)]⟩
theorem Rk:aC Tryz.prog { own:=[26],comp:=[],frz:=[],nils:=[] } Tryz.f92=some xa:=by kernel_rfl
theorem TC (G:ah) (key:List UInt8) (ad:List (List UInt8)) (b:List UInt8) (hk:key.length≤9223372036854775807) (hl:ad.length≤9223372036854775807) (hx:∀ x∈ad,x.length≤9223372036854775807) (hb:b.length≤9223372036854775807):ak Tryz.prog G 92 [.sl (key.map bD),cT ad,.sl (b.map bD)] (.tup [.c (.fr 1 ((gL key ad b).map bD)),.c (.d (.int .i64 (dc key ad b.length)))]):=by
  refine aG Tryz.func92 Rk rfl rfl ?_;have hc:=Vs G key ad b hk hl hx hb;by_cases he:dc key ad (b.length:Int)=0
  ·have hv:nU key ad b=cG key ad b:=if_pos he;have hv2:gL key ad b=cG key ad b++eK key (cG key ad b) b:=if_pos he;obtain⟨k1,k2,k3,k4⟩:=I6 he;have hj:=fo G [cG key ad b,eK key (cG key ad b) b] (by simp) (by simp[ku,q7]; omega);have hf:[cG key ad b,eK key (cG key ad b) b].flatten=cG key ad b++eK key (cG key ad b) b:=by simp
   rw[hf] at hj;rw[he,hv] at hc;rw[he,hv2];simp only[xa,af,ae,aa,seval,iteOmega,toNatUp];refine sD (hc) ?_;refine sD (TA G key (cG key ad b) b k1 (ku _ _ _) (by omega)) ?_;refine sD (hj) ?_;exact dr
  ·have hv:nU key ad b=[]:=if_neg he;have hv2:gL key ad b=[]:=if_neg he;rw[hv] at hc;rw[hv2];rcases GK key ad b.length with e | e | e | e
   ·exact absurd e he
   all_goals
     rw[e] at hc ⊢;simp only[xa,af,ae,aa,seval,iteOmega,toNatUp];refine bi hc rfl (.inl rfl) ?_;simp only[ae,aa,seval,iteOmega,toNatUp];exact dr
theorem TD (G:ah) (key:List UInt8) (ad:List (List UInt8)) (b:List UInt8) (hk:key.length≤9223372036854775807) (hl:ad.length≤9223372036854775807) (hx:∀ x∈ad,x.length≤9223372036854775807) (hb:b.length≤9223372036854775807):ak Tryz.prog G 92 [.sl (key.map bD),cT ad,.sl (b.map bD)] (.tup [.c (.d (.sl ((gL key ad b).map bD))),.c (.d (.int .i64 (dc key ad b.length)))]):=pb (TC G key ad b hk hl hx hb)
theorem TE {key:List UInt8} {ad:List (List UInt8)} {s:List UInt8} (h:dc key ad ((s.length:Int)-16)=0) (hs:¬ s.length<16) (ht:s.take 16=cG key ad (eK key (s.take 16) (s.drop 16))):nV key ad s=0∧zz key ad s=eK key (s.take 16) (s.drop 16):=by
  have:nV key ad s=0:=by unfold nV; rw[if_neg (by simp[h]),if_neg hs,if_pos ht]
  exact⟨this,if_pos this⟩
theorem Ez {key:List UInt8} {ad:List (List UInt8)} {n:Int} (h:key.length=32) (h2:ad.length≤16) (h3:∀ x∈ad,x.length≤65519) (h4:n≤65519):dc key ad n=0:=by
  have:iQ ad=false:=by
    unfold iQ;rw[XB];intro x hx;have:=h3 x hx
    simpa using this
  unfold dc;rw[if_neg (by omega),if_neg (by omega),if_neg (by rw[this]; simp; omega)]
theorem AH (key tag b:List UInt8):eK key tag (eK key tag b)=b:=LV _ _ _
theorem v6 {key b:List UInt8} {ad:List (List UInt8)} (h:dc key ad b.length=0):gL key ad b=cG key ad b++eK key (cG key ad b) b:=if_pos h
theorem B5 {key b:List UInt8} {ad:List (List UInt8)} (T:List UInt8):(cG key ad b++T).take 16=cG key ad b:=by
  rw[List.take_append_of_le_length (by rw[ku]; exact WM _),WE (by rw[ku]; exact WM _)]
theorem B8 {key b:List UInt8} {ad:List (List UInt8)} (T:List UInt8):(cG key ad b++T).drop 16=T:=by
  have:=List.drop_left (l₁:=cG key ad b) (l₂:=T);rw[ku] at this;exact this
theorem Po {key b:List UInt8} {ad:List (List UInt8)} (h:dc key ad b.length=0):nV key ad (cG key ad b++eK key (cG key ad b) b)=0∧zz key ad (cG key ad b++eK key (cG key ad b) b)=b:=by
  have hl:(cG key ad b++eK key (cG key ad b) b).length=16+b.length:=by rw[WA,ku,q7]
  have he:dc key ad (((cG key ad b++eK key (cG key ad b) b).length:Int)-16)=0:=by rw[hl,show ((16+b.length:Nat):Int)-16=(b.length:Int) by omega]; exact h
  obtain⟨e1,e2⟩:=TE he (by omega) (by rw[B5,B8,AH]);refine⟨e1,?_⟩;rw[e2,B5,B8,AH]
def pN:List UInt8:=[115,101,99,116,105,109,101,32,117,112]
def pO:List UInt8:=[115,101,99,116,105,109,101,32,100,111,119,110]
def nG:List UInt8:=[115,101,99,116,105,109,101,32,101,120,112,111,114,116]
structure Ch where
  cl:Bool
  se:List UInt8
  sk:List UInt8
  rk:List UInt8
  n:Int
  m:Int
def bB (c:Ch):D:=.agg [.bool c.cl,.sl (c.se.map bD),.sl (c.sk.map bD),.sl (c.rk.map bD),.int .i64 c.n,.int .i64 c.m]
def kh (K:List UInt8):List UInt8:=gA K pN 32
def lh (K:List UInt8):List UInt8:=gA K pO 32
def cA (cl:Bool) (K:List UInt8) (n m:Int):Ch:=⟨cl,K,bif cl then kh K else lh K,bif cl then lh K else kh K,n,m⟩
def qf:Ch:=⟨false,[],[],[],0,0⟩
def dA (c:Ch):Prop:=c.se.length=32∧(0≤c.n∧c.n≤1099511627776)∧(0≤c.m∧c.m≤1099511627776)∧c.sk=(bif c.cl then kh c.se else lh c.se)∧c.rk=(bif c.cl then lh c.se else kh c.se)
instance (c:Ch):Decidable (dA c):=by unfold dA; exact inferInstance
def oc (s:List UInt8):Int:=if s.length<16∨65535<s.length then 5 else 0
def od (cl:Bool) (s h:List UInt8):Ch:=if oc s=0 then cA cl (gz (cg h) s) 0 0 else qf
def Lw (c:Ch) (n:Int):Int:=if dA c then lf n else 3
def tV (c:Ch) (l x:List UInt8) (n:Int):List UInt8:=if dA c then iu c.se (ka nG l x) n else []
theorem Lh {cl:Bool} {K:List UInt8} {n m:Int} (h:K.length=32) (h1:0≤n∧n≤1099511627776) (h2:0≤m∧m≤1099511627776):dA (cA cl K n m):=⟨h,h1,h2,rfl,rfl⟩
def ud:ByteArray:=⟨#[115,101,99,116,105,109,101,32,117,112]⟩
def ue:ByteArray:=⟨#[115,101,99,116,105,109,101,32,100,111,119,110]⟩
def qh (K:List UInt8):Nat→List D
  | 0=>[.sl [],.sl []]
  | 1=>[.sl ((kh K).map bD),.sl []]
  | _=>[.sl ((kh K).map bD),.sl ((lh K).map bD)]
def qa (cl:Bool) (K:List UInt8) (i:Nat):St:=⟨aQ [(0,.w (.c (.d (.bool cl)))),(1,.w (.c (.d (.sl (K.map bD))))),(7,.w (.c (.pa 1 1))),(11,.w (.c (.d (.agg [.str ud,.str ue])))),(12,.w (.c (.d (.int .i64 (i:Int)))))],hL [(1,.row 1 (qh K i))],uL [1]⟩
def o6:aM := .seq (.reg [oO 13 (.bin .lss (.t 12) (kI 2))]) (.seq (.cond (.t 13) (.skip) (.exit 0)) (.seq (.block 1 (.seq (.reg [oM 14 12,oO 15 (.idxArr 1 2 .sc (.t 11) (.t 12)),oM 8 14,oM 9 15]) (.reg [oM 17 8,oM 18 1,oM 19 9,oO 20 (.s2b false (.t 19)),oO 21 (.call 128 [(.t 18),(.t 20),(kI 32)] none),oM 16 21,oO 22 (.extract (.t 16) 0),oO 23 (.extract (.t 16) 1),oO 24 (.idxPa 1 2 (.t 7) (.t 17)),oN (.store .sc (.t 24) (.t 22))]))) (.reg [oO 25 (.bin .add (.t 12) (kI 1)),oM 12 25])))
def Jz:aE:=⟨2,35,.seq (.reg [oO 4 (.mv (.k (.c .nil))),oO 5 (.mv (.k (.c .nil)))]) (.seq (.reg [oO 10 (.build [(.d (.str ⟨#[]⟩)),(.d (.str ⟨#[]⟩))] [(0,1,(.k (.c (.d (.str ⟨#[115,101,99,116,105,109,101,32,117,112]⟩))))),(1,1,(.k (.c (.d (.str ⟨#[115,101,99,116,105,109,101,32,100,111,119,110]⟩)))))]),oO 6 (.allocArr [(.str ⟨#[]⟩),(.str ⟨#[]⟩)]),oN (.store (.ag 2) (.t 6) (.t 10))]) (.seq (.reg [oO 7 (.allocArr [(.sl []),(.sl [])])]) (.seq (.seq (.reg [oO 11 (.load (.ag 2) (.t 6)),oO 12 (.mv (kI 0))]) (.block 0 (.loop o6))) (.seq (.seq (.reg [oM 26 0]) (.cond (.t 26) (.seq (.reg [oO 27 (.idxPa 1 2 (.t 7) (kI 0)),oO 28 (.load .sc (.t 27)),oO 29 (.idxPa 1 2 (.t 7) (kI 1)),oO 30 (.load .sc (.t 29)),oM 4 28,oM 5 30]) (.ret)) (.skip))) (.seq (.reg [oO 31 (.idxPa 1 2 (.t 7) (kI 1)),oO 32 (.load .sc (.t 31)),
 oO 33 (.idxPa 1 2 (.t 7) (kI 0)),oO 34 (.load .sc (.t 33)),oM 4 32,oM 5 34]) (.ret)))))),[(4,none),(5,none)]⟩
theorem T3:aC Tryz.prog { own:=[],comp:=[],frz:=[],nils:=[] } Tryz.f103=some Jz:=by kernel_rfl
theorem VF (G:ah) (hF:G.at 0=some (.ra (cU.map wD))) (hG:G.at 1=some (.ra (bF.map wD))) (cl:Bool) (K:List UInt8) (hK:K.length≤140737488355328):ak Tryz.prog G 103 [.bool cl,.sl (K.map bD)] (.tup [.c (.d (.sl ((cA cl K 0 0).sk.map bD))),.c (.d (.sl ((cA cl K 0 0).rk.map bD)))]):=by
  refine aG Tryz.func103 T3 rfl rfl ?_;have s1:ud.size≤maxLen:=by unfold maxLen; decide
  have s2:ue.size≤maxLen:=by unfold maxLen; decide
  have c1:=yS G hF hG K ud.data.toList hK (by decide) 32 (by decide) (by decide);have c2:=yS G hF hG K ue.data.toList hK (by decide) 32 (by decide) (by decide);rw[show iu K ud.data.toList 32=kh K from kB K pN (by decide),lF (by decide)] at c1;rw[show iu K ue.data.toList 32=lh K from kB K pO (by decide),lF (by decide)] at c2;simp only[Jz,af,ae,aa,seval,iteOmega,toNatUp];refine ba (qa cl K) (fun i=>2-i) (fun i=>i≤2) 0 (by decide) ?_ ?_
  ·refine aw (fun i=>56) ?_ ?_ rfl rfl <;> simp only[wx,am,aH,aa,seval,iteOmega,toNatUp] <;> first | rfl | exact⟨rfl,rfl⟩ | skip
  ·intro i hi;have h3:i=0∨i=1∨i=2:=by omega
   rcases h3 with rfl | rfl | rfl
   ·simp only[o6,qa,qh,ae,aa,seval,iteOmega,toNatUp,s1];refine sD (c1) ?_;refine aS 1 (by decide) (by decide) (aw (fun i=>i) ?_ ?_ rfl rfl) <;> simp only[wx,am,aH,aa,seval,iteOmega,toNatUp] <;> first | rfl | exact⟨rfl,rfl⟩ | skip
   ·simp only[o6,qa,qh,ae,aa,seval,iteOmega,toNatUp,s2];refine sD (c2) ?_;refine aS 2 (by decide) (by decide) (aw (fun i=>i) ?_ ?_ rfl rfl) <;> simp only[wx,am,aH,aa,seval,iteOmega,toNatUp] <;> first | rfl | exact⟨rfl,rfl⟩ | skip
   ·unfold cA;cases cl
    ·rw[cond_false,cond_false];simp only[o6,qa,qh,ae,aa,seval,iteOmega,toNatUp];exact aO
    ·rw[cond_true,cond_true];simp only[o6,qa,qh,ae,aa,seval,iteOmega,toNatUp];exact aO
def mn (n:Int):Bool:=decide (0≤n∧n≤1099511627776)
def sA:aE:=⟨1,9,.seq (.reg [oO 2 (.mv (.k (.c (.d (.bool false)))))]) (.seq (.reg [oM 3 0,oO 4 (.bin .leq (kI 0) (.t 3)),oM 5 4,oG 6 (.mv (.t 0)) 5 true,oG 7 (.bin .leq (.t 6) (kI 1099511627776)) 5 true,oO 8 (.pick (.t 5) (.t 7) (.k (.c (.d (.bool false))))),oM 2 8]) (.ret)),[(2,none)]⟩
theorem T4:aC Tryz.prog { own:=[],comp:=[],frz:=[],nils:=[] } Tryz.f102=some sA:=by kernel_rfl
theorem KI (G:ah) (n:Int):ak Tryz.prog G 102 [.int .i64 n] (.w (.c (.d (.bool (mn n))))):=by
  refine aG Tryz.func102 T4 rfl rfl ?_;unfold mn;by_cases h1:0≤n
  ·have g1:(0≤n)=True:=eq_true h1;by_cases h2:n≤1099511627776
   ·have g2:(n≤1099511627776)=True:=eq_true h2;rw[decide_eq_true (And.intro h1 h2)];simp only[sA,af,ae,aa,seval,iteOmega,toNatUp,g1,g2];exact aI
   ·have g2:(n≤1099511627776)=False:=eq_false h2;rw[decide_eq_false (fun h=>h2 h.2)];simp only[sA,af,ae,aa,seval,iteOmega,toNatUp,g1,g2];exact aI
  ·have g1:(0≤n)=False:=eq_false h1;rw[decide_eq_false (fun h=>h1 h.1)];simp only[sA,af,ae,aa,seval,iteOmega,toNatUp,g1];exact aI
theorem Wt (c:Ch):decide (dA c)=(decide (c.se.length=32)&&mn c.n&&mn c.m&&(c.sk==(cA c.cl c.se 0 0).sk)&&(c.rk==(cA c.cl c.se 0 0).rk)):=by
  rw[Bool.eq_iff_iff];unfold dA mn cA;simp only[decide_eq_true_eq,WX,beq_iff_eq,and_assoc]
def nj:aE:=⟨1,39,.seq (.reg [oO 1 (.box .roBox (.t 0)),oO 2 (.mv (.k (.c (.d (.bool false)))))]) (.seq (.seq (.reg [oO 5 (.fieldAddr 1 (.t 1)),oO 6 (.load .sc (.t 5)),oO 7 (.len (.t 6)),oO 8 (.bin .neq (.t 7) (kI 32)),oM 9 8,oG 10 (.fieldAddr 4 (.t 1)) 9 false,oG 11 (.load .sc (.t 10)) 9 false,oG 12 (.call 102 [(.t 11)] none) 9 false,oG 13 (.un .not (.t 12)) 9 false,oO 14 (.pick (.t 9) (.k (.c (.d (.bool true)))) (.t 13)),oM 15 14,oG 16 (.fieldAddr 5 (.t 1)) 15 false,oG 17 (.load .sc (.t 16)) 15 false,oG 18 (.call 102 [(.t 17)] none) 15 false,oG 19 (.un .not (.t 18)) 15 false,oO 20 (.pick (.t 15) (.k (.c (.d (.bool true)))) (.t 19))]) (.cond (.t 20) (.seq (.reg [oO 2 (.mv (.k (.c (.d (.bool false)))))]) (.ret)) (.skip))) (.seq (.reg [oO 22 (.fieldAddr 0 (.t 1)),oO 23 (.load .sc (.t 22)),
 oO 24 (.fieldAddr 1 (.t 1)),oO 25 (.load .sc (.t 24)),oO 26 (.call 103 [(.t 23),(.t 25)] none),oM 21 26,oO 27 (.extract (.t 21) 0),oO 28 (.extract (.t 21) 1),oM 3 27,oM 4 28]) (.seq (.reg [oO 29 (.fieldAddr 2 (.t 1)),oO 30 (.load .sc (.t 29)),oM 31 3,oO 32 (.call 104 [(.t 30),(.t 31)] none),oM 33 32,oG 34 (.fieldAddr 3 (.t 1)) 33 true,oG 35 (.load .sc (.t 34)) 33 true,oG 36 (.mv (.t 4)) 33 true,oG 37 (.call 104 [(.t 35),(.t 36)] none) 33 true,oO 38 (.pick (.t 33) (.t 37) (.k (.c (.d (.bool false))))),oM 2 38]) (.ret)))),[(2,none)]⟩
theorem T5:aC Tryz.prog { own:=[],comp:=[],frz:=[],nils:=[] } Tryz.f62=some nj:=by kernel_rfl
theorem tp (G:ah) (hF:G.at 0=some (.ra (cU.map wD))) (hG:G.at 1=some (.ra (bF.map wD))) (c:Ch):ak Tryz.prog G 62 [bB c] (.w (.c (.d (.bool (decide (dA c)))))):=by
  refine aG Tryz.func62 T5 rfl rfl ?_;rw[Wt];have c1:=KI G c.n;have c2:=KI G c.m;by_cases h:c.se.length=32
  ·have g:(((c.se.length:Nat):Int)=32)=True:=eq_true (by omega);have c3:=VF G hF hG c.cl c.se (by omega);have c4:=xN G c.sk (cA c.cl c.se 0 0).sk;have c5:=xN G c.rk (cA c.cl c.se 0 0).rk;rw[decide_eq_true h];generalize (cA c.cl c.se 0 0).sk=S at *
   generalize (cA c.cl c.se 0 0).rk=R at *
   generalize (c.sk==S)=q1 at *
   generalize (c.rk==R)=q2 at *
   generalize mn c.n=q3 at *
   generalize mn c.m=q4 at *
   unfold bB;cases q3
   ·simp only[nj,af,ae,aa,seval,iteOmega,toNatUp,g];refine sD (c1) ?_;exact aI
   ·cases q4
    ·simp only[nj,af,ae,aa,seval,iteOmega,toNatUp,g];refine sD (c1) ?_;refine sD (c2) ?_;exact aI
    ·cases q1
     ·simp only[nj,af,ae,aa,seval,iteOmega,toNatUp,g];refine sD (c1) ?_;refine sD (c2) ?_;refine sD (c3) ?_;refine sD (c4) ?_;exact aI
     ·simp only[nj,af,ae,aa,seval,iteOmega,toNatUp,g];refine sD (c1) ?_;refine sD (c2) ?_;refine sD (c3) ?_;refine sD (c4) ?_;refine sD (c5) ?_;exact aI
  ·have g:(((c.se.length:Nat):Int)=32)=False:=eq_false (by omega);rw[decide_eq_false h];unfold bB;simp only[nj,af,ae,aa,seval,iteOmega,toNatUp,g];exact aI
def Ly:ByteArray:=⟨#[115,101,99,116,105,109,101,32,101,120,112,111,114,116]⟩
def x7:aE:=⟨4,22,.seq (.reg [oO 4 (.box .roBox (.t 0)),oO 8 (.mv (.k (.c .nil))),oO 9 (.mv (kI 0))]) (.seq (.seq (.reg [oO 10 (.load (.ag 6) (.t 4)),oO 11 (.call 62 [(.t 10)] none),oO 12 (.un .not (.t 11))]) (.cond (.t 12) (.seq (.reg [oO 8 (.mv (.k (.c .nil))),oO 9 (.mv (kI 3))]) (.ret)) (.skip))) (.seq (.reg [oO 13 (.fieldAddr 1 (.t 4)),oO 14 (.load .sc (.t 13)),oM 15 1,oM 16 2,oO 17 (.call 130 [(.k (.c (.d (.str ⟨#[115,101,99,116,105,109,101,32,101,120,112,111,114,116]⟩)))),(.t 15),(.t 16)] none),oM 18 3,oO 19 (.call 128 [(.t 14),(.t 17),(.t 18)] none),oO 20 (.extract (.t 19) 0),oO 21 (.extract (.t 19) 1),oM 8 20,oM 9 21]) (.ret))),[(8,none),(9,none)]⟩
theorem T6:aC Tryz.prog { own:=[],comp:=[],frz:=[],nils:=[] } Tryz.f105=some x7:=by kernel_rfl
theorem VG (G:ah) (hF:G.at 0=some (.ra (cU.map wD))) (hG:G.at 1=some (.ra (bF.map wD))) (c:Ch) (l:ByteArray) (x:List UInt8) (n:Int) (hl:l.size≤1099511627776) (hx:x.length≤140737488355328) (hn1:-9223372036854775808≤n) (hn2:n≤9223372036854775807):ak Tryz.prog G 105 [bB c,.str l,.sl (x.map bD),.int .i64 n] (.tup [.c (.d (.sl ((tV c l.data.toList x n).map bD))),.c (.d (.int .i64 (Lw c n)))]):=by
  refine aG Tryz.func105 T6 rfl rfl ?_;have c1:=tp G hF hG c;unfold tV Lw;by_cases h:dA c
  ·rw[decide_eq_true h] at c1;rw[if_pos h,if_pos h];have c2:=Vw G hF hG Ly l x (by decide) hl hx;rw[show Ly.data.toList=nG from rfl] at c2;have hs:l.data.toList.length=l.size:=rfl;have c3:=yS G hF hG c.se (ka nG l.data.toList x) (by rw[h.1]; decide) (by rw[Pz,hs]; have:nG.length=14:=rfl; omega) n hn1 hn2;generalize ka nG l.data.toList x=L at *
   generalize iu c.se L n=E at *
   generalize lf n=e at *
   unfold bB at *
   simp only[x7,af,ae,aa,seval,iteOmega,toNatUp];refine sD (c1) ?_;refine bi c2 (by simp only[ae,aa,seval,iteOmega,toNatUp] <;> rfl) (.inl rfl) ?_;simp only[ae,aa,seval,iteOmega,toNatUp];refine sD (c3) ?_;exact aO
  ·rw[decide_eq_false h] at c1;rw[if_neg h,if_neg h];unfold bB at *
   simp only[x7,af,ae,aa,seval,iteOmega,toNatUp];refine sD (c1) ?_;exact aO

def x8:aE:=⟨2,32,.seq (.reg [oO 4 (.alloc [(.d (.bool false)),.nil,.nil,.nil,(.d (.int .i64 0)),(.d (.int .i64 0))])]) (.seq (.reg [oM 10 1,oO 11 (.bldSl true 10 1 (.int .u8 0) [(0,(.k (.c (.d (.int .u8 115))))),(1,(.k (.c (.d (.int .u8 101))))),(2,(.k (.c (.d (.int .u8 99))))),(3,(.k (.c (.d (.int .u8 116))))),(4,(.k (.c (.d (.int .u8 105))))),(5,(.k (.c (.d (.int .u8 109))))),(6,(.k (.c (.d (.int .u8 101))))),(7,(.k (.c (.d (.int .u8 32))))),(8,(.k (.c (.d (.int .u8 117))))),(9,(.k (.c (.d (.int .u8 112)))))]),oO 12 (.markF (.t 11)),oO 13 (.call 101 [(.t 10),(.t 12),(kI 32)] none),oM 9 13,oO 14 (.extract (.t 9) 0),oO 15 (.extract (.t 9) 1),oM 5 14,oM 6 15]) (.seq (.reg [oM 17 1,oO 18 (.bldSl true 12 1 (.int .u8 0) [(0,(.k (.c (.d (.int .u8 115))))),(1,(.k (.c (.d (.int .u8 101))))),(2,(.k (.c (.d (.int .u8 99))))),(3,(.k (.c (.d (.int .u8 116))))),(4,(.k (.c (.d (.int .u8 105))))),(5,(.k (.c (.d (.int .u8 109))))),(6,(.k (.c (.d (.int .u8 101))))),(7,(.k (.c (.d (.int .u8 32))))),(8,(.k (.c (.d (.int .u8 100))))),(9,(.k (.c (.d (.int .u8 111))))),(10,(.k (.c (.d (.int .u8 119))))),(11,(.k (.c (.d (.int .u8 110)))))]),
 oO 19 (.markF (.t 18)),oO 20 (.call 101 [(.t 17),(.t 19),(kI 32)] none),oM 16 20,oO 21 (.extract (.t 16) 0),oO 22 (.extract (.t 16) 1),oM 7 21,oM 8 22]) (.seq (.seq (.reg [oM 23 0]) (.cond (.t 23) (.seq (.reg [oM 24 1,oM 25 5,oM 26 7,oO 27 (.build [(.d (.bool false)),.nil,.nil,.nil,(.d (.int .i64 0)),(.d (.int .i64 0))] [(0,1,(.k (.c (.d (.bool true))))),(1,1,(.t 24)),(2,1,(.t 25)),(3,1,(.t 26))]),oN (.store (.ag 6) (.t 4) (.t 27))]) (.ret)) (.skip))) (.seq (.reg [oM 28 1,oM 29 7,oM 30 5,oO 31 (.build [(.d (.bool false)),.nil,.nil,.nil,(.d (.int .i64 0)),(.d (.int .i64 0))] [(1,1,(.t 28)),(2,1,(.t 29)),(3,1,(.t 30))]),oN (.store (.ag 6) (.t 4) (.t 31))]) (.ret))))),[(4,(some (.ag 6)))]⟩
theorem T7:aC Tryz.prog { own:=[11,18],comp:=[],frz:=[12,19],nils:=[] } Tryz.f98=some x8:=by kernel_rfl
theorem VH (G:ah) (cl:Bool) (K:List UInt8) (hK:K.length≤140737488355328):ak Tryz.prog G 98 [.bool cl,.sl (K.map bD)] (.w (.c (.d (bB (cA cl K 0 0))))):=by
  refine aG Tryz.func98 T7 rfl rfl ?_;have c1:=su G K pN hK (by decide) 32 (by decide) (by decide);have c2:=su G K pO hK (by decide) 32 (by decide) (by decide);rw[show iu K pN 32=kh K from kB K pN (by decide),lF (by decide)] at c1;rw[show iu K pO 32=lh K from kB K pO (by decide),lF (by decide)] at c2;unfold bB cA;dsimp only;generalize kh K=U at *
  generalize lh K=W at *
  cases cl
  ·rw[cond_false,cond_false];simp only[x8,af,ae,aa,seval,iteOmega,toNatUp];refine bi c1 (by simp only[ae,aa,seval,iteOmega,toNatUp] <;> rfl) (.inl rfl) ?_;simp only[ae,aa,seval,iteOmega,toNatUp];refine bi c2 (by simp only[ae,aa,seval,iteOmega,toNatUp] <;> rfl) (.inl rfl) ?_;simp only[ae,aa,seval,iteOmega,toNatUp];exact aI
  ·rw[cond_true,cond_true];simp only[x8,af,ae,aa,seval,iteOmega,toNatUp];refine bi c1 (by simp only[ae,aa,seval,iteOmega,toNatUp] <;> rfl) (.inl rfl) ?_;simp only[ae,aa,seval,iteOmega,toNatUp];refine bi c2 (by simp only[ae,aa,seval,iteOmega,toNatUp] <;> rfl) (.inl rfl) ?_;simp only[ae,aa,seval,iteOmega,toNatUp];exact aI
def sB:aE:=⟨3,23,.seq (.reg [oO 6 (.alloc [(.d (.bool false)),.nil,.nil,.nil,(.d (.int .i64 0)),(.d (.int .i64 0))]),oO 7 (.mv (kI 0))]) (.seq (.seq (.reg [oM 8 1,oO 9 (.len (.t 8)),oO 10 (.bin .lss (.t 9) (kI 16)),oM 11 10,oG 12 (.mv (.t 1)) 11 false,oG 13 (.len (.t 12)) 11 false,oG 14 (.bin .gtr (.t 13) (kI 65535)) 11 false,oO 15 (.pick (.t 11) (.k (.c (.d (.bool true)))) (.t 14))]) (.cond (.t 15) (.seq (.reg [oO 16 (.build [(.d (.bool false)),.nil,.nil,.nil,(.d (.int .i64 0)),(.d (.int .i64 0))] []),oN (.store (.ag 6) (.t 6) (.t 16)),oO 7 (.mv (kI 5))]) (.ret)) (.skip))) (.seq (.reg [oM 17 0,oM 18 2,oO 19 (.call 84 [(.t 18)] none),oM 20 1,oO 21 (.call 100 [(.t 19),(.t 20)] none),oO 22 (.call 98 [(.t 17),(.t 21)] none),oN (.store (.ag 6) (.t 6) (.t 22)),oO 7 (.mv (kI 0))]) (.ret))),
 [(6,(some (.ag 6))),(7,none)]⟩
theorem T8:aC Tryz.prog { own:=[],comp:=[],frz:=[],nils:=[] } Tryz.f58=some sB:=by kernel_rfl
theorem KJ (G:ah) (cl:Bool) (s h:List UInt8) (hs:s.length≤9223372036854775807) (hh:h.length≤140737488355328):ak Tryz.prog G 58 [.bool cl,.sl (s.map bD),.sl (h.map bD)] (.tup [.c (.d (bB (od cl s h))),.c (.d (.int .i64 (oc s)))]):=by
  refine aG Tryz.func58 T8 rfl rfl ?_;by_cases h1:s.length<16
  ·have e:oc s=5:=if_pos (.inl h1);rw[show od cl s h=qf from if_neg (by rw[e]; decide),e];have g1:((s.length:Int)<16)=True:=eq_true (by omega);unfold bB qf;simp only[sB,af,ae,aa,seval,iteOmega,toNatUp,g1];exact aO
  ·have g1:((s.length:Int)<16)=False:=eq_false (by omega);by_cases h2:65535<s.length
   ·have e:oc s=5:=if_pos (.inr h2);rw[show od cl s h=qf from if_neg (by rw[e]; decide),e];have g2:((s.length:Int)>65535)=True:=eq_true (by omega);unfold bB qf;simp only[sB,af,ae,aa,seval,iteOmega,toNatUp,g1,g2];exact aO
   ·have e:oc s=0:=if_neg (by omega);rw[show od cl s h=cA cl (gz (cg h) s) 0 0 from if_pos e,e];have g2:((s.length:Int)>65535)=False:=eq_false (by omega);have c1:=pw G h hh;have c2:=TM G (cg h) s (by rw[fT]; decide) (by omega);have c3:=VH G cl (gz (cg h) s) (by rw[mJ]; decide);generalize cA cl (gz (cg h) s) 0 0=C at *
    generalize gz (cg h) s=M at *
    generalize cg h=H at *
    unfold bB at *
    simp only[sB,af,ae,aa,seval,iteOmega,toNatUp,g1,g2];refine sD (c1) ?_;refine sD (c2) ?_;refine sD (c3) ?_;exact aO
def eQ (s:Int):List UInt8:=gz (cg (bu s 20)) (bu s 32)
theorem RN (s:Int):(eQ s).length=32:=mJ _ _
def JB:aE:=⟨1,26,.seq (.reg [oO 2 (.alloc [(.d (.bool false)),.nil,.nil,.nil,(.d (.int .i64 0)),(.d (.int .i64 0))]),oO 3 (.alloc [(.d (.bool false)),.nil,.nil,.nil,(.d (.int .i64 0)),(.d (.int .i64 0))])]) (.seq (.reg [oM 9 0,oO 10 (.call 59 [(.t 9)] none),oM 11 0,oO 12 (.call 35 [(.t 11),(kI 20)] none),oO 13 (.call 58 [(.k (.c (.d (.bool true)))),(.t 10),(.t 12)] none),oM 8 13,oO 14 (.extract (.t 8) 0),oO 15 (.extract (.t 8) 1),oO 4 (.alloc [(.d (.bool false)),.nil,.nil,.nil,(.d (.int .i64 0)),(.d (.int .i64 0))]),oN (.store (.ag 6) (.t 4) (.t 14)),oM 5 15]) (.seq (.reg [oM 17 0,oO 18 (.call 59 [(.t 17)] none),oM 19 0,oO 20 (.call 35 [(.t 19),(kI 20)] none),oO 21 (.call 58 [(.k (.c (.d (.bool false)))),(.t 18),(.t 20)] none),oM 16 21,oO 22 (.extract (.t 16) 0),oO 23 (.extract (.t 16) 1),
 oO 6 (.alloc [(.d (.bool false)),.nil,.nil,.nil,(.d (.int .i64 0)),(.d (.int .i64 0))]),oN (.store (.ag 6) (.t 6) (.t 22)),oM 7 23]) (.seq (.reg [oO 24 (.loadX (.ag 6) (.t 4) [(.t 2),(.t 3)]),oO 25 (.loadX (.ag 6) (.t 6) [(.t 2),(.t 3)]),oN (.store (.ag 6) (.t 2) (.t 24)),oN (.store (.ag 6) (.t 3) (.t 25))]) (.ret)))),[(2,(some (.ag 6))),(3,(some (.ag 6)))]⟩
theorem T9:aC Tryz.prog { own:=[],comp:=[],frz:=[],nils:=[],lx:=[(24,[2,3]),(25,[2,3])] } Tryz.f23=some JB:=by kernel_rfl
theorem VI (G:ah) (s:Int):ak Tryz.prog G 23 [.int .i64 s] (.tup [.c (.d (bB (cA true (eQ s) 0 0))),.c (.d (bB (cA false (eQ s) 0 0)))]):=by
  refine aG Tryz.func23 T9 rfl rfl ?_;have c1:=JA G s;have c2:=q8 G s 20 (by decide);have l1:(bu s 32).length=32:=oD _ _;have l2:(bu s 20).length=20:=oD _ _;have e:oc (bu s 32)=0:=if_neg (by omega);have c3:=KJ G true (bu s 32) (bu s 20) (by omega) (by omega);have c4:=KJ G false (bu s 32) (bu s 20) (by omega) (by omega);rw[show od true (bu s 32) (bu s 20)=cA true (eQ s) 0 0 from if_pos e,e] at c3;rw[show od false (bu s 32) (bu s 20)=cA false (eQ s) 0 0 from if_pos e,e] at c4;generalize bu s 32=B1 at *
  generalize bu s 20=B2 at *
  generalize cA true (eQ s) 0 0=X at *
  generalize cA false (eQ s) 0 0=Y at *
  unfold bB at *
  simp only[JB,af,ae,aa,seval,iteOmega,toNatUp];refine sD (c1) ?_;refine sD (c2) ?_;refine sD (c3) ?_;refine sD (c1) ?_;refine sD (c2) ?_;refine sD (c4) ?_;exact aO

end Go.Proofs.YtlghfnidknfakaaGreatDoor
