/- Texts of one's own, merged: from: Layer 6 on data: tags,sealed bytes,opened ones; both codes. Own work. -/
import Derived.Shelf.Abstract
import Derived.Test.YtlghfnidknfakaaGreatDoorMg312
import Derived.Test.YtlghfnidknfakaaGreatDoorMg310
import Derived.Test.YtlghfnidknfakaaGreatDoorMg313
import Derived.Test.YtlghfnidknfakaaGreatDoorMg37
set_option linter.unusedVariables false
set_option linter.unusedSimpArgs false
namespace Go.Proofs.YtlghfnidknfakaaGreatDoor
open Go.RowKit IntWalk
set_option maxHeartbeats 1600000
def kg (tag:List UInt8):List UInt8:=(tag.set 8 (kX (tag.getD 8 0) 127)).set 12 (kX (tag.getD 12 0) 127)
theorem vU (tag:List UInt8):(kg tag).length=tag.length:=by unfold kg; rw[Xc,Xc]
def cJ (key:List UInt8) (ad:List (List UInt8)) (b:List UInt8):List UInt8:=iX (aP (key.take 16)) (ad++[b])
theorem kx (key:List UInt8) (ad:List (List UInt8)) (b:List UInt8):(cJ key ad b).length=16:=OI _ _
def eR (key tag b:List UInt8):List UInt8:=fF (aP (key.drop 16)) (kg tag) b
theorem q9 (key tag b:List UInt8):(eR key tag b).length=b.length:=qD _ _ _
def iT (l:List (List UInt8)):Bool:=l.any fun x=>decide (65519<x.length)
def df (key:List UInt8) (ad:List (List UInt8)) (n:Int):Int:=if key.length≠32 then 5 else if 16<ad.length then 8 else if iT ad=true∨65519<n then 2 else 0
def nV (key:List UInt8) (ad:List (List UInt8)) (b:List UInt8):List UInt8:=if df key ad b.length=0 then cJ key ad b else []
def gO (key:List UInt8) (ad:List (List UInt8)) (b:List UInt8):List UInt8:=if df key ad b.length=0 then cJ key ad b++eR key (cJ key ad b) b else []
def nW (key:List UInt8) (ad:List (List UInt8)) (s:List UInt8):Int :=
  if df key ad ((s.length:Int)-16)≠0 then df key ad ((s.length:Int)-16) else if s.length<16 then 1 else if s.take 16=cJ key ad (eR key (s.take 16) (s.drop 16)) then 0 else 6
def zh (key:List UInt8) (ad:List (List UInt8)) (s:List UInt8):List UInt8:=if nW key ad s=0 then eR key (s.take 16) (s.drop 16) else []
theorem Nf {l:List (List UInt8)} (h:iT l=false):∀ x∈l,x.length≤65519:=by
  unfold iT at h;rw[WS] at h;intro x hx
  simpa using h x hx
theorem IH {key:List UInt8} {ad:List (List UInt8)} {n:Int} (h:df key ad n=0):key.length=32∧ad.length≤16∧iT ad=false∧n≤65519:=by
  unfold df at h;split at h
  ·cases h
  ·split at h
   ·cases h
   ·split at h
    ·cases h
    ·rename_i h1 h2 h3;cases hl:iT ad
     ·exact⟨by omega,by omega,rfl,by omega⟩
     ·exact absurd (.inl hl) h3
theorem Gn (key:List UInt8) (ad:List (List UInt8)) (n:Int):df key ad n=0∨df key ad n=5∨df key ad n=8∨df key ad n=2:=by
  unfold df;split
  ·exact .inr (.inl rfl)
  ·split
   ·exact .inr (.inr (.inl rfl))
   ·split
    ·exact .inr (.inr (.inr rfl))
    ·exact .inl rfl
theorem QN {k:List UInt8} {l:List (List UInt8)} (h:k.length=16) (hn:l.length≤17) (hl:∀ x∈l,x.length≤65535):zf k l=iX (aP k) l∧tP k l=0:=by
  have:jl l=false:=by
    unfold jl;rw[WS];intro x hx;have:=hl x hx
    simpa using this
  refine⟨if_pos ⟨h,hn,this⟩,?_⟩;unfold tP;rw[if_neg (by omega),if_neg (by omega),this,if_neg (by simp)]
theorem Ng {k c b:List UInt8} (h:k.length=16) (hc:c.length=16) (hb:b.length≤65535):s6 k c b=fF (aP k) c b∧jm k c b=0:=by
  refine⟨if_pos ⟨h,hc,hb⟩,?_⟩;unfold jm;rw[if_neg (by omega),if_neg (by omega),if_neg (by omega)]
theorem II {ad:List (List UInt8)} {b:List UInt8} (h:iT ad=false) (hb:b.length≤65519):∀ x∈ad++[b],x.length≤65535:=by
  intro x hx;rcases V8.1 hx with hx | hx
  ·have:=Nf h x hx; omega
  ·simp only[VU] at hx; subst hx; omega
def wW:aF:=⟨1,6,.seq (.reg [oO 2 (.mv (.k (.c (.d (.bool false)))))]) (.seq (.reg [oM 3 0,oO 4 (.len (.t 3)),oO 5 (.bin .gtr (.t 4) (kI 65519)),oM 2 5]) (.ret)),[(2,none)]⟩
theorem QO:aE Tryz.prog { own:=[],comp:=[],frz:=[],nils:=[] } Tryz.f134=some wW:=by kernel_rfl
theorem S6 (G:ai) (x:List UInt8) (hx:x.length≤9223372036854775807):kT Tryz.prog G 134 [] [.sl (x.map bD)] (.w (.c (.d (.bool (decide (65519<x.length)))))):=by
  refine⟨enters_of Tryz.func134 (by kernel_rfl) rfl,?_⟩;refine aG Tryz.func134 QO rfl rfl ?_;by_cases h:65519<x.length
  ·have hd:decide (65519<x.length)=true:=decide_eq_true h;rw[hd];simp only[wW,ah,af,aa,seval,iteOmega,toNatUp];exact aJ
  ·have hd:decide (65519<x.length)=false:=decide_eq_false h;rw[hd];simp only[wW,ah,af,aa,seval,iteOmega,toNatUp];exact aJ
def nc:aF:=⟨3,21,.seq (.reg [oO 6 (.mv (kI 0))]) (.seq (.seq (.reg [oM 8 0,oO 9 (.len (.t 8)),oO 10 (.bin .neq (.t 9) (kI 32))]) (.cond (.t 10) (.seq (.reg [oO 6 (.mv (kI 5))]) (.ret)) (.skip))) (.seq (.seq (.reg [oM 11 1,oO 12 (.len (.t 11)),oO 13 (.bin .gtr (.t 12) (kI 16))]) (.cond (.t 13) (.seq (.reg [oO 6 (.mv (kI 8))]) (.ret)) (.skip))) (.seq (.reg [oO 7 (.mv (.k (.c (.d (.fn 134 [])))))]) (.seq (.seq (.reg [oM 14 1,oM 15 7,oO 16 (.call 135 [(.t 14),(.t 15)] none),oM 17 16,oG 18 (.mv (.t 2)) 17 false,oG 19 (.bin .gtr (.t 18) (kI 65519)) 17 false,oO 20 (.pick (.t 17) (.k (.c (.d (.bool true)))) (.t 19))]) (.cond (.t 20) (.seq (.reg [oO 6 (.mv (kI 2))]) (.ret)) (.skip))) (.seq (.reg [oO 6 (.mv (kI 0))]) (.ret)))))),[(6,none)]⟩
theorem S7:aE Tryz.prog { own:=[],comp:=[],frz:=[],nils:=[] } Tryz.f121=some nc:=by kernel_rfl
theorem US (G:ai) (key:List UInt8) (ad:List (List UInt8)) (n:Int) (hk:key.length≤9223372036854775807) (hl:ad.length≤9223372036854775807) (hb:∀ x∈ad,x.length≤9223372036854775807):au Tryz.prog G 121 [.sl (key.map bD),cW ad,.int .i64 n] (.w (.c (.d (.int .i64 (df key ad n))))):=by
  refine aG Tryz.func121 S7 rfl rfl ?_;have hc:=Ss G ad 134 [] (fun x=>decide (65519<x.length)) hl (fun x hx=>S6 G x (hb x hx));have hL:(ad.any fun x=>decide (65519<x.length))=iT ad:=rfl;rw[hL] at hc;unfold df;by_cases h:key.length=32
  ·rw[if_neg (by omega)];by_cases h2:16<ad.length
   ·rw[if_pos h2];simp only[nc,ah,af,aa,seval,iteOmega,toNatUp];exact aJ
   ·rw[if_neg h2];cases hl:iT ad
    ·rw[hl] at hc;by_cases h3:65519<n
     ·rw[if_pos (.inr h3)];simp only[nc,ah,af,aa,seval,iteOmega,toNatUp];refine sD (hc) ?_;exact aJ
     ·rw[if_neg (by simp; omega)];simp only[nc,ah,af,aa,seval,iteOmega,toNatUp];refine sD (hc) ?_;exact aJ
    ·rw[hl] at hc;rw[if_pos (.inl rfl)];simp only[nc,ah,af,aa,seval,iteOmega,toNatUp];refine sD (hc) ?_;exact aJ
  ·rw[if_pos h];simp only[nc,ah,af,aa,seval,iteOmega,toNatUp];exact aJ
def Gp:aF:=⟨3,23,.seq (.reg [oO 6 (.mv (.k (.c .nil)))]) (.seq (.reg [oM 10 1,oM 11 2,oO 12 (.bldSl false 1 1 (.sl []) [(0,(.t 11))]),oO 13 (.bldSl false 2 1 (.sl []) [(0,(.t 10)),(1,(.t 12))]),oO 14 (.call 138 [(.t 13)] none),oM 7 14]) (.seq (.reg [oM 16 0,oO 17 (.slice 1 (.t 16) none (some (kI 16)) none),oM 18 7,oO 19 (.call 139 [(.t 17),(.t 18)] (some (0,1))),oM 15 19,oO 20 (.extract (.t 15) 0),oO 21 (.extract (.t 15) 1),oM 8 20,oM 9 21]) (.seq (.reg [oM 22 8,oM 6 22]) (.ret)))),[(6,none)]⟩
theorem QP:aE Tryz.prog { own:=[],comp:=[(19,0)],frz:=[],nils:=[] } Tryz.f123=some Gp:=by kernel_rfl
theorem S8 (G:ai) (key:List UInt8) (ad:List (List UInt8)) (b:List UInt8) (h:key.length=32) (hn:ad.length≤16) (hl:iT ad=false) (hb:b.length≤65519):au Tryz.prog G 123 [.sl (key.map bD),cW ad,.sl (b.map bD)] (.w (.c (.fr 1 ((cJ key ad b).map bD)))):=by
  refine aG Tryz.func123 QP rfl rfl ?_;have hf:[ad,[b]].flatten=ad++[b]:=by simp
  have hc:=Sv G [ad,[b]] (by simp) (by rw[hf]; simp; omega);rw[hf] at hc;have hk:(key.take 16).length=16:=by rw[VW]; omega
  obtain⟨v1,v2⟩:=QN (l:=ad++[b]) hk (by simp; omega) (II hl hb);have hv:=SY G (key.take 16) (ad++[b]) (by omega) (by simp; omega) (fun x hx=>Wz (II hl hb x hx) (by decide));rw[v1,v2] at hv;have ht:iX (aP (key.take 16)) (ad++[b])=cJ key ad b:=rfl;rw[ht] at hv;simp only[Gp,ah,af,aa,seval,iteOmega,toNatUp];refine sD (hc) ?_;refine sD (hv) ?_;exact eT
theorem wX {tag:List UInt8} (h:tag.length=16) {i:Nat} (hi:i<16):tag[i]?=some (tag.getD i 0):=by
  rw[VS,VQ (by omega)]; rfl
theorem QQ {tag:List UInt8} (h:tag.length=16) (x:UInt8):(tag.set 8 x)[12]?=some (tag.getD 12 0):=by
  rw[List.getElem?_set_ne (by decide),wX h (by decide)]
def IJ:aF:=⟨1,18,.seq (.reg [oO 2 (.mv (.k (.c .nil)))]) (.seq (.reg [oM 4 0,oO 5 (.bldSl false 1 1 (.sl []) [(0,(.t 4))]),oO 6 (.call 90 [(.t 5)] (some (0,1))),oM 3 6]) (.seq (.reg [oM 7 3,oO 8 (.idxSl 1 (.t 7) (kI 8)),oO 9 (.load .sc (.t 8)),oO 10 (.bin .and (.t 9) (.k (.c (.d (.int .u8 127))))),oO 11 (.idxSl 1 (.t 7) (kI 8)),oN (.store .sc (.t 11) (.t 10))]) (.seq (.reg [oM 12 3,oO 13 (.idxSl 1 (.t 12) (kI 12)),oO 14 (.load .sc (.t 13)),oO 15 (.bin .and (.t 14) (.k (.c (.d (.int .u8 127))))),oO 16 (.idxSl 1 (.t 12) (kI 12)),oN (.store .sc (.t 16) (.t 15))]) (.seq (.reg [oM 17 3,oM 2 17]) (.ret))))),[(2,none)]⟩
theorem S9:aE Tryz.prog { own:=[6],comp:=[],frz:=[],nils:=[] } Tryz.f137=some IJ:=by kernel_rfl
theorem UT (G:ai) (tag:List UInt8) (h:tag.length=16):au Tryz.prog G 137 [.sl (tag.map bD)] (.w (.c (.fr 1 ((kg tag).map bD)))):=by
  refine aG Tryz.func137 S9 rfl rfl ?_;have hj:=fC G [tag] (by simp) (by simp; omega);have hf:[tag].flatten=tag:=by simp
  rw[hf] at hj;have g1:=wX h (i:=8) (by decide);have g2:=wX h (i:=12) (by decide);have g3:=QQ h (kX (tag.getD 8 0) 127);have x1:=Ih (tag.getD 8 0) 127 127 rfl;have x2:=Ih (tag.getD 12 0) 127 127 rfl;have hs:(tag.set 8 (kX (tag.getD 8 0) 127)).set 12 (kX (tag.getD 12 0) 127)=kg tag:=rfl;simp only[IJ,ah,af,aa,seval,iteOmega,toNatUp];refine sC (hj) ?_;simp only[aM,g1,g2,g3,x1,x2,ww,hs,af,aa,seval,iteOmega,toNatUp];exact Ig (by simp only[af,aa,seval,iteOmega,toNatUp,vU])
theorem UU (G:ai) (tag:List UInt8) (h:tag.length=16):au Tryz.prog G 137 [.sl (tag.map bD)] (.w (.c (.d (.sl ((kg tag).map bD))))):=lF (UT G tag h)
def Gq:aF:=⟨3,19,.seq (.reg [oO 6 (.mv (.k (.c .nil)))]) (.seq (.reg [oM 10 0,oO 11 (.slice 1 (.t 10) (some (kI 16)) none none),oM 12 1,oO 13 (.call 137 [(.t 12)] none),oM 14 2,oO 15 (.call 136 [(.t 11),(.t 13),(.t 14)] (some (0,1))),oM 9 15,oO 16 (.extract (.t 9) 0),oO 17 (.extract (.t 9) 1),oM 7 16,oM 8 17]) (.seq (.reg [oM 18 7,oM 6 18]) (.ret))),[(6,none)]⟩
theorem QR:aE Tryz.prog { own:=[],comp:=[(15,0)],frz:=[],nils:=[] } Tryz.f122=some Gq:=by kernel_rfl
theorem Ta (G:ai) (key tag b:List UInt8) (h:key.length=32) (ht:tag.length=16) (hb:b.length≤65535):au Tryz.prog G 122 [.sl (key.map bD),.sl (tag.map bD),.sl (b.map bD)] (.w (.c (.fr 1 ((eR key tag b).map bD)))):=by
  refine aG Tryz.func122 QR rfl rfl ?_;have hk:(key.drop 16).length=16:=by rw[V5]; omega
  have hk2:(key.drop 16).take 16=key.drop 16:=VV (by omega);obtain⟨v1,v2⟩:=Ng (c:=kg tag) (b:=b) hk (by rw[vU]; exact ht) hb;have hv:=UQ G (key.drop 16) (kg tag) b (by omega) (by rw[vU]; omega) (by omega);rw[v1,v2] at hv;have hs:fF (aP (key.drop 16)) (kg tag) b=eR key tag b:=rfl;rw[hs] at hv;simp only[Gq,ah,af,aa,seval,iteOmega,toNatUp,h];refine sC (UU G tag ht) ?_;simp only[hk2,af,aa,seval,iteOmega,toNatUp];refine sD (hv) ?_;exact eT
theorem Tb (G:ai) (key tag b:List UInt8) (h:key.length=32) (ht:tag.length=16) (hb:b.length≤65535):au Tryz.prog G 122 [.sl (key.map bD),.sl (tag.map bD),.sl (b.map bD)] (.w (.c (.d (.sl ((eR key tag b).map bD))))):=lF (Ta G key tag b h ht hb)
def xG:aF:=⟨3,21,.seq (.reg [oO 6 (.mv (.k (.c .nil))),oO 7 (.mv (kI 0))]) (.seq (.seq (.reg [oM 9 0,oM 10 1,oM 11 2,oO 12 (.len (.t 11)),oO 13 (.call 121 [(.t 9),(.t 10),(.t 12)] none),oM 8 13]) (.seq (.reg [oM 14 8,oO 15 (.bin .neq (.t 14) (kI 0))]) (.cond (.t 15) (.seq (.reg [oM 16 8,oO 6 (.mv (.k (.c .nil))),oM 7 16]) (.ret)) (.skip)))) (.seq (.reg [oM 17 0,oM 18 1,oM 19 2,oO 20 (.call 123 [(.t 17),(.t 18),(.t 19)] (some (0,1))),oM 6 20,oO 7 (.mv (kI 0))]) (.ret))),[(6,none),(7,none)]⟩
theorem Tc:aE Tryz.prog { own:=[20],comp:=[],frz:=[],nils:=[] } Tryz.f125=some xG:=by kernel_rfl
theorem UV (G:ai) (key:List UInt8) (ad:List (List UInt8)) (b:List UInt8) (hk:key.length≤9223372036854775807) (hl:ad.length≤9223372036854775807) (hx:∀ x∈ad,x.length≤9223372036854775807) (hb:b.length≤9223372036854775807):au Tryz.prog G 125 [.sl (key.map bD),cW ad,.sl (b.map bD)] (.tup [.c (.fr 1 ((nV key ad b).map bD)),.c (.d (.int .i64 (df key ad b.length)))]):=by
  refine aG Tryz.func125 Tc rfl rfl ?_;have hc:=US G key ad (b.length:Int) hk hl hx;by_cases he:df key ad (b.length:Int)=0
  ·have hv:nV key ad b=cJ key ad b:=if_pos he;obtain⟨k1,k2,k3,k4⟩:=IH he;rw[he] at hc ⊢;rw[hv];simp only[xG,ah,af,aa,seval,iteOmega,toNatUp];refine sD (hc) ?_;refine sD (S8 G key ad b k1 k2 k3 (by omega)) ?_;exact du
  ·have hv:nV key ad b=[]:=if_neg he;rw[hv];have hne:df key ad (b.length:Int)=0↔False:=⟨he,False.elim⟩
   rcases Gn key ad b.length with e | e | e | e
   ·exact absurd e he
   all_goals
     rw[e] at hc ⊢;simp only[xG,ah,af,aa,seval,iteOmega,toNatUp];refine bh hc rfl (.inl rfl) ?_;simp only[af,aa,seval,iteOmega,toNatUp];exact du
theorem UW (G:ai) (key:List UInt8) (ad:List (List UInt8)) (b:List UInt8) (hk:key.length≤9223372036854775807) (hl:ad.length≤9223372036854775807) (hx:∀ x∈ad,x.length≤9223372036854775807) (hb:b.length≤9223372036854775807):au Tryz.prog G 125 [.sl (key.map bD),cW ad,.sl (b.map bD)] (.tup [.c (.d (.sl ((nV key ad b).map bD))),.c (.d (.int .i64 (df key ad b.length)))]):=pf (UV G key ad b hk hl hx hb)
def wY:aF:=⟨3,27,.seq (.reg [oO 6 (.mv (.k (.c .nil))),oO 7 (.mv (kI 0))]) (.seq (.reg [oM 11 0,oM 12 1,oM 13 2,oO 14 (.call 125 [(.t 11),(.t 12),(.t 13)] none),oM 10 14,oO 15 (.extract (.t 10) 0),oO 16 (.extract (.t 10) 1),oM 8 15,oM 9 16]) (.seq (.seq (.reg [oM 17 9,oO 18 (.bin .neq (.t 17) (kI 0))]) (.cond (.t 18) (.seq (.reg [oM 19 9,oO 6 (.mv (.k (.c .nil))),oM 7 19]) (.ret)) (.skip))) (.seq (.reg [oM 20 8,oM 21 0,oM 22 8,oM 23 2,oO 24 (.call 122 [(.t 21),(.t 22),(.t 23)] none),oO 25 (.bldSl false 2 1 (.sl []) [(0,(.t 20)),(1,(.t 24))]),oO 26 (.call 90 [(.t 25)] (some (0,1))),oM 6 26,oO 7 (.mv (kI 0))]) (.ret)))),[(6,none),(7,none)]⟩
theorem QS:aE Tryz.prog { own:=[26],comp:=[],frz:=[],nils:=[] } Tryz.f92=some wY:=by kernel_rfl
theorem Td (G:ai) (key:List UInt8) (ad:List (List UInt8)) (b:List UInt8) (hk:key.length≤9223372036854775807) (hl:ad.length≤9223372036854775807) (hx:∀ x∈ad,x.length≤9223372036854775807) (hb:b.length≤9223372036854775807):au Tryz.prog G 92 [.sl (key.map bD),cW ad,.sl (b.map bD)] (.tup [.c (.fr 1 ((gO key ad b).map bD)),.c (.d (.int .i64 (df key ad b.length)))]):=by
  refine aG Tryz.func92 QS rfl rfl ?_;have hc:=UW G key ad b hk hl hx hb;by_cases he:df key ad (b.length:Int)=0
  ·have hv:nV key ad b=cJ key ad b:=if_pos he;have hv2:gO key ad b=cJ key ad b++eR key (cJ key ad b) b:=if_pos he;obtain⟨k1,k2,k3,k4⟩:=IH he;have hj:=fC G [cJ key ad b,eR key (cJ key ad b) b] (by simp) (by simp[kx,q9]; omega);have hf:[cJ key ad b,eR key (cJ key ad b) b].flatten=cJ key ad b++eR key (cJ key ad b) b:=by simp
   rw[hf] at hj;rw[he,hv] at hc;rw[he,hv2];simp only[wY,ah,af,aa,seval,iteOmega,toNatUp];refine sD (hc) ?_;refine sD (Tb G key (cJ key ad b) b k1 (kx _ _ _) (by omega)) ?_;refine sD (hj) ?_;exact du
  ·have hv:nV key ad b=[]:=if_neg he;have hv2:gO key ad b=[]:=if_neg he;rw[hv] at hc;rw[hv2];rcases Gn key ad b.length with e | e | e | e
   ·exact absurd e he
   all_goals
     rw[e] at hc ⊢;simp only[wY,ah,af,aa,seval,iteOmega,toNatUp];refine bh hc rfl (.inl rfl) ?_;simp only[af,aa,seval,iteOmega,toNatUp];exact du
theorem Te (G:ai) (key:List UInt8) (ad:List (List UInt8)) (b:List UInt8) (hk:key.length≤9223372036854775807) (hl:ad.length≤9223372036854775807) (hx:∀ x∈ad,x.length≤9223372036854775807) (hb:b.length≤9223372036854775807):au Tryz.prog G 92 [.sl (key.map bD),cW ad,.sl (b.map bD)] (.tup [.c (.d (.sl ((gO key ad b).map bD))),.c (.d (.int .i64 (df key ad b.length)))]):=pf (Td G key ad b hk hl hx hb)
theorem Tf {key:List UInt8} {ad:List (List UInt8)} {s:List UInt8} (h:df key ad ((s.length:Int)-16)=0) (hs:¬ s.length<16) (ht:s.take 16=cJ key ad (eR key (s.take 16) (s.drop 16))):nW key ad s=0∧zh key ad s=eR key (s.take 16) (s.drop 16):=by
  have:nW key ad s=0:=by unfold nW; rw[if_neg (by simp[h]),if_neg hs,if_pos ht]
  exact⟨this,if_pos this⟩
theorem Eh {key:List UInt8} {ad:List (List UInt8)} {n:Int} (h:key.length=32) (h2:ad.length≤16) (h3:∀ x∈ad,x.length≤65519) (h4:n≤65519):df key ad n=0:=by
  have:iT ad=false:=by
    unfold iT;rw[WS];intro x hx;have:=h3 x hx
    simpa using this
  unfold df;rw[if_neg (by omega),if_neg (by omega),if_neg (by rw[this]; simp; omega)]
theorem Ar (key tag b:List UInt8):eR key tag (eR key tag b)=b:=Lx _ _ _
theorem vV {key b:List UInt8} {ad:List (List UInt8)} (h:df key ad b.length=0):gO key ad b=cJ key ad b++eR key (cJ key ad b) b:=if_pos h
theorem BL {key b:List UInt8} {ad:List (List UInt8)} (T:List UInt8):(cJ key ad b++T).take 16=cJ key ad b:=by
  rw[List.take_append_of_le_length (by rw[kx]; exact V0 _),VV (by rw[kx]; exact V0 _)]
theorem BM {key b:List UInt8} {ad:List (List UInt8)} (T:List UInt8):(cJ key ad b++T).drop 16=T:=by
  have:=List.drop_left (l₁:=cJ key ad b) (l₂:=T);rw[kx] at this;exact this
theorem OZ {key b:List UInt8} {ad:List (List UInt8)} (h:df key ad b.length=0):nW key ad (cJ key ad b++eR key (cJ key ad b) b)=0∧zh key ad (cJ key ad b++eR key (cJ key ad b) b)=b:=by
  have hl:(cJ key ad b++eR key (cJ key ad b) b).length=16+b.length:=by rw[VR,kx,q9]
  have he:df key ad (((cJ key ad b++eR key (cJ key ad b) b).length:Int)-16)=0:=by rw[hl,show ((16+b.length:Nat):Int)-16=(b.length:Int) by omega]; exact h
  obtain⟨e1,e2⟩:=Tf he (by omega) (by rw[BL,BM,Ar]);refine⟨e1,?_⟩;rw[e2,BL,BM,Ar]
def pS:List UInt8:=[115,101,99,116,105,109,101,32,117,112]
def pT:List UInt8:=[115,101,99,116,105,109,101,32,100,111,119,110]
def nF:List UInt8:=[115,101,99,116,105,109,101,32,101,120,112,111,114,116]
structure Ch where
  cl:Bool
  se:List UInt8
  sk:List UInt8
  rk:List UInt8
  n:Int
  m:Int
def bp (c:Ch):D:=.agg [.bool c.cl,.sl (c.se.map bD),.sl (c.sk.map bD),.sl (c.rk.map bD),.int .i64 c.n,.int .i64 c.m]
def kn (K:List UInt8):List UInt8:=gI K pS 32
def lh (K:List UInt8):List UInt8:=gI K pT 32
def bf (cl:Bool) (K:List UInt8) (n m:Int):Ch:=⟨cl,K,bif cl then kn K else lh K,bif cl then lh K else kn K,n,m⟩
def qh:Ch:=⟨false,[],[],[],0,0⟩
def dv (c:Ch):Prop:=c.se.length=32∧(0≤c.n∧c.n≤1099511627776)∧(0≤c.m∧c.m≤1099511627776)∧c.sk=(bif c.cl then kn c.se else lh c.se)∧c.rk=(bif c.cl then lh c.se else kn c.se)
instance (c:Ch):Decidable (dv c):=by unfold dv; exact inferInstance
def oe (s:List UInt8):Int:=if s.length<16∨65535<s.length then 5 else 0
def oh (cl:Bool) (s h:List UInt8):Ch:=if oe s=0 then bf cl (gG (cu h) s) 0 0 else qh
def La (c:Ch) (n:Int):Int:=if dv c then lf n else 3
def tQ (c:Ch) (l x:List UInt8) (n:Int):List UInt8:=if dv c then iv c.se (kh nF l x) n else []
theorem zk {cl:Bool} {K:List UInt8} {n m:Int} (h:K.length=32) (h1:0≤n∧n≤1099511627776) (h2:0≤m∧m≤1099511627776):dv (bf cl K n m):=⟨h,h1,h2,rfl,rfl⟩
def tZ:ByteArray:=⟨#[115,101,99,116,105,109,101,32,117,112]⟩
def t7:ByteArray:=⟨#[115,101,99,116,105,109,101,32,100,111,119,110]⟩
def qj (K:List UInt8):Nat→List D
  | 0=>[.sl [],.sl []]
  | 1=>[.sl ((kn K).map bD),.sl []]
  | _=>[.sl ((kn K).map bD),.sl ((lh K).map bD)]
def qc (cl:Bool) (K:List UInt8) (i:Nat):St:=⟨aV [(0,.w (.c (.d (.bool cl)))),(1,.w (.c (.d (.sl (K.map bD))))),(7,.w (.c (.pa 1 1))),(11,.w (.c (.d (.agg [.str tZ,.str t7])))),(12,.w (.c (.d (.int .i64 (i:Int)))))],hL [(1,.row 1 (qj K i))],uL [1]⟩
def o9:aN := .seq (.reg [oO 13 (.bin .lss (.t 12) (kI 2))]) (.seq (.cond (.t 13) (.skip) (.exit 0)) (.seq (.block 1 (.seq (.reg [oM 14 12,oO 15 (.idxArr 1 2 .sc (.t 11) (.t 12)),oM 8 14,oM 9 15]) (.reg [oM 17 8,oM 18 1,oM 19 9,oO 20 (.s2b false (.t 19)),oO 21 (.call 128 [(.t 18),(.t 20),(kI 32)] none),oM 16 21,oO 22 (.extract (.t 16) 0),oO 23 (.extract (.t 16) 1),oO 24 (.idxPa 1 2 (.t 7) (.t 17)),oN (.store .sc (.t 24) (.t 22))]))) (.reg [oO 25 (.bin .add (.t 12) (kI 1)),oM 12 25])))
def I7:aF:=⟨2,35,.seq (.reg [oO 4 (.mv (.k (.c .nil))),oO 5 (.mv (.k (.c .nil)))]) (.seq (.reg [oO 10 (.build [(.d (.str ⟨#[]⟩)),(.d (.str ⟨#[]⟩))] [(0,1,(.k (.c (.d (.str ⟨#[115,101,99,116,105,109,101,32,117,112]⟩))))),(1,1,(.k (.c (.d (.str ⟨#[115,101,99,116,105,109,101,32,100,111,119,110]⟩)))))]),oO 6 (.allocArr [(.str ⟨#[]⟩),(.str ⟨#[]⟩)]),oN (.store (.ag 2) (.t 6) (.t 10))]) (.seq (.reg [oO 7 (.allocArr [(.sl []),(.sl [])])]) (.seq (.seq (.reg [oO 11 (.load (.ag 2) (.t 6)),oO 12 (.mv (kI 0))]) (.block 0 (.loop o9))) (.seq (.seq (.reg [oM 26 0]) (.cond (.t 26) (.seq (.reg [oO 27 (.idxPa 1 2 (.t 7) (kI 0)),oO 28 (.load .sc (.t 27)),oO 29 (.idxPa 1 2 (.t 7) (kI 1)),oO 30 (.load .sc (.t 29)),oM 4 28,oM 5 30]) (.ret)) (.skip))) (.seq (.reg [oO 31 (.idxPa 1 2 (.t 7) (kI 1)),oO 32 (.load .sc (.t 31)),
 oO 33 (.idxPa 1 2 (.t 7) (kI 0)),oO 34 (.load .sc (.t 33)),oM 4 32,oM 5 34]) (.ret)))))),[(4,none),(5,none)]⟩
theorem TA:aE Tryz.prog { own:=[],comp:=[],frz:=[],nils:=[] } Tryz.f103=some I7:=by kernel_rfl
theorem U6 (G:ai) (hF:G.at 0=some (.ra (cX.map wD))) (hG:G.at 1=some (.ra (bB.map wD))) (cl:Bool) (K:List UInt8) (hK:K.length≤140737488355328):au Tryz.prog G 103 [.bool cl,.sl (K.map bD)] (.tup [.c (.d (.sl ((bf cl K 0 0).sk.map bD))),.c (.d (.sl ((bf cl K 0 0).rk.map bD)))]):=by
  refine aG Tryz.func103 TA rfl rfl ?_;have s1:tZ.size≤maxLen:=by unfold maxLen; decide
  have s2:t7.size≤maxLen:=by unfold maxLen; decide
  have c1:=yH G hF hG K tZ.data.toList hK (by decide) 32 (by decide) (by decide);have c2:=yH G hF hG K t7.data.toList hK (by decide) 32 (by decide) (by decide);rw[show iv K tZ.data.toList 32=kn K from kF K pS (by decide),lC (by decide)] at c1;rw[show iv K t7.data.toList 32=lh K from kF K pT (by decide),lC (by decide)] at c2;simp only[I7,ah,af,aa,seval,iteOmega,toNatUp];refine bd (qc cl K) (fun i=>2-i) (fun i=>i≤2) 0 (by decide) ?_ ?_
  ·refine aB (fun i=>56) ?_ ?_ rfl rfl <;> simp only[wx,aA,aK,aa,seval,iteOmega,toNatUp] <;> first | rfl | exact⟨rfl,rfl⟩ | skip
  ·intro i hi;have h3:i=0∨i=1∨i=2:=by omega
   rcases h3 with rfl | rfl | rfl
   ·simp only[o9,qc,qj,af,aa,seval,iteOmega,toNatUp,s1];refine sD (c1) ?_;refine aX 1 (by decide) (by decide) (aB (fun i=>i) ?_ ?_ rfl rfl) <;> simp only[wx,aA,aK,aa,seval,iteOmega,toNatUp] <;> first | rfl | exact⟨rfl,rfl⟩ | skip
   ·simp only[o9,qc,qj,af,aa,seval,iteOmega,toNatUp,s2];refine sD (c2) ?_;refine aX 2 (by decide) (by decide) (aB (fun i=>i) ?_ ?_ rfl rfl) <;> simp only[wx,aA,aK,aa,seval,iteOmega,toNatUp] <;> first | rfl | exact⟨rfl,rfl⟩ | skip
   ·unfold bf;cases cl
    ·rw[cond_false,cond_false];simp only[o9,qc,qj,af,aa,seval,iteOmega,toNatUp];exact aW
    ·rw[cond_true,cond_true];simp only[o9,qc,qj,af,aa,seval,iteOmega,toNatUp];exact aW
def mm (n:Int):Bool:=decide (0≤n∧n≤1099511627776)
def sw:aF:=⟨1,9,.seq (.reg [oO 2 (.mv (.k (.c (.d (.bool false)))))]) (.seq (.reg [oM 3 0,oO 4 (.bin .leq (kI 0) (.t 3)),oM 5 4,oG 6 (.mv (.t 0)) 5 true,oG 7 (.bin .leq (.t 6) (kI 1099511627776)) 5 true,oO 8 (.pick (.t 5) (.t 7) (.k (.c (.d (.bool false))))),oM 2 8]) (.ret)),[(2,none)]⟩
theorem TB:aE Tryz.prog { own:=[],comp:=[],frz:=[],nils:=[] } Tryz.f102=some sw:=by kernel_rfl
theorem Ke (G:ai) (n:Int):au Tryz.prog G 102 [.int .i64 n] (.w (.c (.d (.bool (mm n))))):=by
  refine aG Tryz.func102 TB rfl rfl ?_;unfold mm;by_cases h1:0≤n
  ·have g1:(0≤n)=True:=eq_true h1;by_cases h2:n≤1099511627776
   ·have g2:(n≤1099511627776)=True:=eq_true h2;rw[decide_eq_true (And.intro h1 h2)];simp only[sw,ah,af,aa,seval,iteOmega,toNatUp,g1,g2];exact aJ
   ·have g2:(n≤1099511627776)=False:=eq_false h2;rw[decide_eq_false (fun h=>h2 h.2)];simp only[sw,ah,af,aa,seval,iteOmega,toNatUp,g1,g2];exact aJ
  ·have g1:(0≤n)=False:=eq_false h1;rw[decide_eq_false (fun h=>h1 h.1)];simp only[sw,ah,af,aa,seval,iteOmega,toNatUp,g1];exact aJ
theorem VK (c:Ch):decide (dv c)=(decide (c.se.length=32)&&mm c.n&&mm c.m&&(c.sk==(bf c.cl c.se 0 0).sk)&&(c.rk==(bf c.cl c.se 0 0).rk)):=by
  rw[Bool.eq_iff_iff];unfold dv mm bf;simp only[decide_eq_true_eq,Wh,beq_iff_eq,and_assoc]
def nj:aF:=⟨1,39,.seq (.reg [oO 1 (.box .roBox (.t 0)),oO 2 (.mv (.k (.c (.d (.bool false)))))]) (.seq (.seq (.reg [oO 5 (.fieldAddr 1 (.t 1)),oO 6 (.load .sc (.t 5)),oO 7 (.len (.t 6)),oO 8 (.bin .neq (.t 7) (kI 32)),oM 9 8,oG 10 (.fieldAddr 4 (.t 1)) 9 false,oG 11 (.load .sc (.t 10)) 9 false,oG 12 (.call 102 [(.t 11)] none) 9 false,oG 13 (.un .not (.t 12)) 9 false,oO 14 (.pick (.t 9) (.k (.c (.d (.bool true)))) (.t 13)),oM 15 14,oG 16 (.fieldAddr 5 (.t 1)) 15 false,oG 17 (.load .sc (.t 16)) 15 false,oG 18 (.call 102 [(.t 17)] none) 15 false,oG 19 (.un .not (.t 18)) 15 false,oO 20 (.pick (.t 15) (.k (.c (.d (.bool true)))) (.t 19))]) (.cond (.t 20) (.seq (.reg [oO 2 (.mv (.k (.c (.d (.bool false)))))]) (.ret)) (.skip))) (.seq (.reg [oO 22 (.fieldAddr 0 (.t 1)),oO 23 (.load .sc (.t 22)),
 oO 24 (.fieldAddr 1 (.t 1)),oO 25 (.load .sc (.t 24)),oO 26 (.call 103 [(.t 23),(.t 25)] none),oM 21 26,oO 27 (.extract (.t 21) 0),oO 28 (.extract (.t 21) 1),oM 3 27,oM 4 28]) (.seq (.reg [oO 29 (.fieldAddr 2 (.t 1)),oO 30 (.load .sc (.t 29)),oM 31 3,oO 32 (.call 104 [(.t 30),(.t 31)] none),oM 33 32,oG 34 (.fieldAddr 3 (.t 1)) 33 true,oG 35 (.load .sc (.t 34)) 33 true,oG 36 (.mv (.t 4)) 33 true,oG 37 (.call 104 [(.t 35),(.t 36)] none) 33 true,oO 38 (.pick (.t 33) (.t 37) (.k (.c (.d (.bool false))))),oM 2 38]) (.ret)))),[(2,none)]⟩
theorem TC:aE Tryz.prog { own:=[],comp:=[],frz:=[],nils:=[] } Tryz.f62=some nj:=by kernel_rfl
theorem ti (G:ai) (hF:G.at 0=some (.ra (cX.map wD))) (hG:G.at 1=some (.ra (bB.map wD))) (c:Ch):au Tryz.prog G 62 [bp c] (.w (.c (.d (.bool (decide (dv c)))))):=by
  refine aG Tryz.func62 TC rfl rfl ?_;rw[VK];have c1:=Ke G c.n;have c2:=Ke G c.m;by_cases h:c.se.length=32
  ·have g:(((c.se.length:Nat):Int)=32)=True:=eq_true (by omega);have c3:=U6 G hF hG c.cl c.se (by omega);have c4:=xF G c.sk (bf c.cl c.se 0 0).sk;have c5:=xF G c.rk (bf c.cl c.se 0 0).rk;rw[decide_eq_true h];generalize (bf c.cl c.se 0 0).sk=S at *
   generalize (bf c.cl c.se 0 0).rk=R at *
   generalize (c.sk==S)=q1 at *
   generalize (c.rk==R)=q2 at *
   generalize mm c.n=q3 at *
   generalize mm c.m=q4 at *
   unfold bp;cases q3
   ·simp only[nj,ah,af,aa,seval,iteOmega,toNatUp,g];refine sD (c1) ?_;exact aJ
   ·cases q4
    ·simp only[nj,ah,af,aa,seval,iteOmega,toNatUp,g];refine sD (c1) ?_;refine sD (c2) ?_;exact aJ
    ·cases q1
     ·simp only[nj,ah,af,aa,seval,iteOmega,toNatUp,g];refine sD (c1) ?_;refine sD (c2) ?_;refine sD (c3) ?_;refine sD (c4) ?_;exact aJ
     ·simp only[nj,ah,af,aa,seval,iteOmega,toNatUp,g];refine sD (c1) ?_;refine sD (c2) ?_;refine sD (c3) ?_;refine sD (c4) ?_;refine sD (c5) ?_;exact aJ
  ·have g:(((c.se.length:Nat):Int)=32)=False:=eq_false (by omega);rw[decide_eq_false h];unfold bp;simp only[nj,ah,af,aa,seval,iteOmega,toNatUp,g];exact aJ
def Lc:ByteArray:=⟨#[115,101,99,116,105,109,101,32,101,120,112,111,114,116]⟩
def xP:aF:=⟨4,22,.seq (.reg [oO 4 (.box .roBox (.t 0)),oO 8 (.mv (.k (.c .nil))),oO 9 (.mv (kI 0))]) (.seq (.seq (.reg [oO 10 (.load (.ag 6) (.t 4)),oO 11 (.call 62 [(.t 10)] none),oO 12 (.un .not (.t 11))]) (.cond (.t 12) (.seq (.reg [oO 8 (.mv (.k (.c .nil))),oO 9 (.mv (kI 3))]) (.ret)) (.skip))) (.seq (.reg [oO 13 (.fieldAddr 1 (.t 4)),oO 14 (.load .sc (.t 13)),oM 15 1,oM 16 2,oO 17 (.call 130 [(.k (.c (.d (.str ⟨#[115,101,99,116,105,109,101,32,101,120,112,111,114,116]⟩)))),(.t 15),(.t 16)] none),oM 18 3,oO 19 (.call 128 [(.t 14),(.t 17),(.t 18)] none),oO 20 (.extract (.t 19) 0),oO 21 (.extract (.t 19) 1),oM 8 20,oM 9 21]) (.ret))),[(8,none),(9,none)]⟩
theorem TD:aE Tryz.prog { own:=[],comp:=[],frz:=[],nils:=[] } Tryz.f105=some xP:=by kernel_rfl
theorem U7 (G:ai) (hF:G.at 0=some (.ra (cX.map wD))) (hG:G.at 1=some (.ra (bB.map wD))) (c:Ch) (l:ByteArray) (x:List UInt8) (n:Int) (hl:l.size≤1099511627776) (hx:x.length≤140737488355328) (hn1:-9223372036854775808≤n) (hn2:n≤9223372036854775807):au Tryz.prog G 105 [bp c,.str l,.sl (x.map bD),.int .i64 n] (.tup [.c (.d (.sl ((tQ c l.data.toList x n).map bD))),.c (.d (.int .i64 (La c n)))]):=by
  refine aG Tryz.func105 TD rfl rfl ?_;have c1:=ti G hF hG c;unfold tQ La;by_cases h:dv c
  ·rw[decide_eq_true h] at c1;rw[if_pos h,if_pos h];have c2:=U0 G hF hG Lc l x (by decide) hl hx;rw[show Lc.data.toList=nF from rfl] at c2;have hs:l.data.toList.length=l.size:=rfl;have c3:=yH G hF hG c.se (kh nF l.data.toList x) (by rw[h.1]; decide) (by rw[Pb,hs]; have:nF.length=14:=rfl; omega) n hn1 hn2;generalize kh nF l.data.toList x=L at *
   generalize iv c.se L n=E at *
   generalize lf n=e at *
   unfold bp at *
   simp only[xP,ah,af,aa,seval,iteOmega,toNatUp];refine sD (c1) ?_;refine bh c2 (by simp only[af,aa,seval,iteOmega,toNatUp] <;> rfl) (.inl rfl) ?_;simp only[af,aa,seval,iteOmega,toNatUp];refine sD (c3) ?_;exact aW
  ·rw[decide_eq_false h] at c1;rw[if_neg h,if_neg h];unfold bp at *
   simp only[xP,ah,af,aa,seval,iteOmega,toNatUp];refine sD (c1) ?_;exact aW

def xQ:aF:=⟨2,32,.seq (.reg [oO 4 (.alloc [(.d (.bool false)),.nil,.nil,.nil,(.d (.int .i64 0)),(.d (.int .i64 0))])]) (.seq (.reg [oM 10 1,oO 11 (.bldSl true 10 1 (.int .u8 0) [(0,(.k (.c (.d (.int .u8 115))))),(1,(.k (.c (.d (.int .u8 101))))),(2,(.k (.c (.d (.int .u8 99))))),(3,(.k (.c (.d (.int .u8 116))))),(4,(.k (.c (.d (.int .u8 105))))),(5,(.k (.c (.d (.int .u8 109))))),(6,(.k (.c (.d (.int .u8 101))))),(7,(.k (.c (.d (.int .u8 32))))),(8,(.k (.c (.d (.int .u8 117))))),(9,(.k (.c (.d (.int .u8 112)))))]),oO 12 (.markF (.t 11)),oO 13 (.call 101 [(.t 10),(.t 12),(kI 32)] none),oM 9 13,oO 14 (.extract (.t 9) 0),oO 15 (.extract (.t 9) 1),oM 5 14,oM 6 15]) (.seq (.reg [oM 17 1,oO 18 (.bldSl true 12 1 (.int .u8 0) [(0,(.k (.c (.d (.int .u8 115))))),(1,(.k (.c (.d (.int .u8 101))))),(2,(.k (.c (.d (.int .u8 99))))),(3,(.k (.c (.d (.int .u8 116))))),(4,(.k (.c (.d (.int .u8 105))))),(5,(.k (.c (.d (.int .u8 109))))),(6,(.k (.c (.d (.int .u8 101))))),(7,(.k (.c (.d (.int .u8 32))))),(8,(.k (.c (.d (.int .u8 100))))),(9,(.k (.c (.d (.int .u8 111))))),(10,(.k (.c (.d (.int .u8 119))))),(11,(.k (.c (.d (.int .u8 110)))))]),
 oO 19 (.markF (.t 18)),oO 20 (.call 101 [(.t 17),(.t 19),(kI 32)] none),oM 16 20,oO 21 (.extract (.t 16) 0),oO 22 (.extract (.t 16) 1),oM 7 21,oM 8 22]) (.seq (.seq (.reg [oM 23 0]) (.cond (.t 23) (.seq (.reg [oM 24 1,oM 25 5,oM 26 7,oO 27 (.build [(.d (.bool false)),.nil,.nil,.nil,(.d (.int .i64 0)),(.d (.int .i64 0))] [(0,1,(.k (.c (.d (.bool true))))),(1,1,(.t 24)),(2,1,(.t 25)),(3,1,(.t 26))]),oN (.store (.ag 6) (.t 4) (.t 27))]) (.ret)) (.skip))) (.seq (.reg [oM 28 1,oM 29 7,oM 30 5,oO 31 (.build [(.d (.bool false)),.nil,.nil,.nil,(.d (.int .i64 0)),(.d (.int .i64 0))] [(1,1,(.t 28)),(2,1,(.t 29)),(3,1,(.t 30))]),oN (.store (.ag 6) (.t 4) (.t 31))]) (.ret))))),[(4,(some (.ag 6)))]⟩
theorem TE:aE Tryz.prog { own:=[11,18],comp:=[],frz:=[12,19],nils:=[] } Tryz.f98=some xQ:=by kernel_rfl
theorem U8 (G:ai) (cl:Bool) (K:List UInt8) (hK:K.length≤140737488355328):au Tryz.prog G 98 [.bool cl,.sl (K.map bD)] (.w (.c (.d (bp (bf cl K 0 0))))):=by
  refine aG Tryz.func98 TE rfl rfl ?_;have c1:=sq G K pS hK (by decide) 32 (by decide) (by decide);have c2:=sq G K pT hK (by decide) 32 (by decide) (by decide);rw[show iv K pS 32=kn K from kF K pS (by decide),lC (by decide)] at c1;rw[show iv K pT 32=lh K from kF K pT (by decide),lC (by decide)] at c2;unfold bp bf;dsimp only;generalize kn K=U at *
  generalize lh K=W at *
  cases cl
  ·rw[cond_false,cond_false];simp only[xQ,ah,af,aa,seval,iteOmega,toNatUp];refine bh c1 (by simp only[af,aa,seval,iteOmega,toNatUp] <;> rfl) (.inl rfl) ?_;simp only[af,aa,seval,iteOmega,toNatUp];refine bh c2 (by simp only[af,aa,seval,iteOmega,toNatUp] <;> rfl) (.inl rfl) ?_;simp only[af,aa,seval,iteOmega,toNatUp];exact aJ
  ·rw[cond_true,cond_true];simp only[xQ,ah,af,aa,seval,iteOmega,toNatUp];refine bh c1 (by simp only[af,aa,seval,iteOmega,toNatUp] <;> rfl) (.inl rfl) ?_;simp only[af,aa,seval,iteOmega,toNatUp];refine bh c2 (by simp only[af,aa,seval,iteOmega,toNatUp] <;> rfl) (.inl rfl) ?_;simp only[af,aa,seval,iteOmega,toNatUp];exact aJ
def sA:aF:=⟨3,23,.seq (.reg [oO 6 (.alloc [(.d (.bool false)),.nil,.nil,.nil,(.d (.int .i64 0)),(.d (.int .i64 0))]),oO 7 (.mv (kI 0))]) (.seq (.seq (.reg [oM 8 1,oO 9 (.len (.t 8)),oO 10 (.bin .lss (.t 9) (kI 16)),oM 11 10,oG 12 (.mv (.t 1)) 11 false,oG 13 (.len (.t 12)) 11 false,oG 14 (.bin .gtr (.t 13) (kI 65535)) 11 false,oO 15 (.pick (.t 11) (.k (.c (.d (.bool true)))) (.t 14))]) (.cond (.t 15) (.seq (.reg [oO 16 (.build [(.d (.bool false)),.nil,.nil,.nil,(.d (.int .i64 0)),(.d (.int .i64 0))] []),oN (.store (.ag 6) (.t 6) (.t 16)),oO 7 (.mv (kI 5))]) (.ret)) (.skip))) (.seq (.reg [oM 17 0,oM 18 2,oO 19 (.call 84 [(.t 18)] none),oM 20 1,oO 21 (.call 100 [(.t 19),(.t 20)] none),oO 22 (.call 98 [(.t 17),(.t 21)] none),oN (.store (.ag 6) (.t 6) (.t 22)),oO 7 (.mv (kI 0))]) (.ret))),
 [(6,(some (.ag 6))),(7,none)]⟩
theorem TF:aE Tryz.prog { own:=[],comp:=[],frz:=[],nils:=[] } Tryz.f58=some sA:=by kernel_rfl
theorem Kf (G:ai) (cl:Bool) (s h:List UInt8) (hs:s.length≤9223372036854775807) (hh:h.length≤140737488355328):au Tryz.prog G 58 [.bool cl,.sl (s.map bD),.sl (h.map bD)] (.tup [.c (.d (bp (oh cl s h))),.c (.d (.int .i64 (oe s)))]):=by
  refine aG Tryz.func58 TF rfl rfl ?_;by_cases h1:s.length<16
  ·have e:oe s=5:=if_pos (.inl h1);rw[show oh cl s h=qh from if_neg (by rw[e]; decide),e];have g1:((s.length:Int)<16)=True:=eq_true (by omega);unfold bp qh;simp only[sA,ah,af,aa,seval,iteOmega,toNatUp,g1];exact aW
  ·have g1:((s.length:Int)<16)=False:=eq_false (by omega);by_cases h2:65535<s.length
   ·have e:oe s=5:=if_pos (.inr h2);rw[show oh cl s h=qh from if_neg (by rw[e]; decide),e];have g2:((s.length:Int)>65535)=True:=eq_true (by omega);unfold bp qh;simp only[sA,ah,af,aa,seval,iteOmega,toNatUp,g1,g2];exact aW
   ·have e:oe s=0:=if_neg (by omega);rw[show oh cl s h=bf cl (gG (cu h) s) 0 0 from if_pos e,e];have g2:((s.length:Int)>65535)=False:=eq_false (by omega);have c1:=pB G h hh;have c2:=To G (cu h) s (by rw[fZ]; decide) (by omega);have c3:=U8 G cl (gG (cu h) s) (by rw[mL]; decide);generalize bf cl (gG (cu h) s) 0 0=C at *
    generalize gG (cu h) s=M at *
    generalize cu h=H at *
    unfold bp at *
    simp only[sA,ah,af,aa,seval,iteOmega,toNatUp,g1,g2];refine sD (c1) ?_;refine sD (c2) ?_;refine sD (c3) ?_;exact aW
def bN (s:Int):List UInt8:=gG (cu (aR s 20)) (aR s 32)
theorem GJ (s:Int):(bN s).length=32:=mL _ _
def I9:aF:=⟨1,26,.seq (.reg [oO 2 (.alloc [(.d (.bool false)),.nil,.nil,.nil,(.d (.int .i64 0)),(.d (.int .i64 0))]),oO 3 (.alloc [(.d (.bool false)),.nil,.nil,.nil,(.d (.int .i64 0)),(.d (.int .i64 0))])]) (.seq (.reg [oM 9 0,oO 10 (.call 59 [(.t 9)] none),oM 11 0,oO 12 (.call 35 [(.t 11),(kI 20)] none),oO 13 (.call 58 [(.k (.c (.d (.bool true)))),(.t 10),(.t 12)] none),oM 8 13,oO 14 (.extract (.t 8) 0),oO 15 (.extract (.t 8) 1),oO 4 (.alloc [(.d (.bool false)),.nil,.nil,.nil,(.d (.int .i64 0)),(.d (.int .i64 0))]),oN (.store (.ag 6) (.t 4) (.t 14)),oM 5 15]) (.seq (.reg [oM 17 0,oO 18 (.call 59 [(.t 17)] none),oM 19 0,oO 20 (.call 35 [(.t 19),(kI 20)] none),oO 21 (.call 58 [(.k (.c (.d (.bool false)))),(.t 18),(.t 20)] none),oM 16 21,oO 22 (.extract (.t 16) 0),oO 23 (.extract (.t 16) 1),
 oO 6 (.alloc [(.d (.bool false)),.nil,.nil,.nil,(.d (.int .i64 0)),(.d (.int .i64 0))]),oN (.store (.ag 6) (.t 6) (.t 22)),oM 7 23]) (.seq (.reg [oO 24 (.loadX (.ag 6) (.t 4) [(.t 2),(.t 3)]),oO 25 (.loadX (.ag 6) (.t 6) [(.t 2),(.t 3)]),oN (.store (.ag 6) (.t 2) (.t 24)),oN (.store (.ag 6) (.t 3) (.t 25))]) (.ret)))),[(2,(some (.ag 6))),(3,(some (.ag 6)))]⟩
theorem TG:aE Tryz.prog { own:=[],comp:=[],frz:=[],nils:=[],lx:=[(24,[2,3]),(25,[2,3])] } Tryz.f23=some I9:=by kernel_rfl
theorem Kg (G:ai) (s:Int):au Tryz.prog G 23 [.int .i64 s] (.tup [.c (.d (bp (bf true (bN s) 0 0))),.c (.d (bp (bf false (bN s) 0 0)))]):=by
  refine aG Tryz.func23 TG rfl rfl ?_;have c1:=I8 G s;have c2:=o6 G s 20 (by decide);have l1:(aR s 32).length=32:=mD _ _;have l2:(aR s 20).length=20:=mD _ _;have e:oe (aR s 32)=0:=if_neg (by omega);have c3:=Kf G true (aR s 32) (aR s 20) (by omega) (by omega);have c4:=Kf G false (aR s 32) (aR s 20) (by omega) (by omega);rw[show oh true (aR s 32) (aR s 20)=bf true (bN s) 0 0 from if_pos e,e] at c3;rw[show oh false (aR s 32) (aR s 20)=bf false (bN s) 0 0 from if_pos e,e] at c4;generalize aR s 32=B1 at *
  generalize aR s 20=B2 at *
  generalize bf true (bN s) 0 0=X at *
  generalize bf false (bN s) 0 0=Y at *
  unfold bp at *
  simp only[I9,ah,af,aa,seval,iteOmega,toNatUp];refine sD (c1) ?_;refine sD (c2) ?_;refine sD (c3) ?_;refine sD (c1) ?_;refine sD (c2) ?_;refine sD (c4) ?_;exact aW

end Go.Proofs.YtlghfnidknfakaaGreatDoor
