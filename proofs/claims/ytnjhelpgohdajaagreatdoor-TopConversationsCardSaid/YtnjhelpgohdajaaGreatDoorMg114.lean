/- Texts of one's own, merged: from: Layer 6 on data: tags,sealed bytes,opened ones; both codes. Own work. -/
import Derived.Shelf.Abstract
import Derived.Test.YtnjhelpgohdajaaGreatDoorMg112
import Derived.Test.YtnjhelpgohdajaaGreatDoorMg110
import Derived.Test.YtnjhelpgohdajaaGreatDoorMg113
import Derived.Test.YtnjhelpgohdajaaGreatDoorMg17
set_option linter.unusedVariables false
set_option linter.unusedSimpArgs false
namespace Go.Proofs.YtnjhelpgohdajaaGreatDoor
open Go.RowKit IntWalk
set_option maxHeartbeats 1600000
def qW (tag:List UInt8):List UInt8:=(tag.set 8 (sI (tag.getD 8 0) 127)).set 12 (sI (tag.getD 12 0) 127)
theorem Gv (tag:List UInt8):(qW tag).length=tag.length:=by unfold qW; rw[arq,arq]
def dZ (key:List UInt8) (ad:List (List UInt8)) (b:List UInt8):List UInt8:=ot (bF (key.take 16)) (ad++[b])
theorem kZ (key:List UInt8) (ad:List (List UInt8)) (b:List UInt8):(dZ key ad b).length=16:=abm _ _
def fU (key tag b:List UInt8):List UInt8:=jV (bF (key.drop 16)) (qW tag) b
theorem lQ (key tag b:List UInt8):(fU key tag b).length=b.length:=AA _ _ _
def oh (l:List (List UInt8)):Bool:=l.any fun x=>decide (65519<x.length)
def dB (key:List UInt8) (ad:List (List UInt8)) (n:Int):Int:=if key.length≠32 then 5 else if 16<ad.length then 8 else if oh ad=true∨65519<n then 2 else 0
def wR (key:List UInt8) (ad:List (List UInt8)) (b:List UInt8):List UInt8:=if dB key ad b.length=0 then dZ key ad b else []
def fq (key:List UInt8) (ad:List (List UInt8)) (b:List UInt8):List UInt8:=if dB key ad b.length=0 then dZ key ad b++fU key (dZ key ad b) b else []
def iL (key:List UInt8) (ad:List (List UInt8)) (s:List UInt8):Int :=
  if dB key ad ((s.length:Int)-16)≠0 then dB key ad ((s.length:Int)-16) else if s.length<16 then 1 else if s.take 16=dZ key ad (fU key (s.take 16) (s.drop 16)) then 0 else 6
def i9 (key:List UInt8) (ad:List (List UInt8)) (s:List UInt8):List UInt8:=if iL key ad s=0 then fU key (s.take 16) (s.drop 16) else []
theorem YL {l:List (List UInt8)} (h:oh l=false):∀ x∈l,x.length≤65519:=by
  unfold oh at h;rw[aqU] at h;intro x hx
  simpa using h x hx
theorem IJ {key:List UInt8} {ad:List (List UInt8)} {n:Int} (h:dB key ad n=0):key.length=32∧ad.length≤16∧oh ad=false∧n≤65519:=by
  unfold dB at h;split at h
  ·cases h
  ·split at h
   ·cases h
   ·split at h
    ·cases h
    ·rename_i h1 h2 h3;cases hl:oh ad
     ·exact⟨by omega,by omega,rfl,by omega⟩
     ·exact absurd (.inl hl) h3
theorem Hu (key:List UInt8) (ad:List (List UInt8)) (n:Int):dB key ad n=0∨dB key ad n=5∨dB key ad n=8∨dB key ad n=2:=by
  unfold dB;split
  ·exact .inr (.inl rfl)
  ·split
   ·exact .inr (.inr (.inl rfl))
   ·split
    ·exact .inr (.inr (.inr rfl))
    ·exact .inl rfl
theorem aeD {k:List UInt8} {l:List (List UInt8)} (h:k.length=16) (hn:l.length≤17) (hl:∀ x∈l,x.length≤65535):KQ k l=ot (bF k) l∧D6 k l=0:=by
  have:pv l=false:=by
    unfold pv;rw[aqU];intro x hx;have:=hl x hx
    simpa using this
  refine⟨if_pos ⟨h,hn,this⟩,?_⟩;unfold D6;rw[if_neg (by omega),if_neg (by omega),this,if_neg (by simp)]
theorem YM {k c b:List UInt8} (h:k.length=16) (hc:c.length=16) (hb:b.length≤65535):C7 k c b=jV (bF k) c b∧px k c b=0:=by
  refine⟨if_pos ⟨h,hc,hb⟩,?_⟩;unfold px;rw[if_neg (by omega),if_neg (by omega),if_neg (by omega)]
theorem Se {ad:List (List UInt8)} {b:List UInt8} (h:oh ad=false) (hb:b.length≤65519):∀ x∈ad++[b],x.length≤65535:=by
  intro x hx;rcases aqg.1 hx with hx | hx
  ·have:=YL h x hx; omega
  ·simp only[apY] at hx; subst hx; omega
def Hv:aO:=⟨1,6,ae [bG 2 false] (ae [oM 3 0,bd 4 3,ak .gtr 5 4 65519,oM 2 5] .ret),[(2,none)]⟩
theorem aeF:aM Tryz.prog {} Tryz.f141=some Hv:=by kernel_rfl
theorem ajD (G:au) (x:List UInt8) (hx:x.length≤9223372036854775807):oo Tryz.prog G 141 [] [.sl (x.map bD)] (.w (.c (.d (.bool (decide (65519<x.length)))))):=by
  refine⟨enters_of Tryz.func141 (by kernel_rfl) rfl,?_⟩;refine aX Tryz.func141 aeF rfl rfl ?_;by_cases h:65519<x.length
  ·have hd:decide (65519<x.length)=true:=decide_eq_true h;rw[hd];simp only[Hv,ai,af,seval,iteOmega];exact aZ
  ·have hd:decide (65519<x.length)=false:=decide_eq_false h;rw[hd];simp only[Hv,ai,af,seval,iteOmega];exact aZ
def vN:aO:=⟨3,21,ae [am 6 0] (.seq (ae [oM 8 0,bd 9 8,ak .neq 10 9 32] (ar 10 (ae [am 6 5] .ret) .skip)) (.seq (ae [oM 11 1,bd 12 11,ak .gtr 13 12 16] (ar 13 (ae [am 6 8] .ret) .skip)) (ae [oO 7 (.mv (.k (.c (.d (.fn 141 [])))))] (.seq (ae [oM 14 1,oM 15 7,ct 16 123 14 15,oM 17 16,bJ 18 2 17 false,cC .gtr 19 18 65519 17 false,cv 20 17 19] (ar 20 (ae [am 6 2] .ret) .skip)) (ae [am 6 0] .ret))))),[(6,none)]⟩
theorem ajE:aM Tryz.prog {} Tryz.f111=some vN:=by kernel_rfl
theorem Uk (G:au) (key:List UInt8) (ad:List (List UInt8)) (n:Int) (hk:key.length≤9223372036854775807) (hl:ad.length≤9223372036854775807) (hb:∀ x∈ad,x.length≤9223372036854775807):aF Tryz.prog G 111 [.sl (key.map bD),dI ad,.int .i64 n] (.w (.c (.d (.int .i64 (dB key ad n))))):=by
  refine aX Tryz.func111 ajE rfl rfl ?_;have hc:=RX G ad 141 [] (fun x=>decide (65519<x.length)) hl (fun x hx=>ajD G x (hb x hx));have hL:(ad.any fun x=>decide (65519<x.length))=oh ad:=rfl;rw[hL] at hc;unfold dB;by_cases h:key.length=32
  ·rw[if_neg (by omega)];by_cases h2:16<ad.length
   ·rw[if_pos h2];simp only[vN,ai,af,seval,iteOmega];exact aZ
   ·rw[if_neg h2];cases hl:oh ad
    ·rw[hl] at hc;by_cases h3:65519<n
     ·rw[if_pos (.inr h3)];simp only[vN,ai,af,seval,iteOmega];refine sD (hc) ?_;exact aZ
     ·rw[if_neg (by simp; omega)];simp only[vN,ai,af,seval,iteOmega];refine sD (hc) ?_;exact aZ
    ·rw[hl] at hc;rw[if_pos (.inl rfl)];simp only[vN,ai,af,seval,iteOmega];refine sD (hc) ?_;exact aZ
  ·rw[if_pos h];simp only[vN,ai,af,seval,iteOmega];exact aZ
def Qn:aO:=⟨3,23,ae [aQ 6] (ae [oM 10 1,oM 11 2,oO 12 (.bldSl false 1 1 (.sl []) [(0,(.t 11))]),oO 13 (.bldSl false 2 1 (.sl []) [(0,(.t 10)),(1,(.t 12))]),aY 14 142 13,oM 7 14] (ae [oM 16 0,oO 17 (.slice 1 (.t 16) none (some (kI 16)) none),oM 18 7,oO 19 (.call 143 [(.t 17),(.t 18)] (some (0,1))),oM 15 19,aC 20 15 0,aC 21 15 1,oM 8 20,oM 9 21] (ae [oM 22 8,oM 6 22] .ret))),[(6,none)]⟩
theorem aeG:aM Tryz.prog { comp:=[(19,0)] } Tryz.f112=some Qn:=by kernel_rfl
theorem Sf (G:au) (key:List UInt8) (ad:List (List UInt8)) (b:List UInt8) (h:key.length=32) (hn:ad.length≤16) (hl:oh ad=false) (hb:b.length≤65519):aF Tryz.prog G 112 [.sl (key.map bD),dI ad,.sl (b.map bD)] (.w (.c (.fr 1 ((dZ key ad b).map bD)))):=by
  refine aX Tryz.func112 aeG rfl rfl ?_;have hf:[ad,[b]].flatten=ad++[b]:=by simp
  have hc:=ai9 G [ad,[b]] (by simp) (by rw[hf]; simp; omega);rw[hf] at hc;have hk:(key.take 16).length=16:=by rw[ap0]; omega
  obtain⟨v1,v2⟩:=aeD (l:=ad++[b]) hk (by simp; omega) (Se hl hb);have hv:=ajy G (key.take 16) (ad++[b]) (by omega) (by simp; omega) (fun x hx=>aqG (Se hl hb x hx) (by decide));rw[v1,v2] at hv;have ht:ot (bF (key.take 16)) (ad++[b])=dZ key ad b:=rfl;rw[ht] at hv;simp only[Qn,ai,af,seval];refine sD (hc) ?_;refine sD (hv) ?_;exact iP
theorem Hw {tag:List UInt8} (h:tag.length=16) {i:Nat} (hi:i<16):tag[i]?=some (tag.getD i 0):=by
  rw[apT,apR (by omega)]; rfl
theorem aeH {tag:List UInt8} (h:tag.length=16) (x:UInt8):(tag.set 8 x)[12]?=some (tag.getD 12 0):=by
  rw[List.getElem?_set_ne (by decide),Hw h (by decide)]
def Sg:aO:=⟨1,18,ae [aQ 2] (ae [oM 4 0,oO 5 (.bldSl false 1 1 (.sl []) [(0,(.t 4))]),oO 6 (.call 35 [(.t 5)] (some (0,1))),oM 3 6] (ae [oM 7 3,oO 8 (.idxSl 1 (.t 7) (kI 8)),aA 9 8,oO 10 (.bin .and (.t 9) (.k (.c (.d (.int .u8 127))))),oO 11 (.idxSl 1 (.t 7) (kI 8)),d6 11 10] (ae [oM 12 3,oO 13 (.idxSl 1 (.t 12) (kI 12)),aA 14 13,oO 15 (.bin .and (.t 14) (.k (.c (.d (.int .u8 127))))),oO 16 (.idxSl 1 (.t 12) (kI 12)),d6 16 15] (ae [oM 17 3,oM 2 17] .ret)))),[(2,none)]⟩
theorem ajF:aM Tryz.prog { own:=[6] } Tryz.f140=some Sg:=by kernel_rfl
theorem anx (G:au) (tag:List UInt8) (h:tag.length=16):aF Tryz.prog G 140 [.sl (tag.map bD)] (.w (.c (.fr 1 ((qW tag).map bD)))):=by
  refine aX Tryz.func140 ajF rfl rfl ?_;have hj:=dT G [tag] (by simp) (by simp; omega);have hf:[tag].flatten=tag:=by simp
  rw[hf] at hj;have g1:=Hw h (i:=8) (by decide);have g2:=Hw h (i:=12) (by decide);have g3:=aeH h (sI (tag.getD 8 0) 127);have x1:=RH (tag.getD 8 0) 127 127 rfl;have x2:=RH (tag.getD 12 0) 127 127 rfl;have hs:(tag.set 8 (sI (tag.getD 8 0) 127)).set 12 (sI (tag.getD 12 0) 127)=qW tag:=rfl;simp only[Sg,ai,af,seval];refine sC (hj) ?_;simp only[bc,g1,g3,x1,x2,Ha,hs,af,aa,seval,iteOmega,toNatUp];exact RG (by simp only[af,seval,Gv])
theorem anz (G:au) (tag:List UInt8) (h:tag.length=16):aF Tryz.prog G 140 [.sl (tag.map bD)] (.w (.c (.d (.sl ((qW tag).map bD))))):=qw (anx G tag h)
def Qo:aO:=⟨3,19,ae [aQ 6] (ae [oM 10 0,oO 11 (.slice 1 (.t 10) (some (kI 16)) none none),oM 12 1,aY 13 140 12,oM 14 2,oO 15 (.call 139 [(.t 11),(.t 13),(.t 14)] (some (0,1))),oM 9 15,aC 16 9 0,aC 17 9 1,oM 7 16,oM 8 17] (ae [oM 18 7,oM 6 18] .ret)),[(6,none)]⟩
theorem aeI:aM Tryz.prog { comp:=[(15,0)] } Tryz.f109=some Qo:=by kernel_rfl
theorem Si (G:au) (key tag b:List UInt8) (h:key.length=32) (ht:tag.length=16) (hb:b.length≤65535):aF Tryz.prog G 109 [.sl (key.map bD),.sl (tag.map bD),.sl (b.map bD)] (.w (.c (.fr 1 ((fU key tag b).map bD)))):=by
  refine aX Tryz.func109 aeI rfl rfl ?_;have hk:(key.drop 16).length=16:=by rw[ap5]; omega
  have hk2:(key.drop 16).take 16=key.drop 16:=apX (by omega);obtain⟨v1,v2⟩:=YM (c:=qW tag) (b:=b) hk (by rw[Gv]; exact ht) hb;have hv:=anv G (key.drop 16) (qW tag) b (by omega) (by rw[Gv]; omega) (by omega);rw[v1,v2] at hv;have hs:jV (bF (key.drop 16)) (qW tag) b=fU key tag b:=rfl;rw[hs] at hv;simp only[Qo,ai,af,seval,toNatUp,h];refine sC (anz G tag ht) ?_;simp only[hk2,af,seval];refine sD (hv) ?_;exact iP
theorem ajG (G:au) (key tag b:List UInt8) (h:key.length=32) (ht:tag.length=16) (hb:b.length≤65535):aF Tryz.prog G 109 [.sl (key.map bD),.sl (tag.map bD),.sl (b.map bD)] (.w (.c (.d (.sl ((fU key tag b).map bD))))):=qw (Si G key tag b h ht hb)
def IK:aO:=⟨3,21,ae [aQ 6,am 7 0] (.seq (ae [oM 9 0,oM 10 1,oM 11 2,bd 12 11,gq 13 111 9 10 12,oM 8 13] (ae [oM 14 8,ak .neq 15 14 0] (ar 15 (ae [oM 16 8,aQ 6,oM 7 16] .ret) .skip))) (ae [oM 17 0,oM 18 1,oM 19 2,oO 20 (.call 112 [(.t 17),(.t 18),(.t 19)] (some (0,1))),oM 6 20,am 7 0] .ret)),[(6,none),(7,none)]⟩
theorem ajH:aM Tryz.prog { own:=[20] } Tryz.f108=some IK:=by kernel_rfl
theorem anA (G:au) (key:List UInt8) (ad:List (List UInt8)) (b:List UInt8) (hk:key.length≤9223372036854775807) (hl:ad.length≤9223372036854775807) (hx:∀ x∈ad,x.length≤9223372036854775807) (hb:b.length≤9223372036854775807):aF Tryz.prog G 108 [.sl (key.map bD),dI ad,.sl (b.map bD)] (.tup [.c (.fr 1 ((wR key ad b).map bD)),.c (.d (.int .i64 (dB key ad b.length)))]):=by
  refine aX Tryz.func108 ajH rfl rfl ?_;have hc:=Uk G key ad (b.length:Int) hk hl hx;by_cases he:dB key ad (b.length:Int)=0
  ·have hv:wR key ad b=dZ key ad b:=if_pos he;obtain⟨k1,k2,k3,k4⟩:=IJ he;rw[he] at hc ⊢;rw[hv];simp only[IK,ai,af,seval];refine sD (hc) ?_;refine sD (Sf G key ad b k1 k2 k3 (by omega)) ?_;exact d7
  ·have hv:wR key ad b=[]:=if_neg he;rw[hv];have hne:dB key ad (b.length:Int)=0↔False:=⟨he,False.elim⟩
   rcases Hu key ad b.length with e | e | e | e
   ·exact absurd e he
   all_goals
     rw[e] at hc ⊢;simp only[IK,ai,af,seval];refine bM hc rfl (.inl rfl) ?_;simp only[af,seval];exact d7
theorem anB (G:au) (key:List UInt8) (ad:List (List UInt8)) (b:List UInt8) (hk:key.length≤9223372036854775807) (hl:ad.length≤9223372036854775807) (hx:∀ x∈ad,x.length≤9223372036854775807) (hb:b.length≤9223372036854775807):aF Tryz.prog G 108 [.sl (key.map bD),dI ad,.sl (b.map bD)] (.tup [.c (.d (.sl ((wR key ad b).map bD))),.c (.d (.int .i64 (dB key ad b.length)))]):=vn (anA G key ad b hk hl hx hb)
def Hy:aO:=⟨3,27,ae [aQ 6,am 7 0] (ae [oM 11 0,oM 12 1,oM 13 2,gq 14 108 11 12 13,oM 10 14,aC 15 10 0,aC 16 10 1,oM 8 15,oM 9 16] (.seq (ae [oM 17 9,ak .neq 18 17 0] (ar 18 (ae [oM 19 9,aQ 6,oM 7 19] .ret) .skip)) (ae [oM 20 8,oM 21 0,oM 22 8,oM 23 2,gq 24 109 21 22 23,oO 25 (.bldSl false 2 1 (.sl []) [(0,(.t 20)),(1,(.t 24))]),oO 26 (.call 35 [(.t 25)] (some (0,1))),oM 6 26,am 7 0] .ret))),[(6,none),(7,none)]⟩
theorem aeJ:aM Tryz.prog { own:=[26] } Tryz.f63=some Hy:=by kernel_rfl
theorem ajI (G:au) (key:List UInt8) (ad:List (List UInt8)) (b:List UInt8) (hk:key.length≤9223372036854775807) (hl:ad.length≤9223372036854775807) (hx:∀ x∈ad,x.length≤9223372036854775807) (hb:b.length≤9223372036854775807):aF Tryz.prog G 63 [.sl (key.map bD),dI ad,.sl (b.map bD)] (.tup [.c (.fr 1 ((fq key ad b).map bD)),.c (.d (.int .i64 (dB key ad b.length)))]):=by
  refine aX Tryz.func63 aeJ rfl rfl ?_;have hc:=anB G key ad b hk hl hx hb;by_cases he:dB key ad (b.length:Int)=0
  ·have hv:wR key ad b=dZ key ad b:=if_pos he;have hv2:fq key ad b=dZ key ad b++fU key (dZ key ad b) b:=if_pos he;obtain⟨k1,k2,k3,k4⟩:=IJ he;have hj:=dT G [dZ key ad b,fU key (dZ key ad b) b] (by simp) (by simp[kZ,lQ]; omega);have hf:[dZ key ad b,fU key (dZ key ad b) b].flatten=dZ key ad b++fU key (dZ key ad b) b:=by simp
   rw[hf] at hj;rw[he,hv] at hc;rw[he,hv2];simp only[Hy,ai,af,seval];refine sD (hc) ?_;refine sD (ajG G key (dZ key ad b) b k1 (kZ _ _ _) (by omega)) ?_;refine sD (hj) ?_;exact d7
  ·have hv:wR key ad b=[]:=if_neg he;have hv2:fq key ad b=[]:=if_neg he;rw[hv] at hc;rw[hv2];rcases Hu key ad b.length with e | e | e | e
   ·exact absurd e he
   all_goals
     rw[e] at hc ⊢;simp only[Hy,ai,af,seval];refine bM hc rfl (.inl rfl) ?_;simp only[af,seval];exact d7
theorem IL (G:au) (key:List UInt8) (ad:List (List UInt8)) (b:List UInt8) (hk:key.length≤9223372036854775807) (hl:ad.length≤9223372036854775807) (hx:∀ x∈ad,x.length≤9223372036854775807) (hb:b.length≤9223372036854775807):aF Tryz.prog G 63 [.sl (key.map bD),dI ad,.sl (b.map bD)] (.tup [.c (.d (.sl ((fq key ad b).map bD))),.c (.d (.int .i64 (dB key ad b.length)))]):=vn (ajI G key ad b hk hl hx hb)
theorem aeK {key:List UInt8} {ad:List (List UInt8)} {s:List UInt8} (h:dB key ad ((s.length:Int)-16)≠0):iL key ad s=dB key ad ((s.length:Int)-16)∧i9 key ad s=[]:=by
  have:iL key ad s=dB key ad ((s.length:Int)-16):=if_pos h;refine⟨this,?_⟩;unfold i9;rw[if_neg (by rw[this]; exact h)]
theorem YN {key:List UInt8} {ad:List (List UInt8)} {s:List UInt8} (h:dB key ad ((s.length:Int)-16)=0) (hs:s.length<16):iL key ad s=1∧i9 key ad s=[]:=by
  have:iL key ad s=1:=by unfold iL; rw[if_neg (by simp[h]),if_pos hs]
  refine⟨this,?_⟩;unfold i9;rw[if_neg (by rw[this]; decide)]
theorem Sj {key:List UInt8} {ad:List (List UInt8)} {s:List UInt8} (h:dB key ad ((s.length:Int)-16)=0) (hs:¬ s.length<16) (ht:s.take 16=dZ key ad (fU key (s.take 16) (s.drop 16))):iL key ad s=0∧i9 key ad s=fU key (s.take 16) (s.drop 16):=by
  have:iL key ad s=0:=by unfold iL; rw[if_neg (by simp[h]),if_neg hs,if_pos ht]
  exact⟨this,if_pos this⟩
theorem abE {key:List UInt8} {ad:List (List UInt8)} {s:List UInt8} (h:dB key ad ((s.length:Int)-16)=0) (hs:¬ s.length<16) (ht:s.take 16≠dZ key ad (fU key (s.take 16) (s.drop 16))):iL key ad s=6∧i9 key ad s=[]:=by
  have:iL key ad s=6:=by unfold iL; rw[if_neg (by simp[h]),if_neg hs,if_neg ht]
  refine⟨this,?_⟩;unfold i9;rw[if_neg (by rw[this]; decide)]
def yK:aO:=⟨3,38,ae [aQ 6,am 7 0] (.seq (ae [oM 11 0,oM 12 1,oM 13 2,bd 14 13,ak .sub 15 14 16,gq 16 111 11 12 15,oM 8 16] (ae [oM 17 8,ak .neq 18 17 0] (ar 18 (ae [oM 19 8,aQ 6,oM 7 19] .ret) .skip))) (.seq (ae [oM 20 2,bd 21 20,ak .lss 22 21 16] (ar 22 (ae [aQ 6,am 7 1] .ret) .skip)) (ae [oM 23 2,oO 24 (.slice 1 (.t 23) none (some (kI 16)) none),oM 9 24] (ae [oM 25 0,oM 26 9,oM 27 2,oO 28 (.slice 1 (.t 27) (some (kI 16)) none none),oO 29 (.call 109 [(.t 25),(.t 26),(.t 28)] (some (0,1))),oM 10 29] (.seq (ae [oM 30 9,oM 31 0,oM 32 1,oM 33 10,gq 34 112 31 32 33,ct 35 81 30 34,cW 36 35] (ar 36 (ae [aQ 6,am 7 6] .ret) .skip)) (ae [oM 37 10,oM 6 37,am 7 0] .ret)))))),[(6,none),(7,none)]⟩
theorem ajJ:aM Tryz.prog { own:=[29] } Tryz.f67=some yK:=by kernel_rfl
theorem anC (G:au) (key:List UInt8) (ad:List (List UInt8)) (s:List UInt8) (hk:key.length≤9223372036854775807) (hl:ad.length≤9223372036854775807) (hx:∀ x∈ad,x.length≤9223372036854775807) (hb:s.length≤9223372036854775807):aF Tryz.prog G 67 [.sl (key.map bD),dI ad,.sl (s.map bD)] (.tup [.c (.fr 1 ((i9 key ad s).map bD)),.c (.d (.int .i64 (iL key ad s)))]):=by
  refine aX Tryz.func67 ajJ rfl rfl ?_;have hc:=Uk G key ad ((s.length:Int)-16) hk hl hx;by_cases he:dB key ad ((s.length:Int)-16)=0
  ·obtain⟨k1,k2,k3,k4⟩:=IJ he;rw[he] at hc;by_cases hs:s.length<16
   ·obtain⟨e1,e2⟩:=YN he hs;rw[e1,e2];simp only[yK,ai,af,seval,iteOmega];refine sD (hc) ?_;exact d7
   ·have ht:(s.take 16).length=16:=by rw[ap0]; omega
    have hd:(s.drop 16).length=s.length-16:=ap5;have hd2:(s.drop 16).take (s.length-16)=s.drop 16:=apX (by omega);have c1:=Si G key (s.take 16) (s.drop 16) k1 ht (by omega);have c2:=Sf G key ad (fU key (s.take 16) (s.drop 16)) k1 k2 k3 (by rw[lQ]; omega);have c3:=rV G (s.take 16) (dZ key ad (fU key (s.take 16) (s.drop 16)));by_cases hq:s.take 16=dZ key ad (fU key (s.take 16) (s.drop 16))
    ·obtain⟨e1,e2⟩:=Sj he hs hq;have hb:(s.take 16==dZ key ad (fU key (s.take 16) (s.drop 16)))=true:=beq_iff_eq.2 hq;rw[hb] at c3;rw[e1,e2];simp only[yK,ai,af,seval,iteOmega];refine sC (hc) ?_;simp only[hd2,af,seval,iteOmega,toNatUp];refine sD (c1) ?_;refine bM (c2) (by simp only[af,seval,iteOmega]) (.inr (ub _ _)) ?_;simp only[af,seval];refine sD (c3) ?_;exact d7
    ·obtain⟨e1,e2⟩:=abE he hs hq;have hb:(s.take 16==dZ key ad (fU key (s.take 16) (s.drop 16)))=false:=by simpa using hq
     rw[hb] at c3;rw[e1,e2];simp only[yK,ai,af,seval,iteOmega];refine sC (hc) ?_;simp only[hd2,af,seval,iteOmega,toNatUp];refine sD (c1) ?_;refine bM (c2) (by simp only[af,seval,iteOmega]) (.inr (ub _ _)) ?_;simp only[af,seval];refine sD (c3) ?_;exact d7
  ·obtain⟨e1,e2⟩:=aeK he;rw[e1,e2];rcases Hu key ad ((s.length:Int)-16) with e | e | e | e
   ·exact absurd e he
   all_goals
     rw[e] at hc ⊢;simp only[yK,ai,af,seval,iteOmega];refine bM hc rfl (.inl rfl) ?_;simp only[af,seval];exact d7
theorem JQ (G:au) (key:List UInt8) (ad:List (List UInt8)) (s:List UInt8) (hk:key.length≤9223372036854775807) (hl:ad.length≤9223372036854775807) (hx:∀ x∈ad,x.length≤9223372036854775807) (hb:s.length≤9223372036854775807):aF Tryz.prog G 67 [.sl (key.map bD),dI ad,.sl (s.map bD)] (.tup [.c (.d (.sl ((i9 key ad s).map bD))),.c (.d (.int .i64 (iL key ad s)))]):=vn (anC G key ad s hk hl hx hb)
theorem A4 {key:List UInt8} {ad:List (List UInt8)} {n:Int} (h:key.length=32) (h2:ad.length≤16) (h3:∀ x∈ad,x.length≤65519) (h4:n≤65519):dB key ad n=0:=by
  have:oh ad=false:=by
    unfold oh;rw[aqU];intro x hx;have:=h3 x hx
    simpa using this
  unfold dB;rw[if_neg (by omega),if_neg (by omega),if_neg (by rw[this]; simp; omega)]
theorem Ma (key tag b:List UInt8):fU key tag (fU key tag b)=b:=We _ _ _
theorem nS {key b:List UInt8} {ad:List (List UInt8)} (h:dB key ad b.length=0):fq key ad b=dZ key ad b++fU key (dZ key ad b) b:=if_pos h
theorem MR {key b:List UInt8} {ad:List (List UInt8)} (T:List UInt8):(dZ key ad b++T).take 16=dZ key ad b:=by
  rw[aqK (by rw[kZ]; exact ap3 _),apX (by rw[kZ]; exact ap3 _)]
theorem MS {key b:List UInt8} {ad:List (List UInt8)} (T:List UInt8):(dZ key ad b++T).drop 16=T:=by
  have:=List.drop_left (l₁:=dZ key ad b) (l₂:=T);rw[kZ] at this;exact this
theorem Gw {key b:List UInt8} {ad:List (List UInt8)} (h:dB key ad b.length=0):iL key ad (dZ key ad b++fU key (dZ key ad b) b)=0∧i9 key ad (dZ key ad b++fU key (dZ key ad b) b)=b:=by
  have hl:(dZ key ad b++fU key (dZ key ad b) b).length=16+b.length:=by rw[apS,kZ,lQ]
  have he:dB key ad (((dZ key ad b++fU key (dZ key ad b) b).length:Int)-16)=0:=by rw[hl,show ((16+b.length:Nat):Int)-16=(b.length:Int) by omega]; exact h
  obtain⟨e1,e2⟩:=Sj he (by omega) (by rw[MR,MS,Ma]);refine⟨e1,?_⟩;rw[e2,MR,MS,Ma]
def zm:List UInt8:=[115,101,99,116,105,109,101,32,117,112]
def zn:List UInt8:=[115,101,99,116,105,109,101,32,100,111,119,110]
def wi:List UInt8:=[115,101,99,116,105,109,101,32,101,120,112,111,114,116]
structure Ch where
  cl:Bool
  se:List UInt8
  sk:List UInt8
  rk:List UInt8
  n:Int
  m:Int
def bX (c:Ch):D:=.agg [.bool c.cl,.sl (c.se.map bD),.sl (c.sk.map bD),.sl (c.rk.map bD),.int .i64 c.n,.int .i64 c.m]
def ib (K:List UInt8):List UInt8:=j5 K zm 32
def iB (K:List UInt8):List UInt8:=j5 K zn 32
theorem aeZ (K:List UInt8):(ib K).length=32:=yf _ _ _
theorem ae0 (K:List UInt8):(iB K).length=32:=yf _ _ _
def bV (cl:Bool) (K:List UInt8) (n m:Int):Ch:=⟨cl,K,bif cl then ib K else iB K,bif cl then iB K else ib K,n,m⟩
def jI:Ch:=⟨false,[],[],[],0,0⟩
def eV (c:Ch):Prop:=c.se.length=32∧(0≤c.n∧c.n≤1099511627776)∧(0≤c.m∧c.m≤1099511627776)∧c.sk=(bif c.cl then ib c.se else iB c.se)∧c.rk=(bif c.cl then iB c.se else ib c.se)
instance (c:Ch):Decidable (eV c):=by unfold eV; exact inferInstance
theorem IP (cl:Bool) (K:List UInt8):(bif cl then ib K else iB K).length=32:=by
  cases cl
  ·rw[cond_false]; exact ae0 K
  ·rw[cond_true]; exact aeZ K
theorem ajV (cl:Bool) (K:List UInt8) (m n:Int):(bV (!cl) K m n).rk=(bif cl then ib K else iB K):=by
  show (bif !cl then iB K else ib K)=_
  cases cl
  ·rw[Bool.not_false,cond_true,cond_false]
  ·rw[Bool.not_true,cond_false,cond_true]
theorem J3 {c:Ch} (h:eV c):c.sk.length=32:=by
  obtain⟨_,_,_,e,_⟩:=h;rw[e];exact IP _ _
theorem J4 {c:Ch} (h:eV c):c.rk.length=32:=by
  obtain⟨_,_,_,_,e⟩:=h;rw[e];have:=IP (!c.cl) c.se;cases hc:c.cl
  ·rw[hc,Bool.not_false,cond_true] at this;rw[cond_false]; exact this
  ·rw[hc,Bool.not_true,cond_false] at this;rw[cond_true]; exact this
def xk (s:List UInt8):Int:=if s.length<16∨65535<s.length then 5 else 0
def xm (cl:Bool) (s h:List UInt8):Ch:=if xk s=0 then bV cl (mg (dN h) s) 0 0 else jI
def dK (k:Int) (n:Nat):List UInt8:=UInt8.ofNat k.toNat::aG (n+16) 2
theorem tx (k:Int) (n:Nat):(dK k n).length=3:=rfl
def fO (n:Int) (h:List UInt8):List (List UInt8):=[aG n.toNat 8,h]
def jJ (c:Ch) (k:Int) (b:List UInt8):Int:=if ¬ eV c then 3 else if k<0∨255<k then 4 else if 16384<b.length then 2 else if c.n=1099511627776 then 7 else 0
def Eq (c:Ch) (k:Int) (b:List UInt8):Ch:=if jJ c k b=0 then ⟨c.cl,c.se,c.sk,c.rk,c.n+1,c.m⟩ else jI
def Er (c:Ch) (k:Int) (b:List UInt8):List UInt8:=if jJ c k b=0 then dK k b.length++fq c.sk (fO c.n (dK k b.length)) b else []
def uv (c:Ch) (r:List UInt8):Int:=iL c.rk (fO c.m (r.take 3)) (r.drop 3)
def lE (r:List UInt8):Int:=if r.length<3 then 1 else if r.length-3<bq (aK r 1 2) then 1 else if bq (aK r 1 2)<r.length-3∨16400<bq (aK r 1 2) then 2 else 0
def jK (c:Ch) (r:List UInt8):Int:=if ¬ eV c then 3 else if ¬ lE r=0 then lE r else if c.m=1099511627776 then 7 else if uv c r=0 then 0 else 6
def zX (c:Ch) (r:List UInt8):Ch:=if jK c r=0 then ⟨c.cl,c.se,c.sk,c.rk,c.n,c.m+1⟩ else jI
def xn (c:Ch) (r:List UInt8):Int:=if jK c r=0 then ((r.getD 0 0).toNat:Int) else 0
def xo (c:Ch) (r:List UInt8):List UInt8:=if jK c r=0 then i9 c.rk (fO c.m (r.take 3)) (r.drop 3) else []
def VI (c:Ch) (n:Int):Int:=if eV c then sO n else 3
def D7 (c:Ch) (l x:List UInt8) (n:Int):List UInt8:=if eV c then nE c.se (qZ wi l x) n else []
theorem zG {cl:Bool} {K:List UInt8} {n m:Int} (h:K.length=32) (h1:0≤n∧n≤1099511627776) (h2:0≤m∧m≤1099511627776):eV (bV cl K n m):=⟨h,h1,h2,rfl,rfl⟩
theorem abU (k:Int) (n:Nat) (S:List UInt8):(dK k n++S).take 3=dK k n∧(dK k n++S).drop 3=S∧aK (dK k n++S) 1 2=aG (n+16) 2∧(dK k n++S).getD 0 0=UInt8.ofNat k.toNat:=by
  refine⟨List.take_left' (tx k n),List.drop_left' (tx k n),?_,rfl⟩;have:=ng [UInt8.ofNat k.toNat] (aG (n+16) 2) S;rw[bS] at this;exact this
theorem QA {cl:Bool} {K b:List UInt8} {n m k:Int} (h:K.length=32) (h1:0≤n∧n<1099511627776) (h2:0≤m∧m≤1099511627776) (hk:0≤k∧k≤255) (hb:b.length≤16384) :
    ∃ R:List UInt8,(jJ (bV cl K n m) k b=0∧Eq (bV cl K n m) k b=bV cl K (n+1) m∧Er (bV cl K n m) k b=R∧R.length=b.length+19) ∧
      (jK (bV (!cl) K m n) R=0∧zX (bV (!cl) K m n) R=bV (!cl) K m (n+1)∧xn (bV (!cl) K m n) R=k∧xo (bV (!cl) K m n) R=b):=by
  have e:jJ (bV cl K n m) k b=0:=by
    unfold jJ;rw[if_neg (not_not_intro (zG h ⟨h1.1,by omega⟩ h2)),if_neg (by omega),if_neg (by omega),if_neg (show ¬ (bV cl K n m).n=1099511627776 from fun q=>absurd (show n=1099511627776 from q) (by omega))]
  have ks:(bif cl then ib K else iB K).length=32:=IP cl K;have kr:(bV (!cl) K m n).rk=(bif cl then ib K else iB K):=ajV cl K m n;have ha:dB (bif cl then ib K else iB K) (fO n (dK k b.length)) b.length=0:=A4 ks (show (2:Nat)≤16 by decide) (fun x hx=>by
    rcases aqh.1 hx with rfl | hx
    ·rw[bS]; decide
    ·rw[apY.1 hx,tx]; decide) (by omega)
  obtain⟨o1,o2⟩:=Gw ha;refine⟨_,⟨e,if_pos e,if_pos e,?_⟩,?_⟩
  ·show (dK k b.length++fq (bif cl then ib K else iB K) (fO n (dK k b.length)) b).length=_
   rw[nS ha,apS,apS,tx,kZ,lQ]; omega
  ·show jK _ (dK k b.length++fq (bif cl then ib K else iB K) (fO n (dK k b.length)) b)=0∧zX _ (dK k b.length++fq (bif cl then ib K else iB K) (fO n (dK k b.length)) b)=_∧xn _ (dK k b.length++fq (bif cl then ib K else iB K) (fO n (dK k b.length)) b)=k∧xo _ (dK k b.length++fq (bif cl then ib K else iB K) (fO n (dK k b.length)) b)=b
   have hl:(fq (bif cl then ib K else iB K) (fO n (dK k b.length)) b).length=b.length+16:=by rw[nS ha,apS,kZ,lQ]; omega
   rw[← nS ha] at o1 o2;generalize fq (bif cl then ib K else iB K) (fO n (dK k b.length)) b=S at *
   obtain⟨t3,d3,c3,w3⟩:=abU k b.length S;have g3:bq (aK (dK k b.length++S) 1 2)=b.length+16:=by rw[c3,get_put 2 (by decide)]; omega
   have ll:(dK k b.length++S).length=b.length+19:=by rw[apS,tx,hl]; omega
   have hx:uv (bV (!cl) K m n) (dK k b.length++S)=0:=by
     unfold uv;rw[t3,d3,kr];exact o1
   have pe:lE (dK k b.length++S)=0:=by
     unfold lE;rw[if_neg (by omega),if_neg (by omega),if_neg (by omega)]
   have e2:jK (bV (!cl) K m n) (dK k b.length++S)=0:=by
     unfold jK;rw[if_neg (not_not_intro (zG h h2 ⟨h1.1,by omega⟩)),if_neg (not_not_intro pe),if_neg (show ¬ (bV (!cl) K m n).m=1099511627776 from fun q=>absurd (show n=1099511627776 from q) (by omega)),if_pos hx]
   refine⟨e2,if_pos e2,?_,?_⟩
   ·unfold xn;rw[if_pos e2];rw[w3,UInt8.toNat_ofNat'];omega
   ·unfold xo;rw[if_pos e2,t3,d3,kr];exact o2
def Es:ByteArray:=⟨#[115,101,99,116,105,109,101,32,117,112]⟩
def Et:ByteArray:=⟨#[115,101,99,116,105,109,101,32,100,111,119,110]⟩
def zZ (K:List UInt8):Nat→List D
  | 0=>[.sl [],.sl []]
  | 1=>[.sl ((ib K).map bD),.sl []]
  | _=>[.sl ((ib K).map bD),.sl ((iB K).map bD)]
def zJ (cl:Bool) (K:List UInt8) (i:Nat):St:=⟨bw [(0,.w (.c (.d (.bool cl)))),(1,.w (.c (.d (.sl (K.map bD))))),(7,.w (.c (.pa 1 1))),(11,.w (.c (.d (.agg [.str Es,.str Et])))),(12,.w (.c (.d (.int .i64 (i:Int)))))],hL [(1,.row 1 (zZ K i))],uL [1]⟩
def yh:bp := ae [ak .lss 13 12 2] (.seq (ar 13 .skip (.exit 0)) (.seq (.block 1 (ae [oM 14 12,oO 15 (.idxArr 1 2 .sc (.t 11) (.t 12)),oM 8 14,oM 9 15] (.reg [oM 17 8,oM 18 1,oM 19 9,oO 20 (.s2b false (.t 19)),oO 21 (.call 83 [(.t 18),(.t 20),(kI 32)] none),oM 16 21,aC 22 16 0,aC 23 16 1,oO 24 (.idxPa 1 2 (.t 7) (.t 17)),d6 24 22]))) (.reg [ak .add 25 12 1,oM 12 25])))
def SQ:aO:=⟨2,35,ae [aQ 4,aQ 5] (ae [oO 10 (.build [(.d (.str ⟨#[]⟩)),(.d (.str ⟨#[]⟩))] [(0,1,(.k (.c (.d (.str ⟨#[115,101,99,116,105,109,101,32,117,112]⟩))))),(1,1,(.k (.c (.d (.str ⟨#[115,101,99,116,105,109,101,32,100,111,119,110]⟩)))))]),oO 6 (.allocArr [(.str ⟨#[]⟩),(.str ⟨#[]⟩)]),aS 2 6 10] (ae [oO 7 (.allocArr [(.sl []),(.sl [])])] (.seq (ae [bn 11 2 6,am 12 0] (.block 0 (.loop yh))) (.seq (ae [oM 26 0] (ar 26 (ae [oO 27 (.idxPa 1 2 (.t 7) (kI 0)),aA 28 27,oO 29 (.idxPa 1 2 (.t 7) (kI 1)),aA 30 29,oM 4 28,oM 5 30] .ret) .skip)) (ae [oO 31 (.idxPa 1 2 (.t 7) (kI 1)),aA 32 31,oO 33 (.idxPa 1 2 (.t 7) (kI 0)),aA 34 33,oM 4 32,oM 5 34] .ret))))),[(4,none),(5,none)]⟩
theorem aj9:aM Tryz.prog {} Tryz.f107=some SQ:=by kernel_rfl
theorem anO (G:au) (hF:G.at 0=some (.ra (dY.map wD))) (hG:G.at 1=some (.ra (cy.map wD))) (cl:Bool) (K:List UInt8) (hK:K.length≤140737488355328):aF Tryz.prog G 107 [.bool cl,.sl (K.map bD)] (.tup [.c (.d (.sl ((bV cl K 0 0).sk.map bD))),.c (.d (.sl ((bV cl K 0 0).rk.map bD)))]):=by
  refine aX Tryz.func107 aj9 rfl rfl ?_;have s1:Es.size≤maxLen:=by unfold maxLen; decide
  have s2:Et.size≤maxLen:=by unfold maxLen; decide
  have c1:=Df G hF hG K Es.data.toList hK (by decide) 32 (by decide) (by decide);have c2:=Df G hF hG K Et.data.toList hK (by decide) 32 (by decide) (by decide);rw[show nE K Es.data.toList 32=ib K from rJ K zm (by decide),tw (by decide)] at c1;rw[show nE K Et.data.toList 32=iB K from rJ K zn (by decide),tw (by decide)] at c2;simp only[SQ,ai,af,aa,seval];refine bO (zJ cl K) (fun i=>2-i) (fun i=>i≤2) 0 (by decide) ?_ ?_
  ·refine aR (fun i=>56) ?_ ?_ rfl rfl <;> simp only[wx,aH,seval] <;> first | rfl | exact⟨rfl,rfl⟩ | skip
  ·intro i hi;have h3:i=0∨i=1∨i=2:=by omega
   rcases h3 with rfl | rfl | rfl
   ·simp only[yh,zJ,zZ,af,seval,toNatUp,s1];refine sD (c1) ?_;refine bA 1 (by decide) (by decide) (aR (fun i=>i) ?_ ?_ rfl rfl) <;> simp only[wx,aH,seval] <;> first | rfl | exact⟨rfl,rfl⟩ | skip
   ·simp only[yh,zJ,zZ,af,seval,toNatUp,s2];refine sD (c2) ?_;refine bA 2 (by decide) (by decide) (aR (fun i=>i) ?_ ?_ rfl rfl) <;> simp only[wx,aH,seval] <;> first | rfl | exact⟨rfl,rfl⟩ | skip
   ·unfold bV;cases cl
    ·rw[cond_false,cond_false];simp only[yh,zJ,zZ,af,seval,toNatUp];exact bz
    ·rw[cond_true,cond_true];simp only[yh,zJ,zZ,af,seval,toNatUp];exact bz
def uA (n:Int):Bool:=decide (0≤n∧n≤1099511627776)
def Ct:aO:=⟨1,9,ae [bG 2 false] (ae [oM 3 0,oO 4 (.bin .leq (kI 0) (.t 3)),oM 5 4,bJ 6 0 5 true,cC .leq 7 6 1099511627776 5 true,ek 8 5 7,oM 2 8] .ret),[(2,none)]⟩
theorem aka:aM Tryz.prog {} Tryz.f106=some Ct:=by kernel_rfl
theorem Uz (G:au) (n:Int):aF Tryz.prog G 106 [.int .i64 n] (.w (.c (.d (.bool (uA n))))):=by
  refine aX Tryz.func106 aka rfl rfl ?_;unfold uA;by_cases h1:0≤n
  ·have g1:(0≤n)=True:=eq_true h1;by_cases h2:n≤1099511627776
   ·have g2:(n≤1099511627776)=True:=eq_true h2;rw[decide_eq_true (And.intro h1 h2)];simp only[Ct,ai,af,seval,g1,g2];exact aZ
   ·have g2:(n≤1099511627776)=False:=eq_false h2;rw[decide_eq_false (fun h=>h2 h.2)];simp only[Ct,ai,af,seval,g1,g2];exact aZ
  ·have g1:(0≤n)=False:=eq_false h1;rw[decide_eq_false (fun h=>h1 h.1)];simp only[Ct,ai,af,seval,g1];exact aZ
theorem vdb (c:Ch):decide (eV c)=(decide (c.se.length=32)&&uA c.n&&uA c.m&&(c.sk==(bV c.cl c.se 0 0).sk)&&(c.rk==(bV c.cl c.se 0 0).rk)):=by
  rw[Bool.eq_iff_iff];unfold eV uA bV;simp only[decide_eq_true_eq,aqm,beq_iff_eq,and_assoc]
def vO:aO:=⟨1,39,ae [cX 1 0,bG 2 false] (.seq (ae [aL 5 1 1,aA 6 5,bd 7 6,ak .neq 8 7 32,oM 9 8,dF 10 4 1 9 false,dt 11 10 9 false,oG 12 (.call 106 [(.t 11)] none) 9 false,gn 13 12 9 false,cv 14 9 13,oM 15 14,dF 16 5 1 15 false,dt 17 16 15 false,oG 18 (.call 106 [(.t 17)] none) 15 false,gn 19 18 15 false,cv 20 15 19] (ar 20 (ae [bG 2 false] .ret) .skip)) (ae [aL 22 0 1,aA 23 22,aL 24 1 1,aA 25 24,ct 26 107 23 25,oM 21 26,aC 27 21 0,aC 28 21 1,oM 3 27,oM 4 28] (ae [aL 29 2 1,aA 30 29,oM 31 3,ct 32 81 30 31,oM 33 32,dF 34 3 1 33 true,dt 35 34 33 true,bJ 36 4 33 true,oG 37 (.call 81 [(.t 35),(.t 36)] none) 33 true,ek 38 33 37,oM 2 38] .ret))),[(2,none)]⟩
theorem akb:aM Tryz.prog {} Tryz.f61=some vO:=by kernel_rfl
theorem wm (G:au) (hF:G.at 0=some (.ra (dY.map wD))) (hG:G.at 1=some (.ra (cy.map wD))) (c:Ch):aF Tryz.prog G 61 [bX c] (.w (.c (.d (.bool (decide (eV c)))))):=by
  refine aX Tryz.func61 akb rfl rfl ?_;rw[vdb];have c1:=Uz G c.n;have c2:=Uz G c.m;by_cases h:c.se.length=32
  ·have g:(((c.se.length:Nat):Int)=32)=True:=eq_true (by omega);have c3:=anO G hF hG c.cl c.se (by omega);have c4:=rV G c.sk (bV c.cl c.se 0 0).sk;have c5:=rV G c.rk (bV c.cl c.se 0 0).rk;rw[decide_eq_true h];generalize (bV c.cl c.se 0 0).sk=S at *
   generalize (bV c.cl c.se 0 0).rk=R at *
   generalize (c.sk==S)=q1 at *
   generalize (c.rk==R)=q2 at *
   generalize uA c.n=q3 at *
   generalize uA c.m=q4 at *
   unfold bX;cases q3
   ·simp only[vO,ai,af,seval,g];refine sD (c1) ?_;exact aZ
   ·cases q4
    ·simp only[vO,ai,af,seval,g];refine sD (c1) ?_;refine sD (c2) ?_;exact aZ
    ·cases q1
     ·simp only[vO,ai,af,seval,g];refine sD (c1) ?_;refine sD (c2) ?_;refine sD (c3) ?_;refine sD (c4) ?_;exact aZ
     ·simp only[vO,ai,af,seval,g];refine sD (c1) ?_;refine sD (c2) ?_;refine sD (c3) ?_;refine sD (c4) ?_;refine sD (c5) ?_;exact aZ
  ·have g:(((c.se.length:Nat):Int)=32)=False:=eq_false (by omega);rw[decide_eq_false h];unfold bX;simp only[vO,ai,af,seval,g];exact aZ
def VJ:ByteArray:=⟨#[115,101,99,116,105,109,101,32,101,120,112,111,114,116]⟩
def IX:aO:=⟨4,22,ae [cX 4 0,aQ 8,am 9 0] (.seq (ae [bn 10 6 4,aY 11 61 10,cW 12 11] (ar 12 (ae [aQ 8,am 9 3] .ret) .skip)) (ae [aL 13 1 4,aA 14 13,oM 15 1,oM 16 2,oO 17 (.call 179 [(.k (.c (.d (.str ⟨#[115,101,99,116,105,109,101,32,101,120,112,111,114,116]⟩)))),(.t 15),(.t 16)] none),oM 18 3,gq 19 83 14 17 18,aC 20 19 0,aC 21 19 1,oM 8 20,oM 9 21] .ret)),[(8,none),(9,none)]⟩
theorem akc:aM Tryz.prog {} Tryz.f165=some IX:=by kernel_rfl
theorem anQ (G:au) (hF:G.at 0=some (.ra (dY.map wD))) (hG:G.at 1=some (.ra (cy.map wD))) (c:Ch) (l:ByteArray) (x:List UInt8) (n:Int) (hl:l.size≤1099511627776) (hx:x.length≤140737488355328) (hn1:-9223372036854775808≤n) (hn2:n≤9223372036854775807):aF Tryz.prog G 165 [bX c,.str l,.sl (x.map bD),.int .i64 n] (.tup [.c (.d (.sl ((D7 c l.data.toList x n).map bD))),.c (.d (.int .i64 (VI c n)))]):=by
  refine aX Tryz.func165 akc rfl rfl ?_;have c1:=wm G hF hG c;unfold D7 VI;by_cases h:eV c
  ·rw[decide_eq_true h] at c1;rw[if_pos h,if_pos h];have c2:=anH G hF hG VJ l x (by decide) hl hx;rw[show VJ.data.toList=wi from rfl] at c2;have hs:l.data.toList.length=l.size:=rfl;have c3:=Df G hF hG c.se (qZ wi l.data.toList x) (by rw[h.1]; decide) (by rw[abP,hs]; have:wi.length=14:=rfl; omega) n hn1 hn2;generalize qZ wi l.data.toList x=L at *
   generalize nE c.se L n=E at *
   generalize sO n=e at *
   unfold bX at *
   simp only[IX,ai,af,seval];refine sD (c1) ?_;refine bM c2 (by simp only[af,seval] <;> rfl) (.inl rfl) ?_;simp only[af,seval];refine sD (c3) ?_;exact bz
  ·rw[decide_eq_false h] at c1;rw[if_neg h,if_neg h];unfold bX at *
   simp only[IX,ai,af,seval];refine sD (c1) ?_;exact bz
def SS:aO:=⟨2,10,ae [aQ 4] (ae [oM 5 0,oO 6 (.conv .u64 (.t 5)),oO 7 (.call 62 [(.t 6),(kI 8)] none),oM 8 1,oO 9 (.bldSl false 2 1 (.sl []) [(0,(.t 7)),(1,(.t 8))]),oM 4 9] .ret),[(4,none)]⟩
theorem akd:aM Tryz.prog {} Tryz.f64=some SS:=by kernel_rfl
theorem UA (G:au) (n:Int) (h:List UInt8) (hn:0≤n∧n≤9223372036854775807):aF Tryz.prog G 64 [.int .i64 n,.sl (h.map bD)] (.w (.c (.d (dI (fO n h))))):=by
  refine aX Tryz.func64 akd rfl rfl ?_;obtain⟨a,rfl⟩:=aqB hn.1;have c:=iJ G a 8 (by decide);rw[show (8:Int).toNat=8 from rfl] at c;unfold fO dI;rw[show ((a:Nat):Int).toNat=a from rfl];generalize aG a 8=P at *
  simp only[SS,ai,af,seval,iteOmega];refine sD (c) ?_;exact aZ
def SU:aO:=⟨3,30,ae [cX 3 0,oO 6 (.alloc [cD,.nil,.nil,.nil,ah,ah])] (ae [aL 7 0 3,aA 8 7,aL 9 1 3,aA 10 9,oO 11 (.bldSl false 1 1 (.sl []) [(0,(.t 10))]),aY 12 35 11,aL 13 2 3,aA 14 13,oO 15 (.bldSl false 1 1 (.sl []) [(0,(.t 14))]),aY 16 35 15,aL 17 3 3,aA 18 17,oO 19 (.bldSl false 1 1 (.sl []) [(0,(.t 18))]),aY 20 35 19,aL 21 4 3,aA 22 21,oM 23 1,aU .add 24 22 23,aL 25 5 3,aA 26 25,oM 27 2,aU .add 28 26 27,oO 29 (.build [cD,.nil,.nil,.nil,ah,ah] [(0,1,(.t 8)),(1,1,(.t 12)),(2,1,(.t 16)),(3,1,(.t 20)),(4,1,(.t 24)),(5,1,(.t 28))]),aS 6 6 29] .ret),[(6,(some (.ag 6)))]⟩
theorem ake:aM Tryz.prog {} Tryz.f65=some SU:=by kernel_rfl
theorem UB (G:au) (c:Ch) (x y:Int) (h1:c.se.length≤140737488355328) (h2:c.sk.length≤140737488355328) (h3:c.rk.length≤140737488355328) (h4:0≤c.n∧c.n≤1099511627776) (h5:0≤c.m∧c.m≤1099511627776) (hx:0≤x∧x≤1) (hy:0≤y∧y≤1):aF Tryz.prog G 65 [bX c,.int .i64 x,.int .i64 y] (.w (.c (.d (bX ⟨c.cl,c.se,c.sk,c.rk,c.n+x,c.m+y⟩)))):=by
  refine aX Tryz.func65 ake rfl rfl ?_;have c1:=dT G [c.se] (by simp) (by simp; omega);have c2:=dT G [c.sk] (by simp) (by simp; omega);have c3:=dT G [c.rk] (by simp) (by simp; omega);simp only[apW,ap4,aqD,aqF,ap7] at c1 c2 c3;obtain⟨cl,se,sk,rk,n,m⟩:=c;dsimp only at *
  unfold bX;dsimp only;simp only[SU,ai,af,seval];refine sD (c1) ?_;refine sD (c2) ?_;refine sD (c3) ?_;exact aZ
def vP:aO:=⟨1,33,ae [aQ 2,aQ 3,am 4 0] (ae [oM 8 0,oO 9 (.call 110 [(.t 8),(kI 3)] none),oM 7 9,aC 10 7 0,aC 11 7 1,aC 12 7 2,oM 2 10,oM 3 11,oM 5 12] (.seq (ae [oM 13 5,cW 14 13] (ar 14 (ae [aQ 2,aQ 3,am 4 1] .ret) .skip)) (ae [oM 15 2,oO 16 (.slice 1 (.t 15) (some (kI 1)) none none),aY 17 68 16,oO 18 (.conv .i64 (.t 17)),oM 6 18] (.seq (ae [oM 19 3,bd 20 19,oM 21 6,aU .lss 22 20 21] (ar 22 (ae [aQ 2,aQ 3,am 4 1] .ret) .skip)) (.seq (ae [oM 23 3,bd 24 23,oM 25 6,aU .gtr 26 24 25,oM 27 26,bJ 28 6 27 false,cC .gtr 29 28 16400 27 false,cv 30 27 29] (ar 30 (ae [aQ 2,aQ 3,am 4 2] .ret) .skip)) (ae [oM 31 2,oM 32 3,oM 2 31,oM 3 32,am 4 0] .ret)))))),[(2,none),(3,none),(4,none)]⟩
theorem akf:aM Tryz.prog {} Tryz.f66=some vP:=by kernel_rfl
theorem anR (G:au) (r:List UInt8) (hr:r.length≤1099511627776):aF Tryz.prog G 66 [.sl (r.map bD)] (.tup [.c (.d (.sl ((if lE r=0 then r.take 3 else []).map bD))),.c (.d (.sl ((if lE r=0 then r.drop 3 else []).map bD))),.c (.d (.int .i64 (lE r)))]):=by
  refine aX Tryz.func66 akf rfl rfl ?_;by_cases h1:r.length<3
  ·have e:lE r=1:=if_pos h1;rw[e,if_neg (by decide),if_neg (by decide)];have c1:=yR G r 3 (.inr (by omega));simp only[vP,ai,af,seval];refine sD (c1) ?_;exact fj
  ·have c1:=tK G r 3 (by omega) hr;have e1:(r.take 3).drop 1=aK r 1 2:=by unfold aK; rw[List.drop_take]
   have l1:(aK r 1 2).length=2:=fp (by omega);have t1:(aK r 1 2).take 2=aK r 1 2:=apX (by omega);have c2:=kH G (aK r 1 2) (by omega);have b2:=(jk 2 (aK r 1 2) l1 (by decide)).1;have hl:(r.drop 3).length=r.length-3:=ap5;have l3:(r.take 3).length=3:=by simp; omega
   have pe:lE r=if r.length-3<bq (aK r 1 2) then 1 else if bq (aK r 1 2)<r.length-3∨16400<bq (aK r 1 2) then 2 else 0:=if_neg h1
   rw[← hl] at pe;generalize bq (aK r 1 2)=N at *
   generalize r.drop 3=S at *
   generalize hH:r.take 3=H at *
   by_cases h2:S.length<N
   ·rw[if_pos h2] at pe;rw[pe,if_neg (by decide),if_neg (by decide)];have g2:((S.length:Int)<(N:Int))=True:=eq_true (by omega);simp only[vP,ai,af,seval];refine sC (c1) ?_;simp only[l3,e1,t1,af,seval,toNatUp];refine sC (c2) ?_;simp only[g2,af,seval,iteOmega];exact fj
   ·rw[if_neg h2] at pe;have g2:((S.length:Int)<(N:Int))=False:=eq_false (by omega);by_cases h3:N<S.length
    ·rw[if_pos (.inl h3)] at pe;rw[pe,if_neg (by decide),if_neg (by decide)];have g3:((S.length:Int)>(N:Int))=True:=eq_true (by omega);simp only[vP,ai,af,seval];refine sC (c1) ?_;simp only[l3,e1,t1,af,seval,toNatUp];refine sC (c2) ?_;simp only[g2,g3,af,seval,iteOmega];exact fj
    ·have g3:((S.length:Int)>(N:Int))=False:=eq_false (by omega);by_cases h4:16400<N
     ·rw[if_pos (.inr h4)] at pe;rw[pe,if_neg (by decide),if_neg (by decide)];have g4:((N:Int)>16400)=True:=eq_true (by omega);simp only[vP,ai,af,seval];refine sC (c1) ?_;simp only[l3,e1,t1,af,seval,toNatUp];refine sC (c2) ?_;simp only[g2,g3,g4,af,seval,iteOmega];exact fj
     ·rw[if_neg (by omega)] at pe;rw[pe,if_pos rfl,if_pos rfl];have g4:((N:Int)>16400)=False:=eq_false (by omega);simp only[vP,ai,af,seval];refine sC (c1) ?_;simp only[l3,e1,t1,af,seval,toNatUp];refine sC (c2) ?_;simp only[g2,g3,g4,af,seval,iteOmega];exact fj
theorem zo {c:Ch} {k:Int} {b:List UInt8} {e:Int} (h:jJ c k b=e) (he:e≠0):Eq c k b=jI∧Er c k b=[]:=⟨if_neg (by rw[h]; exact he),if_neg (by rw[h]; exact he)⟩
def tL:aO:=⟨3,58,ae [cX 3 0,oO 6 (.alloc [cD,.nil,.nil,.nil,ah,ah]),aQ 7,am 8 0] (.seq (ae [bn 12 6 3,aY 13 61 12,cW 14 13] (ar 14 (ae [oO 15 (.build [cD,.nil,.nil,.nil,ah,ah] []),aS 6 6 15,aQ 7,am 8 3] .ret) .skip)) (.seq (ae [oM 16 1,ak .lss 17 16 0,oM 18 17,bJ 19 1 18 false,cC .geq 20 19 256 18 false,cv 21 18 20] (ar 21 (ae [oO 22 (.build [cD,.nil,.nil,.nil,ah,ah] []),aS 6 6 22,aQ 7,am 8 4] .ret) .skip)) (.seq (ae [oM 23 2,bd 24 23,ak .gtr 25 24 16384] (ar 25 (ae [oO 26 (.build [cD,.nil,.nil,.nil,ah,ah] []),aS 6 6 26,aQ 7,am 8 2] .ret) .skip)) (.seq (ae [aL 27 4 3,aA 28 27,ak .eql 29 28 1099511627776] (ar 29 (ae [oO 30 (.build [cD,.nil,.nil,.nil,ah,ah] []),aS 6 6 30,aQ 7,am 8 7] .ret) .skip)) (ae [oM 31 1,oO 32 (.conv .u64 (.t 31)),
 oO 33 (.call 62 [(.t 32),(kI 1)] none),oM 34 2,bd 35 34,ak .add 36 35 16,oO 37 (.conv .u64 (.t 36)),oO 38 (.call 62 [(.t 37),(kI 2)] none),oO 39 (.bldSl false 2 1 (.sl []) [(0,(.t 33)),(1,(.t 38))]),aY 40 35 39,oM 9 40] (ae [aL 42 2 3,aA 43 42,aL 44 4 3,aA 45 44,oM 46 9,ct 47 64 45 46,oM 48 2,gq 49 63 43 47 48,oM 41 49,aC 50 41 0,aC 51 41 1,oM 10 50,oM 11 51] (ae [bn 52 6 3,oO 53 (.call 65 [(.t 52),(kI 1),(kI 0)] none),oM 54 9,oM 55 10,oO 56 (.bldSl false 2 1 (.sl []) [(0,(.t 54)),(1,(.t 55))]),aY 57 35 56,aS 6 6 53,oM 7 57,am 8 0] .ret))))))),[(6,(some (.ag 6))),(7,none),(8,none)]⟩
theorem akg:aM Tryz.prog {} Tryz.f25=some tL:=by kernel_rfl
theorem UC (G:au) (hF:G.at 0=some (.ra (dY.map wD))) (hG:G.at 1=some (.ra (cy.map wD))) (c:Ch) (k:Int) (b:List UInt8) (hb:b.length≤9223372036854775807):aF Tryz.prog G 25 [bX c,.int .i64 k,.sl (b.map bD)] (.tup [.c (.d (bX (Eq c k b))),.c (.d (.sl ((Er c k b).map bD))),.c (.d (.int .i64 (jJ c k b)))]):=by
  refine aX Tryz.func25 akg rfl rfl ?_;have c1:=wm G hF hG c;by_cases h:eV c
  ·rw[decide_eq_true h] at c1;by_cases k1:k<0
   ·have g1:(k<0)=True:=eq_true k1;have e:jJ c k b=4:=by unfold jJ; rw[if_neg (not_not_intro h),if_pos (.inl k1)]
    obtain⟨q1,q2⟩:=zo e (by decide);rw[q1,q2,e];unfold bX jI at *
    simp only[tL,ai,af,seval];refine sC (c1) ?_;simp only[g1,af,aa,seval];exact fj
   ·have g1:(k<0)=False:=eq_false k1;by_cases k2:255<k
    ·have g2:(k≥256)=True:=eq_true (by omega);have e:jJ c k b=4:=by unfold jJ; rw[if_neg (not_not_intro h),if_pos (.inr k2)]
     obtain⟨q1,q2⟩:=zo e (by decide);rw[q1,q2,e];unfold bX jI at *
     simp only[tL,ai,af,seval];refine sC (c1) ?_;simp only[g1,g2,af,aa,seval];exact fj
    ·have g2:(k≥256)=False:=eq_false (by omega);by_cases h3:16384<b.length
     ·have g3:((b.length:Int)>16384)=True:=eq_true (by omega);have e:jJ c k b=2:=by unfold jJ; rw[if_neg (not_not_intro h),if_neg (by omega),if_pos h3]
      obtain⟨q1,q2⟩:=zo e (by decide);rw[q1,q2,e];unfold bX jI at *
      simp only[tL,ai,af,seval];refine sC (c1) ?_;simp only[g1,g2,g3,af,aa,seval];exact fj
     ·have g3:((b.length:Int)>16384)=False:=eq_false (by omega);by_cases h4:c.n=1099511627776
      ·have g4:(c.n=1099511627776)=True:=eq_true h4;have e:jJ c k b=7:=by unfold jJ; rw[if_neg (not_not_intro h),if_neg (by omega),if_neg h3,if_pos h4]
       obtain⟨q1,q2⟩:=zo e (by decide);rw[q1,q2,e];unfold bX jI at *
       simp only[tL,ai,af,seval];refine sC (c1) ?_;simp only[g1,g2,g3,g4,af,aa,seval];exact fj
      ·have g4:(c.n=1099511627776)=False:=eq_false h4;have e:jJ c k b=0:=by unfold jJ; rw[if_neg (not_not_intro h),if_neg (by omega),if_neg h3,if_neg h4]
       rw[show Eq c k b=_ from if_pos e,show Er c k b=_ from if_pos e,e];obtain⟨a,ha⟩:=aqB (show 0≤k by omega);have ha:k=(a:Int):=ha;subst ha;have c2:=iJ G a 1 (by decide);have c3:=iJ G (b.length+16) 2 (by decide);rw[show (1:Int).toNat=1 from rfl] at c2;rw[show (2:Int).toNat=2 from rfl] at c3;have c4:=dT G [aG a 1,aG (b.length+16) 2] (by simp) (by simp[bS]);rw[show [aG a 1,aG (b.length+16) 2].flatten=dK (a:Int) b.length from by simp[dK,Vr]] at c4;have c5:=UA G c.n (dK (a:Int) b.length) (by have:=h.2.1; omega);have c6:=IL G c.sk (fO c.n (dK (a:Int) b.length)) b (by rw[J3 h]; decide) (show (2:Nat)≤_ by decide) (fun x hx=>by
         rcases aqh.1 hx with rfl | hx
         ·rw[bS]; decide
         ·rw[apY.1 hx,tx]; decide) (by omega)
       have c7:=UB G c 1 0 (by rw[h.1]; decide) (by rw[J3 h]; decide) (by rw[J4 h]; decide) h.2.1 h.2.2.1 (by decide) (by decide);rw[Int.add_zero] at c7;have hl:(fq c.sk (fO c.n (dK (a:Int) b.length)) b).length≤20000:=by
         unfold fq;split
         ·rw[apS,kZ,lQ]; omega
         ·exact apZ _
       have c8:=dT G [dK (a:Int) b.length,fq c.sk (fO c.n (dK (a:Int) b.length)) b] (by simp) (by simp[tx]; omega);rw[show [dK (a:Int) b.length,fq c.sk (fO c.n (dK (a:Int) b.length)) b].flatten=dK (a:Int) b.length++fq c.sk (fO c.n (dK (a:Int) b.length)) b from by simp] at c8;simp only[apW,ap4] at c4 c8;generalize fq c.sk (fO c.n (dK (a:Int) b.length)) b=S at *
       generalize dB c.sk (fO c.n (dK (a:Int) b.length)) b.length=q at *
       generalize dI (fO c.n (dK (a:Int) b.length))=A at *
       generalize dK (a:Int) b.length=H at *
       generalize aG a 1=P1 at *
       generalize aG (b.length+16) 2=P2 at *
       unfold bX at *
       dsimp only at c7;dsimp only;simp only[tL,ai,af,seval];refine sC (c1) ?_;simp only[g1,g2,g3,g4,af,seval,iteOmega];refine sD (c2) ?_;refine sD (c3) ?_;refine sD (c4) ?_;refine sD (c5) ?_;refine sD (c6) ?_;refine sD (c7) ?_;refine sD (c8) ?_;exact fj
  ·rw[decide_eq_false h] at c1;have e:jJ c k b=3:=if_pos h;obtain⟨q1,q2⟩:=zo e (by decide);rw[q1,q2,e];unfold bX jI at *
   simp only[tL,ai,af,seval];refine sD (c1) ?_;exact fj
theorem Dk {c:Ch} {r:List UInt8} {e:Int} (h:jK c r=e) (he:e≠0):zX c r=jI∧xn c r=0∧xo c r=[]:=⟨if_neg (by rw[h]; exact he),if_neg (by rw[h]; exact he),if_neg (by rw[h]; exact he)⟩
theorem akh {r:List UInt8} (h:lE r=0):3≤r.length∧r.length≤16403:=by
  unfold lE at h;by_cases h1:r.length<3
  ·rw[if_pos h1] at h; exact absurd h (by decide)
  ·rw[if_neg h1] at h;by_cases h2:r.length-3<bq (aK r 1 2)
   ·rw[if_pos h2] at h; exact absurd h (by decide)
   ·rw[if_neg h2] at h;by_cases h3:bq (aK r 1 2)<r.length-3∨16400<bq (aK r 1 2)
    ·rw[if_pos h3] at h; exact absurd h (by decide)
    ·omega
theorem anS {r:List UInt8} (h:3≤r.length):(r.take 3).take 1=[r.getD 0 0]:=by
  match r,h with
  | a::b::c::l,_=>rfl
def vQ:aO:=⟨2,49,ae [cX 2 0,oO 4 (.alloc [cD,.nil,.nil,.nil,ah,ah]),am 5 0,aQ 6,am 7 0] (.seq (ae [bn 10 6 2,aY 11 61 10,cW 12 11] (ar 12 (ae [oO 13 (.build [cD,.nil,.nil,.nil,ah,ah] []),aS 6 4 13,am 5 0,aQ 6,am 7 3] .ret) .skip)) (ae [oM 15 1,aY 16 66 15,oM 14 16,aC 17 14 0,aC 18 14 1,aC 19 14 2,oM 8 17,oM 9 18,oM 7 19] (.seq (ae [oM 20 7,ak .neq 21 20 0] (ar 21 (ae [oO 22 (.build [cD,.nil,.nil,.nil,ah,ah] []),oM 23 7,aS 6 4 22,am 5 0,aQ 6,oM 7 23] .ret) .skip)) (.seq (ae [aL 24 5 2,aA 25 24,ak .eql 26 25 1099511627776] (ar 26 (ae [oO 27 (.build [cD,.nil,.nil,.nil,ah,ah] []),aS 6 4 27,am 5 0,aQ 6,am 7 7] .ret) .skip)) (ae [aL 29 3 2,aA 30 29,aL 31 5 2,aA 32 31,oM 33 8,ct 34 64 32 33,oM 35 9,gq 36 67 30 34 35,oM 28 36,aC 37 28 0,
 aC 38 28 1,oM 6 37,oM 7 38] (.seq (ae [oM 39 7,ak .neq 40 39 0] (ar 40 (ae [oO 41 (.build [cD,.nil,.nil,.nil,ah,ah] []),aS 6 4 41,am 5 0,aQ 6,am 7 6] .ret) .skip)) (ae [bn 42 6 2,oO 43 (.call 65 [(.t 42),(kI 0),(kI 1)] none),oM 44 8,oO 45 (.slice 1 (.t 44) none (some (kI 1)) none),aY 46 68 45,oO 47 (.conv .i64 (.t 46)),oM 48 6,aS 6 4 43,oM 5 47,oM 6 48,am 7 0] .ret))))))),[(4,(some (.ag 6))),(5,none),(6,none),(7,none)]⟩
theorem aki:aM Tryz.prog {} Tryz.f26=some vQ:=by kernel_rfl
theorem UD (G:au) (hF:G.at 0=some (.ra (dY.map wD))) (hG:G.at 1=some (.ra (cy.map wD))) (c:Ch) (r:List UInt8) (hr:r.length≤1099511627776):aF Tryz.prog G 26 [bX c,.sl (r.map bD)] (.tup [.c (.d (bX (zX c r))),.c (.d (.int .i64 (xn c r))),.c (.d (.sl ((xo c r).map bD))),.c (.d (.int .i64 (jK c r)))]):=by
  refine aX Tryz.func26 aki rfl rfl ?_;have c1:=wm G hF hG c;have c2:=anR G r hr;by_cases h:eV c
  ·rw[decide_eq_true h] at c1;by_cases h1:lE r=0
   ·rw[if_pos h1,if_pos h1,h1] at c2;by_cases h4:c.m=1099511627776
    ·have g4:(c.m=1099511627776)=True:=eq_true h4;have e:jK c r=7:=by unfold jK; rw[if_neg (not_not_intro h),if_neg (not_not_intro h1),if_pos h4]
     obtain⟨q1,q2,q3⟩:=Dk e (by decide);rw[q1,q2,q3,e];unfold bX jI at *
     simp only[vQ,ai,af,seval];refine sD (c1) ?_;refine sC (c2) ?_;simp only[g4,af,aa,seval];exact zW
    ·have g4:(c.m=1099511627776)=False:=eq_false h4;obtain⟨l1,l2⟩:=akh h1;have l3:(r.take 3).length=3:=by simp; omega
     have c3:=UA G c.m (r.take 3) (by have:=h.2.2.1; omega);have c4:=JQ G c.rk (fO c.m (r.take 3)) (r.drop 3) (by rw[J4 h]; decide) (show (2:Nat)≤_ by decide) (fun x hx=>by
       rcases aqh.1 hx with rfl | hx
       ·rw[bS]; decide
       ·rw[apY.1 hx,l3]; decide) (by simp; omega)
     rw[show iL c.rk (fO c.m (r.take 3)) (r.drop 3)=uv c r from rfl] at c4;by_cases x0:uv c r=0
     ·have e:jK c r=0:=by unfold jK; rw[if_neg (not_not_intro h),if_neg (not_not_intro h1),if_neg h4,if_pos x0]
      rw[show zX c r=_ from if_pos e,show xn c r=_ from if_pos e,show xo c r=_ from if_pos e,e];rw[x0] at c4;have c5:=UB G c 0 1 (by rw[h.1]; decide) (by rw[J3 h]; decide) (by rw[J4 h]; decide) h.2.1 h.2.2.1 (by decide) (by decide);rw[Int.add_zero] at c5;have c6:=kH G [r.getD 0 0] (show (1:Nat)≤_ by decide);have hb:=(r.getD 0 0).toNat_lt;rw[show bq [r.getD 0 0]=(r.getD 0 0).toNat from by simp only[bq,List.foldl]; omega] at c6;have t1:=anS l1;generalize r.getD 0 0=x at *
      generalize i9 c.rk (fO c.m (r.take 3)) (r.drop 3)=B at *
      generalize dI (fO c.m (r.take 3))=A at *
      generalize r.take 3=H at *
      generalize r.drop 3=S at *
      unfold bX at *
      dsimp only at c5;dsimp only;simp only[vQ,ai,af,seval];refine sD (c1) ?_;refine sC (c2) ?_;simp only[g4,af,seval];refine sD (c3) ?_;refine sD (c4) ?_;refine sC (c5) ?_;simp only[l3,t1,af,seval,toNatUp];refine sD (c6) ?_;exact zW
     ·have gx:(uv c r=0)=False:=eq_false x0;have e:jK c r=6:=by unfold jK; rw[if_neg (not_not_intro h),if_neg (not_not_intro h1),if_neg h4,if_neg x0]
      obtain⟨q1,q2,q3⟩:=Dk e (by decide);rw[q1,q2,q3,e];generalize uv c r=X at *
      generalize i9 c.rk (fO c.m (r.take 3)) (r.drop 3)=B at *
      generalize dI (fO c.m (r.take 3))=A at *
      generalize r.take 3=H at *
      generalize r.drop 3=S at *
      unfold bX jI at *
      simp only[vQ,ai,af,seval];refine sD (c1) ?_;refine sC (c2) ?_;simp only[g4,af,seval];refine sD (c3) ?_;refine sC (c4) ?_;simp only[gx,af,aa,seval];exact zW
   ·have g1:(lE r=0)=False:=eq_false h1;rw[if_neg h1,if_neg h1] at c2;have e:jK c r=lE r:=by unfold jK; rw[if_neg (not_not_intro h),if_pos h1]
    obtain⟨q1,q2,q3⟩:=Dk e h1;rw[q1,q2,q3,e];generalize lE r=p at *
    unfold bX jI at *
    simp only[vQ,ai,af,seval];refine sD (c1) ?_;refine sC (c2) ?_;simp only[g1,af,aa,seval];exact zW
  ·rw[decide_eq_false h] at c1;have e:jK c r=3:=if_pos h;obtain⟨q1,q2,q3⟩:=Dk e (by decide);rw[q1,q2,q3,e];unfold bX jI at *
   simp only[vQ,ai,af,seval];refine sD (c1) ?_;exact zW
def IY:aO:=⟨2,32,ae [oO 4 (.alloc [cD,.nil,.nil,.nil,ah,ah])] (ae [oM 10 1,oO 11 (.bldSl true 10 1 aj [(0,(.k (.c (.d (.int .u8 115))))),(1,(.k (.c (.d (.int .u8 101))))),(2,(.k (.c (.d (.int .u8 99))))),(3,(.k (.c (.d (.int .u8 116))))),(4,(.k (.c (.d (.int .u8 105))))),(5,(.k (.c (.d (.int .u8 109))))),(6,(.k (.c (.d (.int .u8 101))))),(7,(.k (.c (.d (.int .u8 32))))),(8,(.k (.c (.d (.int .u8 117))))),(9,(.k (.c (.d (.int .u8 112)))))]),oO 12 (.markF (.t 11)),oO 13 (.call 53 [(.t 10),(.t 12),(kI 32)] none),oM 9 13,aC 14 9 0,aC 15 9 1,oM 5 14,oM 6 15] (ae [oM 17 1,oO 18 (.bldSl true 12 1 aj [(0,(.k (.c (.d (.int .u8 115))))),(1,(.k (.c (.d (.int .u8 101))))),(2,(.k (.c (.d (.int .u8 99))))),(3,(.k (.c (.d (.int .u8 116))))),(4,(.k (.c (.d (.int .u8 105))))),(5,(.k (.c (.d (.int .u8 109))))),(6,(.k (.c (.d (.int .u8 101))))),(7,(.k (.c (.d (.int .u8 32))))),(8,(.k (.c (.d (.int .u8 100))))),(9,(.k (.c (.d (.int .u8 111))))),(10,(.k (.c (.d (.int .u8 119))))),(11,(.k (.c (.d (.int .u8 110)))))]),
 oO 19 (.markF (.t 18)),oO 20 (.call 53 [(.t 17),(.t 19),(kI 32)] none),oM 16 20,aC 21 16 0,aC 22 16 1,oM 7 21,oM 8 22] (.seq (ae [oM 23 0] (ar 23 (ae [oM 24 1,oM 25 5,oM 26 7,oO 27 (.build [cD,.nil,.nil,.nil,ah,ah] [(0,1,(.k (.c (.d (.bool true))))),(1,1,(.t 24)),(2,1,(.t 25)),(3,1,(.t 26))]),aS 6 4 27] .ret) .skip)) (ae [oM 28 1,oM 29 7,oM 30 5,oO 31 (.build [cD,.nil,.nil,.nil,ah,ah] [(1,1,(.t 28)),(2,1,(.t 29)),(3,1,(.t 30))]),aS 6 4 31] .ret)))),[(4,(some (.ag 6)))]⟩
theorem akj:aM Tryz.prog { own:=[11,18],frz:=[12,19] } Tryz.f103=some IY:=by kernel_rfl
theorem anT (G:au) (cl:Bool) (K:List UInt8) (hK:K.length≤140737488355328):aF Tryz.prog G 103 [.bool cl,.sl (K.map bD)] (.w (.c (.d (bX (bV cl K 0 0))))):=by
  refine aX Tryz.func103 akj rfl rfl ?_;have c1:=Co G K zm hK (by decide) 32 (by decide) (by decide);have c2:=Co G K zn hK (by decide) 32 (by decide) (by decide);rw[show nE K zm 32=ib K from rJ K zm (by decide),tw (by decide)] at c1;rw[show nE K zn 32=iB K from rJ K zn (by decide),tw (by decide)] at c2;unfold bX bV;dsimp only;generalize ib K=U at *
  generalize iB K=W at *
  cases cl
  ·rw[cond_false,cond_false];simp only[IY,ai,af,seval];refine bM c1 (by simp only[af,seval] <;> rfl) (.inl rfl) ?_;simp only[af,seval];refine bM c2 (by simp only[af,seval] <;> rfl) (.inl rfl) ?_;simp only[af,aa,seval];exact aZ
  ·rw[cond_true,cond_true];simp only[IY,ai,af,seval];refine bM c1 (by simp only[af,seval] <;> rfl) (.inl rfl) ?_;simp only[af,seval];refine bM c2 (by simp only[af,seval] <;> rfl) (.inl rfl) ?_;simp only[af,aa,seval];exact aZ
def Cw:aO:=⟨3,23,ae [oO 6 (.alloc [cD,.nil,.nil,.nil,ah,ah]),am 7 0] (.seq (ae [oM 8 1,bd 9 8,ak .lss 10 9 16,oM 11 10,bJ 12 1 11 false,eY 13 12 11 false,cC .gtr 14 13 65535 11 false,cv 15 11 14] (ar 15 (ae [oO 16 (.build [cD,.nil,.nil,.nil,ah,ah] []),aS 6 6 16,am 7 5] .ret) .skip)) (ae [oM 17 0,oM 18 2,aY 19 36 18,oM 20 1,ct 21 104 19 20,ct 22 103 17 21,aS 6 6 22,am 7 0] .ret)),[(6,(some (.ag 6))),(7,none)]⟩
theorem akk:aM Tryz.prog {} Tryz.f55=some Cw:=by kernel_rfl
theorem UE (G:au) (cl:Bool) (s h:List UInt8) (hs:s.length≤9223372036854775807) (hh:h.length≤140737488355328):aF Tryz.prog G 55 [.bool cl,.sl (s.map bD),.sl (h.map bD)] (.tup [.c (.d (bX (xm cl s h))),.c (.d (.int .i64 (xk s)))]):=by
  refine aX Tryz.func55 akk rfl rfl ?_;by_cases h1:s.length<16
  ·have e:xk s=5:=if_pos (.inl h1);rw[show xm cl s h=jI from if_neg (by rw[e]; decide),e];have g1:((s.length:Int)<16)=True:=eq_true (by omega);unfold bX jI;simp only[Cw,ai,af,aa,seval,g1];exact bz
  ·have g1:((s.length:Int)<16)=False:=eq_false (by omega);by_cases h2:65535<s.length
   ·have e:xk s=5:=if_pos (.inr h2);rw[show xm cl s h=jI from if_neg (by rw[e]; decide),e];have g2:((s.length:Int)>65535)=True:=eq_true (by omega);unfold bX jI;simp only[Cw,ai,af,aa,seval,g1,g2];exact bz
   ·have e:xk s=0:=if_neg (by omega);rw[show xm cl s h=bV cl (mg (dN h) s) 0 0 from if_pos e,e];have g2:((s.length:Int)>65535)=False:=eq_false (by omega);have c1:=yL G h hh;have c2:=ajR G (dN h) s (by rw[k9]; decide) (by omega);have c3:=anT G cl (mg (dN h) s) (by rw[u7]; decide);generalize bV cl (mg (dN h) s) 0 0=C at *
    generalize mg (dN h) s=M at *
    generalize dN h=H at *
    unfold bX at *
    simp only[Cw,ai,af,seval,g1,g2];refine sD (c1) ?_;refine sD (c2) ?_;refine sD (c3) ?_;exact bz
def lH (s:Int):List UInt8:=mg (dN (bu s 20)) (bu s 32)
theorem QS (s:Int):(lH s).length=32:=u7 _ _
def SY:aO:=⟨1,26,ae [oO 2 (.alloc [cD,.nil,.nil,.nil,ah,ah]),oO 3 (.alloc [cD,.nil,.nil,.nil,ah,ah])] (ae [oM 9 0,aY 10 21 9,oM 11 0,oO 12 (.call 11 [(.t 11),(kI 20)] none),oO 13 (.call 55 [(.k (.c (.d (.bool true)))),(.t 10),(.t 12)] none),oM 8 13,aC 14 8 0,aC 15 8 1,oO 4 (.alloc [cD,.nil,.nil,.nil,ah,ah]),aS 6 4 14,oM 5 15] (ae [oM 17 0,aY 18 21 17,oM 19 0,oO 20 (.call 11 [(.t 19),(kI 20)] none),oO 21 (.call 55 [(.k (.c cD)),(.t 18),(.t 20)] none),oM 16 21,aC 22 16 0,aC 23 16 1,oO 6 (.alloc [cD,.nil,.nil,.nil,ah,ah]),aS 6 6 22,oM 7 23] (ae [oO 24 (.loadX (.ag 6) (.t 4) [(.t 2),(.t 3)]),oO 25 (.loadX (.ag 6) (.t 6) [(.t 2),(.t 3)]),aS 6 2 24,aS 6 3 25] .ret))),[(2,(some (.ag 6))),(3,(some (.ag 6)))]⟩
theorem akl:aM Tryz.prog { lx:=[(24,[2,3]),(25,[2,3])] } Tryz.f23=some SY:=by kernel_rfl
theorem anV (G:au) (s:Int):aF Tryz.prog G 23 [.int .i64 s] (.tup [.c (.d (bX (bV true (lH s) 0 0))),.c (.d (bX (bV false (lH s) 0 0)))]):=by
  refine aX Tryz.func23 akl rfl rfl ?_;have c1:=SV G s;have c2:=qj G s 20 (by decide);have l1:(bu s 32).length=32:=ku _ _;have l2:(bu s 20).length=20:=ku _ _;have e:xk (bu s 32)=0:=if_neg (by omega);have c3:=UE G true (bu s 32) (bu s 20) (by omega) (by omega);have c4:=UE G false (bu s 32) (bu s 20) (by omega) (by omega);rw[show xm true (bu s 32) (bu s 20)=bV true (lH s) 0 0 from if_pos e,e] at c3;rw[show xm false (bu s 32) (bu s 20)=bV false (lH s) 0 0 from if_pos e,e] at c4;generalize bu s 32=B1 at *
  generalize bu s 20=B2 at *
  generalize bV true (lH s) 0 0=X at *
  generalize bV false (lH s) 0 0=Y at *
  unfold bX at *
  simp only[SY,ai,af,seval];refine sD (c1) ?_;refine sD (c2) ?_;refine sD (c3) ?_;refine sD (c1) ?_;refine sD (c2) ?_;refine sD (c4) ?_;exact bz

end Go.Proofs.YtnjhelpgohdajaaGreatDoor
