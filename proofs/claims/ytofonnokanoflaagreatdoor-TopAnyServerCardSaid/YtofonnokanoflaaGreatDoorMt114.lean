/- Texts of one's own, merged: from: Layer 6 on data: tags,sealed bytes,opened ones; both codes. Own work. -/
import Derived.Shelf.Abstract
import Derived.Test.YtofonnokanoflaaGreatDoorMt112
import Derived.Test.YtofonnokanoflaaGreatDoorMt110
import Derived.Test.YtofonnokanoflaaGreatDoorMt113
import Derived.Test.YtofonnokanoflaaGreatDoorMt17
set_option linter.unusedVariables false
set_option linter.unusedSimpArgs false
namespace Go.Proofs.YtofonnokanoflaaGreatDoor
open Go.RowKit IntWalk
set_option maxHeartbeats 1600000
def qH (tag:List UInt8):List UInt8:=(tag.set 8 (rZ (tag.getD 8 0) 127)).set 12 (rZ (tag.getD 12 0) 127)
theorem Gb (tag:List UInt8):(qH tag).length=tag.length:=by unfold qH; rw[apT,apT]
def dX (key:List UInt8) (ad:List (List UInt8)) (b:List UInt8):List UInt8:=od (bF (key.take 16)) (ad++[b])
theorem kQ (key:List UInt8) (ad:List (List UInt8)) (b:List UInt8):(dX key ad b).length=16:=acU _ _
def fV (key tag b:List UInt8):List UInt8:=jK (bF (key.drop 16)) (qH tag) b
theorem lE (key tag b:List UInt8):(fV key tag b).length=b.length:=z6 _ _ _
def nY (l:List (List UInt8)):Bool:=l.any fun x=>decide (65519<x.length)
def dC (key:List UInt8) (ad:List (List UInt8)) (n:Int):Int:=if key.length≠32 then 5 else if 16<ad.length then 8 else if nY ad=true∨65519<n then 2 else 0
def wu (key:List UInt8) (ad:List (List UInt8)) (b:List UInt8):List UInt8:=if dC key ad b.length=0 then dX key ad b else []
def fk (key:List UInt8) (ad:List (List UInt8)) (b:List UInt8):List UInt8:=if dC key ad b.length=0 then dX key ad b++fV key (dX key ad b) b else []
def iG (key:List UInt8) (ad:List (List UInt8)) (s:List UInt8):Int :=
  if dC key ad ((s.length:Int)-16)≠0 then dC key ad ((s.length:Int)-16) else if s.length<16 then 1 else if s.take 16=dX key ad (fV key (s.take 16) (s.drop 16)) then 0 else 6
def iX (key:List UInt8) (ad:List (List UInt8)) (s:List UInt8):List UInt8:=if iG key ad s=0 then fV key (s.take 16) (s.drop 16) else []
theorem abo {l:List (List UInt8)} (h:nY l=false):∀ x∈l,x.length≤65519:=by
  unfold nY at h;rw[apz] at h;intro x hx
  simpa using h x hx
theorem H9 {key:List UInt8} {ad:List (List UInt8)} {n:Int} (h:dC key ad n=0):key.length=32∧ad.length≤16∧nY ad=false∧n≤65519:=by
  unfold dC at h;split at h
  ·cases h
  ·split at h
   ·cases h
   ·split at h
    ·cases h
    ·rename_i h1 h2 h3;cases hl:nY ad
     ·exact⟨by omega,by omega,rfl,by omega⟩
     ·exact absurd (.inl hl) h3
theorem G7 (key:List UInt8) (ad:List (List UInt8)) (n:Int):dC key ad n=0∨dC key ad n=5∨dC key ad n=8∨dC key ad n=2:=by
  unfold dC;split
  ·exact .inr (.inl rfl)
  ·split
   ·exact .inr (.inr (.inl rfl))
   ·split
    ·exact .inr (.inr (.inr rfl))
    ·exact .inl rfl
theorem afj {k:List UInt8} {l:List (List UInt8)} (h:k.length=16) (hn:l.length≤17) (hl:∀ x∈l,x.length≤65535):Kh k l=od (bF k) l∧DV k l=0:=by
  have:pd l=false:=by
    unfold pd;rw[apz];intro x hx;have:=hl x hx
    simpa using this
  refine⟨if_pos ⟨h,hn,this⟩,?_⟩;unfold DV;rw[if_neg (by omega),if_neg (by omega),this,if_neg (by simp)]
theorem abp {k c b:List UInt8} (h:k.length=16) (hc:c.length=16) (hb:b.length≤65535):C0 k c b=jK (bF k) c b∧pf k c b=0:=by
  refine⟨if_pos ⟨h,hc,hb⟩,?_⟩;unfold pf;rw[if_neg (by omega),if_neg (by omega),if_neg (by omega)]
theorem Vs {ad:List (List UInt8)} {b:List UInt8} (h:nY ad=false) (hb:b.length≤65519):∀ x∈ad++[b],x.length≤65535:=by
  intro x hx;rcases aoG.1 hx with hx | hx
  ·have:=abo h x hx; omega
  ·simp only[aou] at hx; subst hx; omega
def G8:aK:=⟨1,6,ae [bH 2 false] (ae [oM 3 0,bc 4 3,am .gtr 5 4 65519,oM 2 5] .ret),[(2,none)]⟩
theorem afk:aI Tryz.prog {} Tryz.f153=some G8:=by kernel_rfl
theorem aiV (G:au) (x:List UInt8) (hx:x.length≤9223372036854775807):oc Tryz.prog G 153 [] [.sl (x.map bD)] (.w (.c (.d (.bool (decide (65519<x.length)))))):=by
  refine⟨enters_of Tryz.func153 (by kernel_rfl) rfl,?_⟩;refine aT Tryz.func153 afk rfl rfl ?_;by_cases h:65519<x.length
  ·have hd:decide (65519<x.length)=true:=decide_eq_true h;rw[hd];simp only[G8,ai,af,seval,iteOmega];exact aZ
  ·have hd:decide (65519<x.length)=false:=decide_eq_false h;rw[hd];simp only[G8,ai,af,seval,iteOmega];exact aZ
def vq:aK:=⟨3,21,ae [ak 6 0] (.seq (ae [oM 8 0,bc 9 8,am .neq 10 9 32] (aw 10 (ae [ak 6 5] .ret) .skip)) (.seq (ae [oM 11 1,bc 12 11,am .gtr 13 12 16] (aw 13 (ae [ak 6 8] .ret) .skip)) (ae [oO 7 (.mv (.k (.c (.d (.fn 153 [])))))] (.seq (ae [oM 14 1,oM 15 7,cd 16 138 14 15,oM 17 16,bE 18 2 17 false,cu .gtr 19 18 65519 17 false,cC 20 17 19] (aw 20 (ae [ak 6 2] .ret) .skip)) (ae [ak 6 0] .ret))))),[(6,none)]⟩
theorem aiW:aI Tryz.prog {} Tryz.f122=some vq:=by kernel_rfl
theorem XW (G:au) (key:List UInt8) (ad:List (List UInt8)) (n:Int) (hk:key.length≤9223372036854775807) (hl:ad.length≤9223372036854775807) (hb:∀ x∈ad,x.length≤9223372036854775807):aF Tryz.prog G 122 [.sl (key.map bD),dH ad,.int .i64 n] (.w (.c (.d (.int .i64 (dC key ad n))))):=by
  refine aT Tryz.func122 aiW rfl rfl ?_;have hc:=Vd G ad 153 [] (fun x=>decide (65519<x.length)) hl (fun x hx=>aiV G x (hb x hx));have hL:(ad.any fun x=>decide (65519<x.length))=nY ad:=rfl;rw[hL] at hc;unfold dC;by_cases h:key.length=32
  ·rw[if_neg (by omega)];by_cases h2:16<ad.length
   ·rw[if_pos h2];simp only[vq,ai,af,seval,iteOmega];exact aZ
   ·rw[if_neg h2];cases hl:nY ad
    ·rw[hl] at hc;by_cases h3:65519<n
     ·rw[if_pos (.inr h3)];simp only[vq,ai,af,seval,iteOmega];refine sD (hc) ?_;exact aZ
     ·rw[if_neg (by simp; omega)];simp only[vq,ai,af,seval,iteOmega];refine sD (hc) ?_;exact aZ
    ·rw[hl] at hc;rw[if_pos (.inl rfl)];simp only[vq,ai,af,seval,iteOmega];refine sD (hc) ?_;exact aZ
  ·rw[if_pos h];simp only[vq,ai,af,seval,iteOmega];exact aZ
def Se:aK:=⟨3,23,ae [aM 6] (ae [oM 10 1,oM 11 2,oO 12 (.bldSl false 1 1 (.sl []) [(0,(.t 11))]),oO 13 (.bldSl false 2 1 (.sl []) [(0,(.t 10)),(1,(.t 12))]),aW 14 156 13,oM 7 14] (ae [oM 16 0,oO 17 (.slice 1 (.t 16) none (some (kI 16)) none),oM 18 7,oO 19 (.call 157 [(.t 17),(.t 18)] (some (0,1))),oM 15 19,aB 20 15 0,aB 21 15 1,oM 8 20,oM 9 21] (ae [oM 22 8,oM 6 22] .ret))),[(6,none)]⟩
theorem afl:aI Tryz.prog { comp:=[(19,0)] } Tryz.f124=some Se:=by kernel_rfl
theorem Vt (G:au) (key:List UInt8) (ad:List (List UInt8)) (b:List UInt8) (h:key.length=32) (hn:ad.length≤16) (hl:nY ad=false) (hb:b.length≤65519):aF Tryz.prog G 124 [.sl (key.map bD),dH ad,.sl (b.map bD)] (.w (.c (.fr 1 ((dX key ad b).map bD)))):=by
  refine aT Tryz.func124 afl rfl rfl ?_;have hf:[ad,[b]].flatten=ad++[b]:=by simp
  have hc:=air G [ad,[b]] (by simp) (by rw[hf]; simp; omega);rw[hf] at hc;have hk:(key.take 16).length=16:=by rw[aow]; omega
  obtain⟨v1,v2⟩:=afj (l:=ad++[b]) hk (by simp; omega) (Vs hl hb);have hv:=aiQ G (key.take 16) (ad++[b]) (by omega) (by simp; omega) (fun x hx=>apg (Vs hl hb x hx) (by decide));rw[v1,v2] at hv;have ht:od (bF (key.take 16)) (ad++[b])=dX key ad b:=rfl;rw[ht] at hv;simp only[Se,ai,af,seval];refine sD (hc) ?_;refine sD (hv) ?_;exact iJ
theorem G9 {tag:List UInt8} (h:tag.length=16) {i:Nat} (hi:i<16):tag[i]?=some (tag.getD i 0):=by
  rw[aor,aon (by omega)]; rfl
theorem afm {tag:List UInt8} (h:tag.length=16) (x:UInt8):(tag.set 8 x)[12]?=some (tag.getD 12 0):=by
  rw[List.getElem?_set_ne (by decide),G9 h (by decide)]
def Vu:aK:=⟨1,18,ae [aM 2] (ae [oM 4 0,oO 5 (.bldSl false 1 1 (.sl []) [(0,(.t 4))]),oO 6 (.call 44 [(.t 5)] (some (0,1))),oM 3 6] (ae [oM 7 3,oO 8 (.idxSl 1 (.t 7) (kI 8)),aA 9 8,oO 10 (.bin .and (.t 9) (.k (.c (.d (.int .u8 127))))),oO 11 (.idxSl 1 (.t 7) (kI 8)),ei 11 10] (ae [oM 12 3,oO 13 (.idxSl 1 (.t 12) (kI 12)),aA 14 13,oO 15 (.bin .and (.t 14) (.k (.c (.d (.int .u8 127))))),oO 16 (.idxSl 1 (.t 12) (kI 12)),ei 16 15] (ae [oM 17 3,oM 2 17] .ret)))),[(2,none)]⟩
theorem aiX:aI Tryz.prog { own:=[6] } Tryz.f155=some Vu:=by kernel_rfl
theorem ami (G:au) (tag:List UInt8) (h:tag.length=16):aF Tryz.prog G 155 [.sl (tag.map bD)] (.w (.c (.fr 1 ((qH tag).map bD)))):=by
  refine aT Tryz.func155 aiX rfl rfl ?_;have hj:=dV G [tag] (by simp) (by simp; omega);have hf:[tag].flatten=tag:=by simp
  rw[hf] at hj;have g1:=G9 h (i:=8) (by decide);have g2:=G9 h (i:=12) (by decide);have g3:=afm h (rZ (tag.getD 8 0) 127);have x1:=U0 (tag.getD 8 0) 127 127 rfl;have x2:=U0 (tag.getD 12 0) 127 127 rfl;have hs:(tag.set 8 (rZ (tag.getD 8 0) 127)).set 12 (rZ (tag.getD 12 0) 127)=qH tag:=rfl;simp only[Vu,ai,af,seval];refine sC (hj) ?_;simp only[ba,g1,g3,x1,x2,GK,hs,af,aa,seval,iteOmega,toNatUp];exact UZ (by simp only[af,seval,Gb])
theorem amj (G:au) (tag:List UInt8) (h:tag.length=16):aF Tryz.prog G 155 [.sl (tag.map bD)] (.w (.c (.d (.sl ((qH tag).map bD))))):=qg (ami G tag h)
def Sf:aK:=⟨3,19,ae [aM 6] (ae [oM 10 0,oO 11 (.slice 1 (.t 10) (some (kI 16)) none none),oM 12 1,aW 13 155 12,oM 14 2,oO 15 (.call 154 [(.t 11),(.t 13),(.t 14)] (some (0,1))),oM 9 15,aB 16 9 0,aB 17 9 1,oM 7 16,oM 8 17] (ae [oM 18 7,oM 6 18] .ret)),[(6,none)]⟩
theorem afn:aI Tryz.prog { comp:=[(15,0)] } Tryz.f123=some Sf:=by kernel_rfl
theorem Vv (G:au) (key tag b:List UInt8) (h:key.length=32) (ht:tag.length=16) (hb:b.length≤65535):aF Tryz.prog G 123 [.sl (key.map bD),.sl (tag.map bD),.sl (b.map bD)] (.w (.c (.fr 1 ((fV key tag b).map bD)))):=by
  refine aT Tryz.func123 afn rfl rfl ?_;have hk:(key.drop 16).length=16:=by rw[aoB]; omega
  have hk2:(key.drop 16).take 16=key.drop 16:=aot (by omega);obtain⟨v1,v2⟩:=abp (c:=qH tag) (b:=b) hk (by rw[Gb]; exact ht) hb;have hv:=amg G (key.drop 16) (qH tag) b (by omega) (by rw[Gb]; omega) (by omega);rw[v1,v2] at hv;have hs:jK (bF (key.drop 16)) (qH tag) b=fV key tag b:=rfl;rw[hs] at hv;simp only[Sf,ai,af,seval,toNatUp,h];refine sC (amj G tag ht) ?_;simp only[hk2,af,seval];refine sD (hv) ?_;exact iJ
theorem aiY (G:au) (key tag b:List UInt8) (h:key.length=32) (ht:tag.length=16) (hb:b.length≤65535):aF Tryz.prog G 123 [.sl (key.map bD),.sl (tag.map bD),.sl (b.map bD)] (.w (.c (.d (.sl ((fV key tag b).map bD))))):=qg (Vv G key tag b h ht hb)
def Ia:aK:=⟨3,21,ae [aM 6,ak 7 0] (.seq (ae [oM 9 0,oM 10 1,oM 11 2,bc 12 11,fZ 13 122 9 10 12,oM 8 13] (ae [oM 14 8,am .neq 15 14 0] (aw 15 (ae [oM 16 8,aM 6,oM 7 16] .ret) .skip))) (ae [oM 17 0,oM 18 1,oM 19 2,oO 20 (.call 124 [(.t 17),(.t 18),(.t 19)] (some (0,1))),oM 6 20,ak 7 0] .ret)),[(6,none),(7,none)]⟩
theorem aiZ:aI Tryz.prog { own:=[20] } Tryz.f128=some Ia:=by kernel_rfl
theorem amk (G:au) (key:List UInt8) (ad:List (List UInt8)) (b:List UInt8) (hk:key.length≤9223372036854775807) (hl:ad.length≤9223372036854775807) (hx:∀ x∈ad,x.length≤9223372036854775807) (hb:b.length≤9223372036854775807):aF Tryz.prog G 128 [.sl (key.map bD),dH ad,.sl (b.map bD)] (.tup [.c (.fr 1 ((wu key ad b).map bD)),.c (.d (.int .i64 (dC key ad b.length)))]):=by
  refine aT Tryz.func128 aiZ rfl rfl ?_;have hc:=XW G key ad (b.length:Int) hk hl hx;by_cases he:dC key ad (b.length:Int)=0
  ·have hv:wu key ad b=dX key ad b:=if_pos he;obtain⟨k1,k2,k3,k4⟩:=H9 he;rw[he] at hc ⊢;rw[hv];simp only[Ia,ai,af,seval];refine sD (hc) ?_;refine sD (Vt G key ad b k1 k2 k3 (by omega)) ?_;exact dZ
  ·have hv:wu key ad b=[]:=if_neg he;rw[hv];have hne:dC key ad (b.length:Int)=0↔False:=⟨he,False.elim⟩
   rcases G7 key ad b.length with e | e | e | e
   ·exact absurd e he
   all_goals
     rw[e] at hc ⊢;simp only[Ia,ai,af,seval];refine bK hc rfl (.inl rfl) ?_;simp only[af,seval];exact dZ
theorem aml (G:au) (key:List UInt8) (ad:List (List UInt8)) (b:List UInt8) (hk:key.length≤9223372036854775807) (hl:ad.length≤9223372036854775807) (hx:∀ x∈ad,x.length≤9223372036854775807) (hb:b.length≤9223372036854775807):aF Tryz.prog G 128 [.sl (key.map bD),dH ad,.sl (b.map bD)] (.tup [.c (.d (.sl ((wu key ad b).map bD))),.c (.d (.int .i64 (dC key ad b.length)))]):=uV (amk G key ad b hk hl hx hb)
def Ha:aK:=⟨3,27,ae [aM 6,ak 7 0] (ae [oM 11 0,oM 12 1,oM 13 2,fZ 14 128 11 12 13,oM 10 14,aB 15 10 0,aB 16 10 1,oM 8 15,oM 9 16] (.seq (ae [oM 17 9,am .neq 18 17 0] (aw 18 (ae [oM 19 9,aM 6,oM 7 19] .ret) .skip)) (ae [oM 20 8,oM 21 0,oM 22 8,oM 23 2,fZ 24 123 21 22 23,oO 25 (.bldSl false 2 1 (.sl []) [(0,(.t 20)),(1,(.t 24))]),oO 26 (.call 44 [(.t 25)] (some (0,1))),oM 6 26,ak 7 0] .ret))),[(6,none),(7,none)]⟩
theorem afo:aI Tryz.prog { own:=[26] } Tryz.f77=some Ha:=by kernel_rfl
theorem ai0 (G:au) (key:List UInt8) (ad:List (List UInt8)) (b:List UInt8) (hk:key.length≤9223372036854775807) (hl:ad.length≤9223372036854775807) (hx:∀ x∈ad,x.length≤9223372036854775807) (hb:b.length≤9223372036854775807):aF Tryz.prog G 77 [.sl (key.map bD),dH ad,.sl (b.map bD)] (.tup [.c (.fr 1 ((fk key ad b).map bD)),.c (.d (.int .i64 (dC key ad b.length)))]):=by
  refine aT Tryz.func77 afo rfl rfl ?_;have hc:=aml G key ad b hk hl hx hb;by_cases he:dC key ad (b.length:Int)=0
  ·have hv:wu key ad b=dX key ad b:=if_pos he;have hv2:fk key ad b=dX key ad b++fV key (dX key ad b) b:=if_pos he;obtain⟨k1,k2,k3,k4⟩:=H9 he;have hj:=dV G [dX key ad b,fV key (dX key ad b) b] (by simp) (by simp[kQ,lE]; omega);have hf:[dX key ad b,fV key (dX key ad b) b].flatten=dX key ad b++fV key (dX key ad b) b:=by simp
   rw[hf] at hj;rw[he,hv] at hc;rw[he,hv2];simp only[Ha,ai,af,seval];refine sD (hc) ?_;refine sD (aiY G key (dX key ad b) b k1 (kQ _ _ _) (by omega)) ?_;refine sD (hj) ?_;exact dZ
  ·have hv:wu key ad b=[]:=if_neg he;have hv2:fk key ad b=[]:=if_neg he;rw[hv] at hc;rw[hv2];rcases G7 key ad b.length with e | e | e | e
   ·exact absurd e he
   all_goals
     rw[e] at hc ⊢;simp only[Ha,ai,af,seval];refine bK hc rfl (.inl rfl) ?_;simp only[af,seval];exact dZ
theorem Ib (G:au) (key:List UInt8) (ad:List (List UInt8)) (b:List UInt8) (hk:key.length≤9223372036854775807) (hl:ad.length≤9223372036854775807) (hx:∀ x∈ad,x.length≤9223372036854775807) (hb:b.length≤9223372036854775807):aF Tryz.prog G 77 [.sl (key.map bD),dH ad,.sl (b.map bD)] (.tup [.c (.d (.sl ((fk key ad b).map bD))),.c (.d (.int .i64 (dC key ad b.length)))]):=uV (ai0 G key ad b hk hl hx hb)
theorem afp {key:List UInt8} {ad:List (List UInt8)} {s:List UInt8} (h:dC key ad ((s.length:Int)-16)≠0):iG key ad s=dC key ad ((s.length:Int)-16)∧iX key ad s=[]:=by
  have:iG key ad s=dC key ad ((s.length:Int)-16):=if_pos h;refine⟨this,?_⟩;unfold iX;rw[if_neg (by rw[this]; exact h)]
theorem abq {key:List UInt8} {ad:List (List UInt8)} {s:List UInt8} (h:dC key ad ((s.length:Int)-16)=0) (hs:s.length<16):iG key ad s=1∧iX key ad s=[]:=by
  have:iG key ad s=1:=by unfold iG; rw[if_neg (by simp[h]),if_pos hs]
  refine⟨this,?_⟩;unfold iX;rw[if_neg (by rw[this]; decide)]
theorem Vw {key:List UInt8} {ad:List (List UInt8)} {s:List UInt8} (h:dC key ad ((s.length:Int)-16)=0) (hs:¬ s.length<16) (ht:s.take 16=dX key ad (fV key (s.take 16) (s.drop 16))):iG key ad s=0∧iX key ad s=fV key (s.take 16) (s.drop 16):=by
  have:iG key ad s=0:=by unfold iG; rw[if_neg (by simp[h]),if_neg hs,if_pos ht]
  exact⟨this,if_pos this⟩
theorem adb {key:List UInt8} {ad:List (List UInt8)} {s:List UInt8} (h:dC key ad ((s.length:Int)-16)=0) (hs:¬ s.length<16) (ht:s.take 16≠dX key ad (fV key (s.take 16) (s.drop 16))):iG key ad s=6∧iX key ad s=[]:=by
  have:iG key ad s=6:=by unfold iG; rw[if_neg (by simp[h]),if_neg hs,if_neg ht]
  refine⟨this,?_⟩;unfold iX;rw[if_neg (by rw[this]; decide)]
def yc:aK:=⟨3,38,ae [aM 6,ak 7 0] (.seq (ae [oM 11 0,oM 12 1,oM 13 2,bc 14 13,am .sub 15 14 16,fZ 16 122 11 12 15,oM 8 16] (ae [oM 17 8,am .neq 18 17 0] (aw 18 (ae [oM 19 8,aM 6,oM 7 19] .ret) .skip))) (.seq (ae [oM 20 2,bc 21 20,am .lss 22 21 16] (aw 22 (ae [aM 6,ak 7 1] .ret) .skip)) (ae [oM 23 2,oO 24 (.slice 1 (.t 23) none (some (kI 16)) none),oM 9 24] (ae [oM 25 0,oM 26 9,oM 27 2,oO 28 (.slice 1 (.t 27) (some (kI 16)) none none),oO 29 (.call 123 [(.t 25),(.t 26),(.t 28)] (some (0,1))),oM 10 29] (.seq (ae [oM 30 9,oM 31 0,oM 32 1,oM 33 10,fZ 34 124 31 32 33,cd 35 94 30 34,dd 36 35] (aw 36 (ae [aM 6,ak 7 6] .ret) .skip)) (ae [oM 37 10,oM 6 37,ak 7 0] .ret)))))),[(6,none),(7,none)]⟩
theorem ai1:aI Tryz.prog { own:=[29] } Tryz.f69=some yc:=by kernel_rfl
theorem amm (G:au) (key:List UInt8) (ad:List (List UInt8)) (s:List UInt8) (hk:key.length≤9223372036854775807) (hl:ad.length≤9223372036854775807) (hx:∀ x∈ad,x.length≤9223372036854775807) (hb:s.length≤9223372036854775807):aF Tryz.prog G 69 [.sl (key.map bD),dH ad,.sl (s.map bD)] (.tup [.c (.fr 1 ((iX key ad s).map bD)),.c (.d (.int .i64 (iG key ad s)))]):=by
  refine aT Tryz.func69 ai1 rfl rfl ?_;have hc:=XW G key ad ((s.length:Int)-16) hk hl hx;by_cases he:dC key ad ((s.length:Int)-16)=0
  ·obtain⟨k1,k2,k3,k4⟩:=H9 he;rw[he] at hc;by_cases hs:s.length<16
   ·obtain⟨e1,e2⟩:=abq he hs;rw[e1,e2];simp only[yc,ai,af,seval,iteOmega];refine sD (hc) ?_;exact dZ
   ·have ht:(s.take 16).length=16:=by rw[aow]; omega
    have hd:(s.drop 16).length=s.length-16:=aoB;have hd2:(s.drop 16).take (s.length-16)=s.drop 16:=aot (by omega);have c1:=Vv G key (s.take 16) (s.drop 16) k1 ht (by omega);have c2:=Vt G key ad (fV key (s.take 16) (s.drop 16)) k1 k2 k3 (by rw[lE]; omega);have c3:=rD G (s.take 16) (dX key ad (fV key (s.take 16) (s.drop 16)));by_cases hq:s.take 16=dX key ad (fV key (s.take 16) (s.drop 16))
    ·obtain⟨e1,e2⟩:=Vw he hs hq;have hb:(s.take 16==dX key ad (fV key (s.take 16) (s.drop 16)))=true:=beq_iff_eq.2 hq;rw[hb] at c3;rw[e1,e2];simp only[yc,ai,af,seval,iteOmega];refine sC (hc) ?_;simp only[hd2,af,seval,iteOmega,toNatUp];refine sD (c1) ?_;refine bK (c2) (by simp only[af,seval,iteOmega]) (.inr (tM _ _)) ?_;simp only[af,seval];refine sD (c3) ?_;exact dZ
    ·obtain⟨e1,e2⟩:=adb he hs hq;have hb:(s.take 16==dX key ad (fV key (s.take 16) (s.drop 16)))=false:=by simpa using hq
     rw[hb] at c3;rw[e1,e2];simp only[yc,ai,af,seval,iteOmega];refine sC (hc) ?_;simp only[hd2,af,seval,iteOmega,toNatUp];refine sD (c1) ?_;refine bK (c2) (by simp only[af,seval,iteOmega]) (.inr (tM _ _)) ?_;simp only[af,seval];refine sD (c3) ?_;exact dZ
  ·obtain⟨e1,e2⟩:=afp he;rw[e1,e2];rcases G7 key ad ((s.length:Int)-16) with e | e | e | e
   ·exact absurd e he
   all_goals
     rw[e] at hc ⊢;simp only[yc,ai,af,seval,iteOmega];refine bK hc rfl (.inl rfl) ?_;simp only[af,seval];exact dZ
theorem Jc (G:au) (key:List UInt8) (ad:List (List UInt8)) (s:List UInt8) (hk:key.length≤9223372036854775807) (hl:ad.length≤9223372036854775807) (hx:∀ x∈ad,x.length≤9223372036854775807) (hb:s.length≤9223372036854775807):aF Tryz.prog G 69 [.sl (key.map bD),dH ad,.sl (s.map bD)] (.tup [.c (.d (.sl ((iX key ad s).map bD))),.c (.d (.int .i64 (iG key ad s)))]):=uV (amm G key ad s hk hl hx hb)
theorem AA {key:List UInt8} {ad:List (List UInt8)} {n:Int} (h:key.length=32) (h2:ad.length≤16) (h3:∀ x∈ad,x.length≤65519) (h4:n≤65519):dC key ad n=0:=by
  have:nY ad=false:=by
    unfold nY;rw[apz];intro x hx;have:=h3 x hx
    simpa using this
  unfold dC;rw[if_neg (by omega),if_neg (by omega),if_neg (by rw[this]; simp; omega)]
theorem Lx (key tag b:List UInt8):fV key tag (fV key tag b)=b:=ZK _ _ _
theorem nK {key b:List UInt8} {ad:List (List UInt8)} (h:dC key ad b.length=0):fk key ad b=dX key ad b++fV key (dX key ad b) b:=if_pos h
theorem MR {key b:List UInt8} {ad:List (List UInt8)} (T:List UInt8):(dX key ad b++T).take 16=dX key ad b:=by
  rw[apn (by rw[kQ]; exact aoz _),aot (by rw[kQ]; exact aoz _)]
theorem MS {key b:List UInt8} {ad:List (List UInt8)} (T:List UInt8):(dX key ad b++T).drop 16=T:=by
  have:=List.drop_left (l₁:=dX key ad b) (l₂:=T);rw[kQ] at this;exact this
theorem Gd {key b:List UInt8} {ad:List (List UInt8)} (h:dC key ad b.length=0):iG key ad (dX key ad b++fV key (dX key ad b) b)=0∧iX key ad (dX key ad b++fV key (dX key ad b) b)=b:=by
  have hl:(dX key ad b++fV key (dX key ad b) b).length=16+b.length:=by rw[aoq,kQ,lE]
  have he:dC key ad (((dX key ad b++fV key (dX key ad b) b).length:Int)-16)=0:=by rw[hl,show ((16+b.length:Nat):Int)-16=(b.length:Int) by omega]; exact h
  obtain⟨e1,e2⟩:=Vw he (by omega) (by rw[MR,MS,Lx]);refine⟨e1,?_⟩;rw[e2,MR,MS,Lx]
def yM:List UInt8:=[115,101,99,116,105,109,101,32,117,112]
def yN:List UInt8:=[115,101,99,116,105,109,101,32,100,111,119,110]
def vW:List UInt8:=[115,101,99,116,105,109,101,32,101,120,112,111,114,116]
structure Ch where
  cl:Bool
  se:List UInt8
  sk:List UInt8
  rk:List UInt8
  n:Int
  m:Int
def bV (c:Ch):D:=.agg [.bool c.cl,.sl (c.se.map bD),.sl (c.sk.map bD),.sl (c.rk.map bD),.int .i64 c.n,.int .i64 c.m]
def g9 (K:List UInt8):List UInt8:=lT K yM 32
def iw (K:List UInt8):List UInt8:=lT K yN 32
theorem afF (K:List UInt8):(g9 K).length=32:=xK _ _ _
theorem afG (K:List UInt8):(iw K).length=32:=xK _ _ _
def bU (cl:Bool) (K:List UInt8) (n m:Int):Ch:=⟨cl,K,bif cl then g9 K else iw K,bif cl then iw K else g9 K,n,m⟩
def jy:Ch:=⟨false,[],[],[],0,0⟩
def eT (c:Ch):Prop:=c.se.length=32∧(0≤c.n∧c.n≤1099511627776)∧(0≤c.m∧c.m≤1099511627776)∧c.sk=(bif c.cl then g9 c.se else iw c.se)∧c.rk=(bif c.cl then iw c.se else g9 c.se)
instance (c:Ch):Decidable (eT c):=by unfold eT; exact inferInstance
theorem Ie (cl:Bool) (K:List UInt8):(bif cl then g9 K else iw K).length=32:=by
  cases cl
  ·rw[cond_false]; exact afG K
  ·rw[cond_true]; exact afF K
theorem ajd (cl:Bool) (K:List UInt8) (m n:Int):(bU (!cl) K m n).rk=(bif cl then g9 K else iw K):=by
  show (bif !cl then iw K else g9 K)=_
  cases cl
  ·rw[Bool.not_false,cond_true,cond_false]
  ·rw[Bool.not_true,cond_false,cond_true]
theorem Jm {c:Ch} (h:eT c):c.sk.length=32:=by
  obtain⟨_,_,_,e,_⟩:=h;rw[e];exact Ie _ _
theorem Jn {c:Ch} (h:eT c):c.rk.length=32:=by
  obtain⟨_,_,_,_,e⟩:=h;rw[e];have:=Ie (!c.cl) c.se;cases hc:c.cl
  ·rw[hc,Bool.not_false,cond_true] at this;rw[cond_false]; exact this
  ·rw[hc,Bool.not_true,cond_false] at this;rw[cond_true]; exact this
def wO (s:List UInt8):Int:=if s.length<16∨65535<s.length then 5 else 0
def wP (cl:Bool) (s h:List UInt8):Ch:=if wO s=0 then bU cl (lS (dM h) s) 0 0 else jy
def dJ (k:Int) (n:Nat):List UInt8:=UInt8.ofNat k.toNat::aC (n+16) 2
theorem s6 (k:Int) (n:Nat):(dJ k n).length=3:=rfl
def fQ (n:Int) (h:List UInt8):List (List UInt8):=[aC n.toNat 8,h]
def jz (c:Ch) (k:Int) (b:List UInt8):Int:=if ¬ eT c then 3 else if k<0∨255<k then 4 else if 16384<b.length then 2 else if c.n=1099511627776 then 7 else 0
def Eg (c:Ch) (k:Int) (b:List UInt8):Ch:=if jz c k b=0 then ⟨c.cl,c.se,c.sk,c.rk,c.n+1,c.m⟩ else jy
def Eh (c:Ch) (k:Int) (b:List UInt8):List UInt8:=if jz c k b=0 then dJ k b.length++fk c.sk (fQ c.n (dJ k b.length)) b else []
def tZ (c:Ch) (r:List UInt8):Int:=iG c.rk (fQ c.m (r.take 3)) (r.drop 3)
def lv (r:List UInt8):Int:=if r.length<3 then 1 else if r.length-3<bi (aG r 1 2) then 1 else if bi (aG r 1 2)<r.length-3∨16400<bi (aG r 1 2) then 2 else 0
def jA (c:Ch) (r:List UInt8):Int:=if ¬ eT c then 3 else if ¬ lv r=0 then lv r else if c.m=1099511627776 then 7 else if tZ c r=0 then 0 else 6
def zt (c:Ch) (r:List UInt8):Ch:=if jA c r=0 then ⟨c.cl,c.se,c.sk,c.rk,c.n,c.m+1⟩ else jy
def wQ (c:Ch) (r:List UInt8):Int:=if jA c r=0 then ((r.getD 0 0).toNat:Int) else 0
def wR (c:Ch) (r:List UInt8):List UInt8:=if jA c r=0 then iX c.rk (fQ c.m (r.take 3)) (r.drop 3) else []
def Zo (c:Ch) (n:Int):Int:=if eT c then si n else 3
def DW (c:Ch) (l x:List UInt8) (n:Int):List UInt8:=if eT c then nk c.se (qL vW l x) n else []
theorem y9 {cl:Bool} {K:List UInt8} {n m:Int} (h:K.length=32) (h1:0≤n∧n≤1099511627776) (h2:0≤m∧m≤1099511627776):eT (bU cl K n m):=⟨h,h1,h2,rfl,rfl⟩
theorem ads (k:Int) (n:Nat) (S:List UInt8):(dJ k n++S).take 3=dJ k n∧(dJ k n++S).drop 3=S∧aG (dJ k n++S) 1 2=aC (n+16) 2∧(dJ k n++S).getD 0 0=UInt8.ofNat k.toNat:=by
  refine⟨aqx (s6 k n),List.drop_left' (s6 k n),?_,rfl⟩;have:=mN [UInt8.ofNat k.toNat] (aC (n+16) 2) S;rw[bO] at this;exact this
theorem Ss {cl:Bool} {K b:List UInt8} {n m k:Int} (h:K.length=32) (h1:0≤n∧n<1099511627776) (h2:0≤m∧m≤1099511627776) (hk:0≤k∧k≤255) (hb:b.length≤16384) :
    ∃ R:List UInt8,(jz (bU cl K n m) k b=0∧Eg (bU cl K n m) k b=bU cl K (n+1) m∧Eh (bU cl K n m) k b=R∧R.length=b.length+19) ∧
      (jA (bU (!cl) K m n) R=0∧zt (bU (!cl) K m n) R=bU (!cl) K m (n+1)∧wQ (bU (!cl) K m n) R=k∧wR (bU (!cl) K m n) R=b):=by
  have e:jz (bU cl K n m) k b=0:=by
    unfold jz;rw[if_neg (not_not_intro (y9 h ⟨h1.1,by omega⟩ h2)),if_neg (by omega),if_neg (by omega),if_neg (show ¬ (bU cl K n m).n=1099511627776 from fun q=>absurd (show n=1099511627776 from q) (by omega))]
  have ks:(bif cl then g9 K else iw K).length=32:=Ie cl K;have kr:(bU (!cl) K m n).rk=(bif cl then g9 K else iw K):=ajd cl K m n;have ha:dC (bif cl then g9 K else iw K) (fQ n (dJ k b.length)) b.length=0:=AA ks (show (2:Nat)≤16 by decide) (fun x hx=>by
    rcases aoK.1 hx with rfl | hx
    ·rw[bO]; decide
    ·rw[aou.1 hx,s6]; decide) (by omega)
  obtain⟨o1,o2⟩:=Gd ha;refine⟨_,⟨e,if_pos e,if_pos e,?_⟩,?_⟩
  ·show (dJ k b.length++fk (bif cl then g9 K else iw K) (fQ n (dJ k b.length)) b).length=_
   rw[nK ha,aoq,aoq,s6,kQ,lE]; omega
  ·show jA _ (dJ k b.length++fk (bif cl then g9 K else iw K) (fQ n (dJ k b.length)) b)=0∧zt _ (dJ k b.length++fk (bif cl then g9 K else iw K) (fQ n (dJ k b.length)) b)=_∧wQ _ (dJ k b.length++fk (bif cl then g9 K else iw K) (fQ n (dJ k b.length)) b)=k∧wR _ (dJ k b.length++fk (bif cl then g9 K else iw K) (fQ n (dJ k b.length)) b)=b
   have hl:(fk (bif cl then g9 K else iw K) (fQ n (dJ k b.length)) b).length=b.length+16:=by rw[nK ha,aoq,kQ,lE]; omega
   rw[← nK ha] at o1 o2;generalize fk (bif cl then g9 K else iw K) (fQ n (dJ k b.length)) b=S at *
   obtain⟨t3,d3,c3,w3⟩:=ads k b.length S;have g3:bi (aG (dJ k b.length++S) 1 2)=b.length+16:=by rw[c3,get_put 2 (by decide)]; omega
   have ll:(dJ k b.length++S).length=b.length+19:=by rw[aoq,s6,hl]; omega
   have hx:tZ (bU (!cl) K m n) (dJ k b.length++S)=0:=by
     unfold tZ;rw[t3,d3,kr];exact o1
   have pe:lv (dJ k b.length++S)=0:=by
     unfold lv;rw[if_neg (by omega),if_neg (by omega),if_neg (by omega)]
   have e2:jA (bU (!cl) K m n) (dJ k b.length++S)=0:=by
     unfold jA;rw[if_neg (not_not_intro (y9 h h2 ⟨h1.1,by omega⟩)),if_neg (not_not_intro pe),if_neg (show ¬ (bU (!cl) K m n).m=1099511627776 from fun q=>absurd (show n=1099511627776 from q) (by omega)),if_pos hx]
   refine⟨e2,if_pos e2,?_,?_⟩
   ·unfold wQ;rw[if_pos e2];rw[w3,UInt8.toNat_ofNat'];omega
   ·unfold wR;rw[if_pos e2,t3,d3,kr];exact o2
def Ei:ByteArray:=⟨#[115,101,99,116,105,109,101,32,117,112]⟩
def Ej:ByteArray:=⟨#[115,101,99,116,105,109,101,32,100,111,119,110]⟩
def zw (K:List UInt8):Nat→List D
  | 0=>[.sl [],.sl []]
  | 1=>[.sl ((g9 K).map bD),.sl []]
  | _=>[.sl ((g9 K).map bD),.sl ((iw K).map bD)]
def zd (cl:Bool) (K:List UInt8) (i:Nat):St:=⟨bz [(0,.w (.c (.d (.bool cl)))),(1,.w (.c (.d (.sl (K.map bD))))),(7,.w (.c (.pa 1 1))),(11,.w (.c (.d (.agg [.str Ei,.str Ej])))),(12,.w (.c (.d (.int .i64 (i:Int)))))],hL [(1,.row 1 (zw K i))],uL [1]⟩
def xM:bq := ae [am .lss 13 12 2] (.seq (aw 13 .skip (.exit 0)) (.seq (.block 1 (ae [oM 14 12,oO 15 (.idxArr 1 2 .sc (.t 11) (.t 12)),oM 8 14,oM 9 15] (.reg [oM 17 8,oM 18 1,oM 19 9,oO 20 (.s2b false (.t 19)),oO 21 (.call 96 [(.t 18),(.t 20),(kI 32)] none),oM 16 21,aB 22 16 0,aB 23 16 1,oO 24 (.idxPa 1 2 (.t 7) (.t 17)),ei 24 22]))) (.reg [am .add 25 12 1,oM 12 25])))
def V0:aK:=⟨2,35,ae [aM 4,aM 5] (ae [oO 10 (.build [(.d (.str ⟨#[]⟩)),(.d (.str ⟨#[]⟩))] [(0,1,(.k (.c (.d (.str ⟨#[115,101,99,116,105,109,101,32,117,112]⟩))))),(1,1,(.k (.c (.d (.str ⟨#[115,101,99,116,105,109,101,32,100,111,119,110]⟩)))))]),oO 6 (.allocArr [(.str ⟨#[]⟩),(.str ⟨#[]⟩)]),aS 2 6 10] (ae [oO 7 (.allocArr [(.sl []),(.sl [])])] (.seq (ae [bn 11 2 6,ak 12 0] (.block 0 (.loop xM))) (.seq (ae [oM 26 0] (aw 26 (ae [oO 27 (.idxPa 1 2 (.t 7) (kI 0)),aA 28 27,oO 29 (.idxPa 1 2 (.t 7) (kI 1)),aA 30 29,oM 4 28,oM 5 30] .ret) .skip)) (ae [oO 31 (.idxPa 1 2 (.t 7) (kI 1)),aA 32 31,oO 33 (.idxPa 1 2 (.t 7) (kI 0)),aA 34 33,oM 4 32,oM 5 34] .ret))))),[(4,none),(5,none)]⟩
theorem ajr:aI Tryz.prog {} Tryz.f115=some V0:=by kernel_rfl
theorem amx (G:au) (hF:G.at 0=some (.ra (dW.map wD))) (hG:G.at 1=some (.ra (cy.map wD))) (cl:Bool) (K:List UInt8) (hK:K.length≤140737488355328):aF Tryz.prog G 115 [.bool cl,.sl (K.map bD)] (.tup [.c (.d (.sl ((bU cl K 0 0).sk.map bD))),.c (.d (.sl ((bU cl K 0 0).rk.map bD)))]):=by
  refine aT Tryz.func115 ajr rfl rfl ?_;have s1:Ei.size≤maxLen:=by unfold maxLen; decide
  have s2:Ej.size≤maxLen:=by unfold maxLen; decide
  have c1:=Jl G hF hG K Ei.data.toList hK (by decide) 32 (by decide) (by decide);have c2:=Jl G hF hG K Ej.data.toList hK (by decide) 32 (by decide) (by decide);rw[show nk K Ei.data.toList 32=g9 K from rm K yM (by decide),s5 (by decide)] at c1;rw[show nk K Ej.data.toList 32=iw K from rm K yN (by decide),s5 (by decide)] at c2;simp only[V0,ai,af,aa,seval];refine bQ (zd cl K) (fun i=>2-i) (fun i=>i≤2) 0 (by decide) ?_ ?_
  ·refine aV (fun i=>56) ?_ ?_ rfl rfl <;> simp only[wx,aH,seval] <;> first | rfl | exact⟨rfl,rfl⟩ | skip
  ·intro i hi;have h3:i=0∨i=1∨i=2:=by omega
   rcases h3 with rfl | rfl | rfl
   ·simp only[xM,zd,zw,af,seval,toNatUp,s1];refine sD (c1) ?_;refine bA 1 (by decide) (by decide) (aV (fun i=>i) ?_ ?_ rfl rfl) <;> simp only[wx,aH,seval] <;> first | rfl | exact⟨rfl,rfl⟩ | skip
   ·simp only[xM,zd,zw,af,seval,toNatUp,s2];refine sD (c2) ?_;refine bA 2 (by decide) (by decide) (aV (fun i=>i) ?_ ?_ rfl rfl) <;> simp only[wx,aH,seval] <;> first | rfl | exact⟨rfl,rfl⟩ | skip
   ·unfold bU;cases cl
    ·rw[cond_false,cond_false];simp only[xM,zd,zw,af,seval,toNatUp];exact bu
    ·rw[cond_true,cond_true];simp only[xM,zd,zw,af,seval,toNatUp];exact bu
def ub (n:Int):Bool:=decide (0≤n∧n≤1099511627776)
def Ck:aK:=⟨1,9,ae [bH 2 false] (ae [oM 3 0,oO 4 (.bin .leq (kI 0) (.t 3)),oM 5 4,bE 6 0 5 true,cu .leq 7 6 1099511627776 5 true,dh 8 5 7,oM 2 8] .ret),[(2,none)]⟩
theorem ajs:aI Tryz.prog {} Tryz.f114=some Ck:=by kernel_rfl
theorem Yb (G:au) (n:Int):aF Tryz.prog G 114 [.int .i64 n] (.w (.c (.d (.bool (ub n))))):=by
  refine aT Tryz.func114 ajs rfl rfl ?_;unfold ub;by_cases h1:0≤n
  ·have g1:(0≤n)=True:=eq_true h1;by_cases h2:n≤1099511627776
   ·have g2:(n≤1099511627776)=True:=eq_true h2;rw[decide_eq_true (And.intro h1 h2)];simp only[Ck,ai,af,seval,g1,g2];exact aZ
   ·have g2:(n≤1099511627776)=False:=eq_false h2;rw[decide_eq_false (fun h=>h2 h.2)];simp only[Ck,ai,af,seval,g1,g2];exact aZ
  ·have g1:(0≤n)=False:=eq_false h1;rw[decide_eq_false (fun h=>h1 h.1)];simp only[Ck,ai,af,seval,g1];exact aZ
theorem vdb (c:Ch):decide (eT c)=(decide (c.se.length=32)&&ub c.n&&ub c.m&&(c.sk==(bU c.cl c.se 0 0).sk)&&(c.rk==(bU c.cl c.se 0 0).rk)):=by
  rw[Bool.eq_iff_iff];unfold eT ub bU;simp only[decide_eq_true_eq,aoU,beq_iff_eq,and_assoc]
def vt:aK:=⟨1,39,ae [cW 1 0,bH 2 false] (.seq (ae [aO 5 1 1,aA 6 5,bc 7 6,am .neq 8 7 32,oM 9 8,dN 10 4 1 9 false,dz 11 10 9 false,oG 12 (.call 114 [(.t 11)] none) 9 false,fY 13 12 9 false,cC 14 9 13,oM 15 14,dN 16 5 1 15 false,dz 17 16 15 false,oG 18 (.call 114 [(.t 17)] none) 15 false,fY 19 18 15 false,cC 20 15 19] (aw 20 (ae [bH 2 false] .ret) .skip)) (ae [aO 22 0 1,aA 23 22,aO 24 1 1,aA 25 24,cd 26 115 23 25,oM 21 26,aB 27 21 0,aB 28 21 1,oM 3 27,oM 4 28] (ae [aO 29 2 1,aA 30 29,oM 31 3,cd 32 94 30 31,oM 33 32,dN 34 3 1 33 true,dz 35 34 33 true,bE 36 4 33 true,oG 37 (.call 94 [(.t 35),(.t 36)] none) 33 true,dh 38 33 37,oM 2 38] .ret))),[(2,none)]⟩
theorem ajt:aI Tryz.prog {} Tryz.f61=some vt:=by kernel_rfl
theorem vZ (G:au) (hF:G.at 0=some (.ra (dW.map wD))) (hG:G.at 1=some (.ra (cy.map wD))) (c:Ch):aF Tryz.prog G 61 [bV c] (.w (.c (.d (.bool (decide (eT c)))))):=by
  refine aT Tryz.func61 ajt rfl rfl ?_;rw[vdb];have c1:=Yb G c.n;have c2:=Yb G c.m;by_cases h:c.se.length=32
  ·have g:(((c.se.length:Nat):Int)=32)=True:=eq_true (by omega);have c3:=amx G hF hG c.cl c.se (by omega);have c4:=rD G c.sk (bU c.cl c.se 0 0).sk;have c5:=rD G c.rk (bU c.cl c.se 0 0).rk;rw[decide_eq_true h];generalize (bU c.cl c.se 0 0).sk=S at *
   generalize (bU c.cl c.se 0 0).rk=R at *
   generalize (c.sk==S)=q1 at *
   generalize (c.rk==R)=q2 at *
   generalize ub c.n=q3 at *
   generalize ub c.m=q4 at *
   unfold bV;cases q3
   ·simp only[vt,ai,af,seval,g];refine sD (c1) ?_;exact aZ
   ·cases q4
    ·simp only[vt,ai,af,seval,g];refine sD (c1) ?_;refine sD (c2) ?_;exact aZ
    ·cases q1
     ·simp only[vt,ai,af,seval,g];refine sD (c1) ?_;refine sD (c2) ?_;refine sD (c3) ?_;refine sD (c4) ?_;exact aZ
     ·simp only[vt,ai,af,seval,g];refine sD (c1) ?_;refine sD (c2) ?_;refine sD (c3) ?_;refine sD (c4) ?_;refine sD (c5) ?_;exact aZ
  ·have g:(((c.se.length:Nat):Int)=32)=False:=eq_false (by omega);rw[decide_eq_false h];unfold bV;simp only[vt,ai,af,seval,g];exact aZ
def Zp:ByteArray:=⟨#[115,101,99,116,105,109,101,32,101,120,112,111,114,116]⟩
def Im:aK:=⟨4,22,ae [cW 4 0,aM 8,ak 9 0] (.seq (ae [bn 10 6 4,aW 11 61 10,dd 12 11] (aw 12 (ae [aM 8,ak 9 3] .ret) .skip)) (ae [aO 13 1 4,aA 14 13,oM 15 1,oM 16 2,oO 17 (.call 151 [(.k (.c (.d (.str ⟨#[115,101,99,116,105,109,101,32,101,120,112,111,114,116]⟩)))),(.t 15),(.t 16)] none),oM 18 3,fZ 19 96 14 17 18,aB 20 19 0,aB 21 19 1,oM 8 20,oM 9 21] .ret)),[(8,none),(9,none)]⟩
theorem aju:aI Tryz.prog {} Tryz.f117=some Im:=by kernel_rfl
theorem amy (G:au) (hF:G.at 0=some (.ra (dW.map wD))) (hG:G.at 1=some (.ra (cy.map wD))) (c:Ch) (l:ByteArray) (x:List UInt8) (n:Int) (hl:l.size≤1099511627776) (hx:x.length≤140737488355328) (hn1:-9223372036854775808≤n) (hn2:n≤9223372036854775807):aF Tryz.prog G 117 [bV c,.str l,.sl (x.map bD),.int .i64 n] (.tup [.c (.d (.sl ((DW c l.data.toList x n).map bD))),.c (.d (.int .i64 (Zo c n)))]):=by
  refine aT Tryz.func117 aju rfl rfl ?_;have c1:=vZ G hF hG c;unfold DW Zo;by_cases h:eT c
  ·rw[decide_eq_true h] at c1;rw[if_pos h,if_pos h];have c2:=amr G hF hG Zp l x (by decide) hl hx;rw[show Zp.data.toList=vW from rfl] at c2;have hs:l.data.toList.length=l.size:=rfl;have c3:=Jl G hF hG c.se (qL vW l.data.toList x) (by rw[h.1]; decide) (by rw[adn,hs]; have:vW.length=14:=rfl; omega) n hn1 hn2;generalize qL vW l.data.toList x=L at *
   generalize nk c.se L n=E at *
   generalize si n=e at *
   unfold bV at *
   simp only[Im,ai,af,seval];refine sD (c1) ?_;refine bK c2 (by simp only[af,seval] <;> rfl) (.inl rfl) ?_;simp only[af,seval];refine sD (c3) ?_;exact bu
  ·rw[decide_eq_false h] at c1;rw[if_neg h,if_neg h];unfold bV at *
   simp only[Im,ai,af,seval];refine sD (c1) ?_;exact bu
def V5:aK:=⟨2,10,ae [aM 4] (ae [oM 5 0,oO 6 (.conv .u64 (.t 5)),oO 7 (.call 76 [(.t 6),(kI 8)] none),oM 8 1,oO 9 (.bldSl false 2 1 (.sl []) [(0,(.t 7)),(1,(.t 8))]),oM 4 9] .ret),[(4,none)]⟩
theorem ajv:aI Tryz.prog {} Tryz.f78=some V5:=by kernel_rfl
theorem Yc (G:au) (n:Int) (h:List UInt8) (hn:0≤n∧n≤9223372036854775807):aF Tryz.prog G 78 [.int .i64 n,.sl (h.map bD)] (.w (.c (.d (dH (fQ n h))))):=by
  refine aT Tryz.func78 ajv rfl rfl ?_;obtain⟨a,rfl⟩:=ao5 hn.1;have c:=iD G a 8 (by decide);rw[show (8:Int).toNat=8 from rfl] at c;unfold fQ dH;rw[show ((a:Nat):Int).toNat=a from rfl];generalize aC a 8=P at *
  simp only[V5,ai,af,seval,iteOmega];refine sD (c) ?_;exact aZ
def V6:aK:=⟨3,30,ae [cW 3 0,oO 6 (.alloc [cv,.nil,.nil,.nil,ah,ah])] (ae [aO 7 0 3,aA 8 7,aO 9 1 3,aA 10 9,oO 11 (.bldSl false 1 1 (.sl []) [(0,(.t 10))]),aW 12 44 11,aO 13 2 3,aA 14 13,oO 15 (.bldSl false 1 1 (.sl []) [(0,(.t 14))]),aW 16 44 15,aO 17 3 3,aA 18 17,oO 19 (.bldSl false 1 1 (.sl []) [(0,(.t 18))]),aW 20 44 19,aO 21 4 3,aA 22 21,oM 23 1,aU .add 24 22 23,aO 25 5 3,aA 26 25,oM 27 2,aU .add 28 26 27,oO 29 (.build [cv,.nil,.nil,.nil,ah,ah] [(0,1,(.t 8)),(1,1,(.t 12)),(2,1,(.t 16)),(3,1,(.t 20)),(4,1,(.t 24)),(5,1,(.t 28))]),aS 6 6 29] .ret),[(6,(some (.ag 6)))]⟩
theorem ajw:aI Tryz.prog {} Tryz.f79=some V6:=by kernel_rfl
theorem Yd (G:au) (c:Ch) (x y:Int) (h1:c.se.length≤140737488355328) (h2:c.sk.length≤140737488355328) (h3:c.rk.length≤140737488355328) (h4:0≤c.n∧c.n≤1099511627776) (h5:0≤c.m∧c.m≤1099511627776) (hx:0≤x∧x≤1) (hy:0≤y∧y≤1):aF Tryz.prog G 79 [bV c,.int .i64 x,.int .i64 y] (.w (.c (.d (bV ⟨c.cl,c.se,c.sk,c.rk,c.n+x,c.m+y⟩)))):=by
  refine aT Tryz.func79 ajw rfl rfl ?_;have c1:=dV G [c.se] (by simp) (by simp; omega);have c2:=dV G [c.sk] (by simp) (by simp; omega);have c3:=dV G [c.rk] (by simp) (by simp; omega);simp only[aos,aoA,apd,apf,aoF] at c1 c2 c3;obtain⟨cl,se,sk,rk,n,m⟩:=c;dsimp only at *
  unfold bV;dsimp only;simp only[V6,ai,af,seval];refine sD (c1) ?_;refine sD (c2) ?_;refine sD (c3) ?_;exact aZ
def vu:aK:=⟨1,33,ae [aM 2,aM 3,ak 4 0] (ae [oM 8 0,oO 9 (.call 118 [(.t 8),(kI 3)] none),oM 7 9,aB 10 7 0,aB 11 7 1,aB 12 7 2,oM 2 10,oM 3 11,oM 5 12] (.seq (ae [oM 13 5,dd 14 13] (aw 14 (ae [aM 2,aM 3,ak 4 1] .ret) .skip)) (ae [oM 15 2,oO 16 (.slice 1 (.t 15) (some (kI 1)) none none),aW 17 81 16,oO 18 (.conv .i64 (.t 17)),oM 6 18] (.seq (ae [oM 19 3,bc 20 19,oM 21 6,aU .lss 22 20 21] (aw 22 (ae [aM 2,aM 3,ak 4 1] .ret) .skip)) (.seq (ae [oM 23 3,bc 24 23,oM 25 6,aU .gtr 26 24 25,oM 27 26,bE 28 6 27 false,cu .gtr 29 28 16400 27 false,cC 30 27 29] (aw 30 (ae [aM 2,aM 3,ak 4 2] .ret) .skip)) (ae [oM 31 2,oM 32 3,oM 2 31,oM 3 32,ak 4 0] .ret)))))),[(2,none),(3,none),(4,none)]⟩
theorem ajx:aI Tryz.prog {} Tryz.f80=some vu:=by kernel_rfl
theorem amz (G:au) (r:List UInt8) (hr:r.length≤1099511627776):aF Tryz.prog G 80 [.sl (r.map bD)] (.tup [.c (.d (.sl ((if lv r=0 then r.take 3 else []).map bD))),.c (.d (.sl ((if lv r=0 then r.drop 3 else []).map bD))),.c (.d (.int .i64 (lv r)))]):=by
  refine aT Tryz.func80 ajx rfl rfl ?_;by_cases h1:r.length<3
  ·have e:lv r=1:=if_pos h1;rw[e,if_neg (by decide),if_neg (by decide)];have c1:=yj G r 3 (.inr (by omega));simp only[vu,ai,af,seval];refine sD (c1) ?_;exact fg
  ·have c1:=tm G r 3 (by omega) hr;have e1:(r.take 3).drop 1=aG r 1 2:=by unfold aG; rw[List.drop_take]
   have l1:(aG r 1 2).length=2:=fj (by omega);have t1:(aG r 1 2).take 2=aG r 1 2:=aot (by omega);have c2:=ku G (aG r 1 2) (by omega);have b2:=(jc 2 (aG r 1 2) l1 (by decide)).1;have hl:(r.drop 3).length=r.length-3:=aoB;have l3:(r.take 3).length=3:=by simp; omega
   have pe:lv r=if r.length-3<bi (aG r 1 2) then 1 else if bi (aG r 1 2)<r.length-3∨16400<bi (aG r 1 2) then 2 else 0:=if_neg h1
   rw[← hl] at pe;generalize bi (aG r 1 2)=N at *
   generalize r.drop 3=S at *
   generalize hH:r.take 3=H at *
   by_cases h2:S.length<N
   ·rw[if_pos h2] at pe;rw[pe,if_neg (by decide),if_neg (by decide)];have g2:((S.length:Int)<(N:Int))=True:=eq_true (by omega);simp only[vu,ai,af,seval];refine sC (c1) ?_;simp only[l3,e1,t1,af,seval,toNatUp];refine sC (c2) ?_;simp only[g2,af,seval,iteOmega];exact fg
   ·rw[if_neg h2] at pe;have g2:((S.length:Int)<(N:Int))=False:=eq_false (by omega);by_cases h3:N<S.length
    ·rw[if_pos (.inl h3)] at pe;rw[pe,if_neg (by decide),if_neg (by decide)];have g3:((S.length:Int)>(N:Int))=True:=eq_true (by omega);simp only[vu,ai,af,seval];refine sC (c1) ?_;simp only[l3,e1,t1,af,seval,toNatUp];refine sC (c2) ?_;simp only[g2,g3,af,seval,iteOmega];exact fg
    ·have g3:((S.length:Int)>(N:Int))=False:=eq_false (by omega);by_cases h4:16400<N
     ·rw[if_pos (.inr h4)] at pe;rw[pe,if_neg (by decide),if_neg (by decide)];have g4:((N:Int)>16400)=True:=eq_true (by omega);simp only[vu,ai,af,seval];refine sC (c1) ?_;simp only[l3,e1,t1,af,seval,toNatUp];refine sC (c2) ?_;simp only[g2,g3,g4,af,seval,iteOmega];exact fg
     ·rw[if_neg (by omega)] at pe;rw[pe,if_pos rfl,if_pos rfl];have g4:((N:Int)>16400)=False:=eq_false (by omega);simp only[vu,ai,af,seval];refine sC (c1) ?_;simp only[l3,e1,t1,af,seval,toNatUp];refine sC (c2) ?_;simp only[g2,g3,g4,af,seval,iteOmega];exact fg
theorem yO {c:Ch} {k:Int} {b:List UInt8} {e:Int} (h:jz c k b=e) (he:e≠0):Eg c k b=jy∧Eh c k b=[]:=⟨if_neg (by rw[h]; exact he),if_neg (by rw[h]; exact he)⟩
def tp:aK:=⟨3,58,ae [cW 3 0,oO 6 (.alloc [cv,.nil,.nil,.nil,ah,ah]),aM 7,ak 8 0] (.seq (ae [bn 12 6 3,aW 13 61 12,dd 14 13] (aw 14 (ae [oO 15 (.build [cv,.nil,.nil,.nil,ah,ah] []),aS 6 6 15,aM 7,ak 8 3] .ret) .skip)) (.seq (ae [oM 16 1,am .lss 17 16 0,oM 18 17,bE 19 1 18 false,cu .geq 20 19 256 18 false,cC 21 18 20] (aw 21 (ae [oO 22 (.build [cv,.nil,.nil,.nil,ah,ah] []),aS 6 6 22,aM 7,ak 8 4] .ret) .skip)) (.seq (ae [oM 23 2,bc 24 23,am .gtr 25 24 16384] (aw 25 (ae [oO 26 (.build [cv,.nil,.nil,.nil,ah,ah] []),aS 6 6 26,aM 7,ak 8 2] .ret) .skip)) (.seq (ae [aO 27 4 3,aA 28 27,am .eql 29 28 1099511627776] (aw 29 (ae [oO 30 (.build [cv,.nil,.nil,.nil,ah,ah] []),aS 6 6 30,aM 7,ak 8 7] .ret) .skip)) (ae [oM 31 1,oO 32 (.conv .u64 (.t 31)),
 oO 33 (.call 76 [(.t 32),(kI 1)] none),oM 34 2,bc 35 34,am .add 36 35 16,oO 37 (.conv .u64 (.t 36)),oO 38 (.call 76 [(.t 37),(kI 2)] none),oO 39 (.bldSl false 2 1 (.sl []) [(0,(.t 33)),(1,(.t 38))]),aW 40 44 39,oM 9 40] (ae [aO 42 2 3,aA 43 42,aO 44 4 3,aA 45 44,oM 46 9,cd 47 78 45 46,oM 48 2,fZ 49 77 43 47 48,oM 41 49,aB 50 41 0,aB 51 41 1,oM 10 50,oM 11 51] (ae [bn 52 6 3,oO 53 (.call 79 [(.t 52),(kI 1),(kI 0)] none),oM 54 9,oM 55 10,oO 56 (.bldSl false 2 1 (.sl []) [(0,(.t 54)),(1,(.t 55))]),aW 57 44 56,aS 6 6 53,oM 7 57,ak 8 0] .ret))))))),[(6,(some (.ag 6))),(7,none),(8,none)]⟩
theorem ajy:aI Tryz.prog {} Tryz.f34=some tp:=by kernel_rfl
theorem Ye (G:au) (hF:G.at 0=some (.ra (dW.map wD))) (hG:G.at 1=some (.ra (cy.map wD))) (c:Ch) (k:Int) (b:List UInt8) (hb:b.length≤9223372036854775807):aF Tryz.prog G 34 [bV c,.int .i64 k,.sl (b.map bD)] (.tup [.c (.d (bV (Eg c k b))),.c (.d (.sl ((Eh c k b).map bD))),.c (.d (.int .i64 (jz c k b)))]):=by
  refine aT Tryz.func34 ajy rfl rfl ?_;have c1:=vZ G hF hG c;by_cases h:eT c
  ·rw[decide_eq_true h] at c1;by_cases k1:k<0
   ·have g1:(k<0)=True:=eq_true k1;have e:jz c k b=4:=by unfold jz; rw[if_neg (not_not_intro h),if_pos (.inl k1)]
    obtain⟨q1,q2⟩:=yO e (by decide);rw[q1,q2,e];unfold bV jy at *
    simp only[tp,ai,af,seval];refine sC (c1) ?_;simp only[g1,af,aa,seval];exact fg
   ·have g1:(k<0)=False:=eq_false k1;by_cases k2:255<k
    ·have g2:(k≥256)=True:=eq_true (by omega);have e:jz c k b=4:=by unfold jz; rw[if_neg (not_not_intro h),if_pos (.inr k2)]
     obtain⟨q1,q2⟩:=yO e (by decide);rw[q1,q2,e];unfold bV jy at *
     simp only[tp,ai,af,seval];refine sC (c1) ?_;simp only[g1,g2,af,aa,seval];exact fg
    ·have g2:(k≥256)=False:=eq_false (by omega);by_cases h3:16384<b.length
     ·have g3:((b.length:Int)>16384)=True:=eq_true (by omega);have e:jz c k b=2:=by unfold jz; rw[if_neg (not_not_intro h),if_neg (by omega),if_pos h3]
      obtain⟨q1,q2⟩:=yO e (by decide);rw[q1,q2,e];unfold bV jy at *
      simp only[tp,ai,af,seval];refine sC (c1) ?_;simp only[g1,g2,g3,af,aa,seval];exact fg
     ·have g3:((b.length:Int)>16384)=False:=eq_false (by omega);by_cases h4:c.n=1099511627776
      ·have g4:(c.n=1099511627776)=True:=eq_true h4;have e:jz c k b=7:=by unfold jz; rw[if_neg (not_not_intro h),if_neg (by omega),if_neg h3,if_pos h4]
       obtain⟨q1,q2⟩:=yO e (by decide);rw[q1,q2,e];unfold bV jy at *
       simp only[tp,ai,af,seval];refine sC (c1) ?_;simp only[g1,g2,g3,g4,af,aa,seval];exact fg
      ·have g4:(c.n=1099511627776)=False:=eq_false h4;have e:jz c k b=0:=by unfold jz; rw[if_neg (not_not_intro h),if_neg (by omega),if_neg h3,if_neg h4]
       rw[show Eg c k b=_ from if_pos e,show Eh c k b=_ from if_pos e,e];obtain⟨a,ha⟩:=ao5 (show 0≤k by omega);have ha:k=(a:Int):=ha;subst ha;have c2:=iD G a 1 (by decide);have c3:=iD G (b.length+16) 2 (by decide);rw[show (1:Int).toNat=1 from rfl] at c2;rw[show (2:Int).toNat=2 from rfl] at c3;have c4:=dV G [aC a 1,aC (b.length+16) 2] (by simp) (by simp[bO]);rw[show [aC a 1,aC (b.length+16) 2].flatten=dJ (a:Int) b.length from by simp[dJ,Y6]] at c4;have c5:=Yc G c.n (dJ (a:Int) b.length) (by have:=h.2.1; omega);have c6:=Ib G c.sk (fQ c.n (dJ (a:Int) b.length)) b (by rw[Jm h]; decide) (show (2:Nat)≤_ by decide) (fun x hx=>by
         rcases aoK.1 hx with rfl | hx
         ·rw[bO]; decide
         ·rw[aou.1 hx,s6]; decide) (by omega)
       have c7:=Yd G c 1 0 (by rw[h.1]; decide) (by rw[Jm h]; decide) (by rw[Jn h]; decide) h.2.1 h.2.2.1 (by decide) (by decide);rw[Int.add_zero] at c7;have hl:(fk c.sk (fQ c.n (dJ (a:Int) b.length)) b).length≤20000:=by
         unfold fk;split
         ·rw[aoq,kQ,lE]; omega
         ·exact aoy _
       have c8:=dV G [dJ (a:Int) b.length,fk c.sk (fQ c.n (dJ (a:Int) b.length)) b] (by simp) (by simp[s6]; omega);rw[show [dJ (a:Int) b.length,fk c.sk (fQ c.n (dJ (a:Int) b.length)) b].flatten=dJ (a:Int) b.length++fk c.sk (fQ c.n (dJ (a:Int) b.length)) b from by simp] at c8;simp only[aos,aoA] at c4 c8;generalize fk c.sk (fQ c.n (dJ (a:Int) b.length)) b=S at *
       generalize dC c.sk (fQ c.n (dJ (a:Int) b.length)) b.length=q at *
       generalize dH (fQ c.n (dJ (a:Int) b.length))=A at *
       generalize dJ (a:Int) b.length=H at *
       generalize aC a 1=P1 at *
       generalize aC (b.length+16) 2=P2 at *
       unfold bV at *
       dsimp only at c7;dsimp only;simp only[tp,ai,af,seval];refine sC (c1) ?_;simp only[g1,g2,g3,g4,af,seval,iteOmega];refine sD (c2) ?_;refine sD (c3) ?_;refine sD (c4) ?_;refine sD (c5) ?_;refine sD (c6) ?_;refine sD (c7) ?_;refine sD (c8) ?_;exact fg
  ·rw[decide_eq_false h] at c1;have e:jz c k b=3:=if_pos h;obtain⟨q1,q2⟩:=yO e (by decide);rw[q1,q2,e];unfold bV jy at *
   simp only[tp,ai,af,seval];refine sD (c1) ?_;exact fg
theorem Db {c:Ch} {r:List UInt8} {e:Int} (h:jA c r=e) (he:e≠0):zt c r=jy∧wQ c r=0∧wR c r=[]:=⟨if_neg (by rw[h]; exact he),if_neg (by rw[h]; exact he),if_neg (by rw[h]; exact he)⟩
theorem ajz {r:List UInt8} (h:lv r=0):3≤r.length∧r.length≤16403:=by
  unfold lv at h;by_cases h1:r.length<3
  ·rw[if_pos h1] at h; exact absurd h (by decide)
  ·rw[if_neg h1] at h;by_cases h2:r.length-3<bi (aG r 1 2)
   ·rw[if_pos h2] at h; exact absurd h (by decide)
   ·rw[if_neg h2] at h;by_cases h3:bi (aG r 1 2)<r.length-3∨16400<bi (aG r 1 2)
    ·rw[if_pos h3] at h; exact absurd h (by decide)
    ·omega
theorem amA {r:List UInt8} (h:3≤r.length):(r.take 3).take 1=[r.getD 0 0]:=by
  match r,h with
  | a::b::c::l,_=>rfl
def vw:aK:=⟨2,49,ae [cW 2 0,oO 4 (.alloc [cv,.nil,.nil,.nil,ah,ah]),ak 5 0,aM 6,ak 7 0] (.seq (ae [bn 10 6 2,aW 11 61 10,dd 12 11] (aw 12 (ae [oO 13 (.build [cv,.nil,.nil,.nil,ah,ah] []),aS 6 4 13,ak 5 0,aM 6,ak 7 3] .ret) .skip)) (ae [oM 15 1,aW 16 80 15,oM 14 16,aB 17 14 0,aB 18 14 1,aB 19 14 2,oM 8 17,oM 9 18,oM 7 19] (.seq (ae [oM 20 7,am .neq 21 20 0] (aw 21 (ae [oO 22 (.build [cv,.nil,.nil,.nil,ah,ah] []),oM 23 7,aS 6 4 22,ak 5 0,aM 6,oM 7 23] .ret) .skip)) (.seq (ae [aO 24 5 2,aA 25 24,am .eql 26 25 1099511627776] (aw 26 (ae [oO 27 (.build [cv,.nil,.nil,.nil,ah,ah] []),aS 6 4 27,ak 5 0,aM 6,ak 7 7] .ret) .skip)) (ae [aO 29 3 2,aA 30 29,aO 31 5 2,aA 32 31,oM 33 8,cd 34 78 32 33,oM 35 9,fZ 36 69 30 34 35,oM 28 36,aB 37 28 0,
 aB 38 28 1,oM 6 37,oM 7 38] (.seq (ae [oM 39 7,am .neq 40 39 0] (aw 40 (ae [oO 41 (.build [cv,.nil,.nil,.nil,ah,ah] []),aS 6 4 41,ak 5 0,aM 6,ak 7 6] .ret) .skip)) (ae [bn 42 6 2,oO 43 (.call 79 [(.t 42),(kI 0),(kI 1)] none),oM 44 8,oO 45 (.slice 1 (.t 44) none (some (kI 1)) none),aW 46 81 45,oO 47 (.conv .i64 (.t 46)),oM 48 6,aS 6 4 43,oM 5 47,oM 6 48,ak 7 0] .ret))))))),[(4,(some (.ag 6))),(5,none),(6,none),(7,none)]⟩
theorem ajA:aI Tryz.prog {} Tryz.f35=some vw:=by kernel_rfl
theorem Yf (G:au) (hF:G.at 0=some (.ra (dW.map wD))) (hG:G.at 1=some (.ra (cy.map wD))) (c:Ch) (r:List UInt8) (hr:r.length≤1099511627776):aF Tryz.prog G 35 [bV c,.sl (r.map bD)] (.tup [.c (.d (bV (zt c r))),.c (.d (.int .i64 (wQ c r))),.c (.d (.sl ((wR c r).map bD))),.c (.d (.int .i64 (jA c r)))]):=by
  refine aT Tryz.func35 ajA rfl rfl ?_;have c1:=vZ G hF hG c;have c2:=amz G r hr;by_cases h:eT c
  ·rw[decide_eq_true h] at c1;by_cases h1:lv r=0
   ·rw[if_pos h1,if_pos h1,h1] at c2;by_cases h4:c.m=1099511627776
    ·have g4:(c.m=1099511627776)=True:=eq_true h4;have e:jA c r=7:=by unfold jA; rw[if_neg (not_not_intro h),if_neg (not_not_intro h1),if_pos h4]
     obtain⟨q1,q2,q3⟩:=Db e (by decide);rw[q1,q2,q3,e];unfold bV jy at *
     simp only[vw,ai,af,seval];refine sD (c1) ?_;refine sC (c2) ?_;simp only[g4,af,aa,seval];exact zs
    ·have g4:(c.m=1099511627776)=False:=eq_false h4;obtain⟨l1,l2⟩:=ajz h1;have l3:(r.take 3).length=3:=by simp; omega
     have c3:=Yc G c.m (r.take 3) (by have:=h.2.2.1; omega);have c4:=Jc G c.rk (fQ c.m (r.take 3)) (r.drop 3) (by rw[Jn h]; decide) (show (2:Nat)≤_ by decide) (fun x hx=>by
       rcases aoK.1 hx with rfl | hx
       ·rw[bO]; decide
       ·rw[aou.1 hx,l3]; decide) (by simp; omega)
     rw[show iG c.rk (fQ c.m (r.take 3)) (r.drop 3)=tZ c r from rfl] at c4;by_cases x0:tZ c r=0
     ·have e:jA c r=0:=by unfold jA; rw[if_neg (not_not_intro h),if_neg (not_not_intro h1),if_neg h4,if_pos x0]
      rw[show zt c r=_ from if_pos e,show wQ c r=_ from if_pos e,show wR c r=_ from if_pos e,e];rw[x0] at c4;have c5:=Yd G c 0 1 (by rw[h.1]; decide) (by rw[Jm h]; decide) (by rw[Jn h]; decide) h.2.1 h.2.2.1 (by decide) (by decide);rw[Int.add_zero] at c5;have c6:=ku G [r.getD 0 0] (show (1:Nat)≤_ by decide);have hb:=(r.getD 0 0).toNat_lt;rw[show bi [r.getD 0 0]=(r.getD 0 0).toNat from by simp only[bi,List.foldl]; omega] at c6;have t1:=amA l1;generalize r.getD 0 0=x at *
      generalize iX c.rk (fQ c.m (r.take 3)) (r.drop 3)=B at *
      generalize dH (fQ c.m (r.take 3))=A at *
      generalize r.take 3=H at *
      generalize r.drop 3=S at *
      unfold bV at *
      dsimp only at c5;dsimp only;simp only[vw,ai,af,seval];refine sD (c1) ?_;refine sC (c2) ?_;simp only[g4,af,seval];refine sD (c3) ?_;refine sD (c4) ?_;refine sC (c5) ?_;simp only[l3,t1,af,seval,toNatUp];refine sD (c6) ?_;exact zs
     ·have gx:(tZ c r=0)=False:=eq_false x0;have e:jA c r=6:=by unfold jA; rw[if_neg (not_not_intro h),if_neg (not_not_intro h1),if_neg h4,if_neg x0]
      obtain⟨q1,q2,q3⟩:=Db e (by decide);rw[q1,q2,q3,e];generalize tZ c r=X at *
      generalize iX c.rk (fQ c.m (r.take 3)) (r.drop 3)=B at *
      generalize dH (fQ c.m (r.take 3))=A at *
      generalize r.take 3=H at *
      generalize r.drop 3=S at *
      unfold bV jy at *
      simp only[vw,ai,af,seval];refine sD (c1) ?_;refine sC (c2) ?_;simp only[g4,af,seval];refine sD (c3) ?_;refine sC (c4) ?_;simp only[gx,af,aa,seval];exact zs
   ·have g1:(lv r=0)=False:=eq_false h1;rw[if_neg h1,if_neg h1] at c2;have e:jA c r=lv r:=by unfold jA; rw[if_neg (not_not_intro h),if_pos h1]
    obtain⟨q1,q2,q3⟩:=Db e h1;rw[q1,q2,q3,e];generalize lv r=p at *
    unfold bV jy at *
    simp only[vw,ai,af,seval];refine sD (c1) ?_;refine sC (c2) ?_;simp only[g1,af,aa,seval];exact zs
  ·rw[decide_eq_false h] at c1;have e:jA c r=3:=if_pos h;obtain⟨q1,q2,q3⟩:=Db e (by decide);rw[q1,q2,q3,e];unfold bV jy at *
   simp only[vw,ai,af,seval];refine sD (c1) ?_;exact zs
def Io:aK:=⟨2,32,ae [oO 4 (.alloc [cv,.nil,.nil,.nil,ah,ah])] (ae [oM 10 1,oO 11 (.bldSl true 10 1 aj [(0,(.k (.c (.d (.int .u8 115))))),(1,(.k (.c (.d (.int .u8 101))))),(2,(.k (.c (.d (.int .u8 99))))),(3,(.k (.c (.d (.int .u8 116))))),(4,(.k (.c (.d (.int .u8 105))))),(5,(.k (.c (.d (.int .u8 109))))),(6,(.k (.c (.d (.int .u8 101))))),(7,(.k (.c (.d (.int .u8 32))))),(8,(.k (.c (.d (.int .u8 117))))),(9,(.k (.c (.d (.int .u8 112)))))]),oO 12 (.markF (.t 11)),oO 13 (.call 71 [(.t 10),(.t 12),(kI 32)] none),oM 9 13,aB 14 9 0,aB 15 9 1,oM 5 14,oM 6 15] (ae [oM 17 1,oO 18 (.bldSl true 12 1 aj [(0,(.k (.c (.d (.int .u8 115))))),(1,(.k (.c (.d (.int .u8 101))))),(2,(.k (.c (.d (.int .u8 99))))),(3,(.k (.c (.d (.int .u8 116))))),(4,(.k (.c (.d (.int .u8 105))))),(5,(.k (.c (.d (.int .u8 109))))),(6,(.k (.c (.d (.int .u8 101))))),(7,(.k (.c (.d (.int .u8 32))))),(8,(.k (.c (.d (.int .u8 100))))),(9,(.k (.c (.d (.int .u8 111))))),(10,(.k (.c (.d (.int .u8 119))))),(11,(.k (.c (.d (.int .u8 110)))))]),
 oO 19 (.markF (.t 18)),oO 20 (.call 71 [(.t 17),(.t 19),(kI 32)] none),oM 16 20,aB 21 16 0,aB 22 16 1,oM 7 21,oM 8 22] (.seq (ae [oM 23 0] (aw 23 (ae [oM 24 1,oM 25 5,oM 26 7,oO 27 (.build [cv,.nil,.nil,.nil,ah,ah] [(0,1,(.k (.c (.d (.bool true))))),(1,1,(.t 24)),(2,1,(.t 25)),(3,1,(.t 26))]),aS 6 4 27] .ret) .skip)) (ae [oM 28 1,oM 29 7,oM 30 5,oO 31 (.build [cv,.nil,.nil,.nil,ah,ah] [(1,1,(.t 28)),(2,1,(.t 29)),(3,1,(.t 30))]),aS 6 4 31] .ret)))),[(4,(some (.ag 6)))]⟩
theorem ajB:aI Tryz.prog { own:=[11,18],frz:=[12,19] } Tryz.f112=some Io:=by kernel_rfl
theorem amB (G:au) (cl:Bool) (K:List UInt8) (hK:K.length≤140737488355328):aF Tryz.prog G 112 [.bool cl,.sl (K.map bD)] (.w (.c (.d (bV (bU cl K 0 0))))):=by
  refine aT Tryz.func112 ajB rfl rfl ?_;have c1:=Cg G K yM hK (by decide) 32 (by decide) (by decide);have c2:=Cg G K yN hK (by decide) 32 (by decide) (by decide);rw[show nk K yM 32=g9 K from rm K yM (by decide),s5 (by decide)] at c1;rw[show nk K yN 32=iw K from rm K yN (by decide),s5 (by decide)] at c2;unfold bV bU;dsimp only;generalize g9 K=U at *
  generalize iw K=W at *
  cases cl
  ·rw[cond_false,cond_false];simp only[Io,ai,af,seval];refine bK c1 (by simp only[af,seval] <;> rfl) (.inl rfl) ?_;simp only[af,seval];refine bK c2 (by simp only[af,seval] <;> rfl) (.inl rfl) ?_;simp only[af,aa,seval];exact aZ
  ·rw[cond_true,cond_true];simp only[Io,ai,af,seval];refine bK c1 (by simp only[af,seval] <;> rfl) (.inl rfl) ?_;simp only[af,seval];refine bK c2 (by simp only[af,seval] <;> rfl) (.inl rfl) ?_;simp only[af,aa,seval];exact aZ
def Cm:aK:=⟨3,23,ae [oO 6 (.alloc [cv,.nil,.nil,.nil,ah,ah]),ak 7 0] (.seq (ae [oM 8 1,bc 9 8,am .lss 10 9 16,oM 11 10,bE 12 1 11 false,fB 13 12 11 false,cu .gtr 14 13 65535 11 false,cC 15 11 14] (aw 15 (ae [oO 16 (.build [cv,.nil,.nil,.nil,ah,ah] []),aS 6 6 16,ak 7 5] .ret) .skip)) (ae [oM 17 0,oM 18 2,aW 19 45 18,oM 20 1,cd 21 113 19 20,cd 22 112 17 21,aS 6 6 22,ak 7 0] .ret)),[(6,(some (.ag 6))),(7,none)]⟩
theorem ajC:aI Tryz.prog {} Tryz.f60=some Cm:=by kernel_rfl
theorem Yg (G:au) (cl:Bool) (s h:List UInt8) (hs:s.length≤9223372036854775807) (hh:h.length≤140737488355328):aF Tryz.prog G 60 [.bool cl,.sl (s.map bD),.sl (h.map bD)] (.tup [.c (.d (bV (wP cl s h))),.c (.d (.int .i64 (wO s)))]):=by
  refine aT Tryz.func60 ajC rfl rfl ?_;by_cases h1:s.length<16
  ·have e:wO s=5:=if_pos (.inl h1);rw[show wP cl s h=jy from if_neg (by rw[e]; decide),e];have g1:((s.length:Int)<16)=True:=eq_true (by omega);unfold bV jy;simp only[Cm,ai,af,aa,seval,g1];exact bu
  ·have g1:((s.length:Int)<16)=False:=eq_false (by omega);by_cases h2:65535<s.length
   ·have e:wO s=5:=if_pos (.inr h2);rw[show wP cl s h=jy from if_neg (by rw[e]; decide),e];have g2:((s.length:Int)>65535)=True:=eq_true (by omega);unfold bV jy;simp only[Cm,ai,af,aa,seval,g1,g2];exact bu
   ·have e:wO s=0:=if_neg (by omega);rw[show wP cl s h=bU cl (lS (dM h) s) 0 0 from if_pos e,e];have g2:((s.length:Int)>65535)=False:=eq_false (by omega);have c1:=yd G h hh;have c2:=ai9 G (dM h) s (by rw[kR]; decide) (by omega);have c3:=amB G cl (lS (dM h) s) (by rw[uK]; decide);generalize bU cl (lS (dM h) s) 0 0=C at *
    generalize lS (dM h) s=M at *
    generalize dM h=H at *
    unfold bV at *
    simp only[Cm,ai,af,seval,g1,g2];refine sD (c1) ?_;refine sD (c2) ?_;refine sD (c3) ?_;exact bu
def ly (s:Int):List UInt8:=lS (dM (bd s 20)) (bd s 32)
theorem SL (s:Int):(ly s).length=32:=uK _ _
def V8:aK:=⟨1,26,ae [oO 2 (.alloc [cv,.nil,.nil,.nil,ah,ah]),oO 3 (.alloc [cv,.nil,.nil,.nil,ah,ah])] (ae [oM 9 0,aW 10 31 9,oM 11 0,oO 12 (.call 13 [(.t 11),(kI 20)] none),oO 13 (.call 60 [(.k (.c (.d (.bool true)))),(.t 10),(.t 12)] none),oM 8 13,aB 14 8 0,aB 15 8 1,oO 4 (.alloc [cv,.nil,.nil,.nil,ah,ah]),aS 6 4 14,oM 5 15] (ae [oM 17 0,aW 18 31 17,oM 19 0,oO 20 (.call 13 [(.t 19),(kI 20)] none),oO 21 (.call 60 [(.k (.c cv)),(.t 18),(.t 20)] none),oM 16 21,aB 22 16 0,aB 23 16 1,oO 6 (.alloc [cv,.nil,.nil,.nil,ah,ah]),aS 6 6 22,oM 7 23] (ae [oO 24 (.loadX (.ag 6) (.t 4) [(.t 2),(.t 3)]),oO 25 (.loadX (.ag 6) (.t 6) [(.t 2),(.t 3)]),aS 6 2 24,aS 6 3 25] .ret))),[(2,(some (.ag 6))),(3,(some (.ag 6)))]⟩
theorem ajD:aI Tryz.prog { lx:=[(24,[2,3]),(25,[2,3])] } Tryz.f25=some V8:=by kernel_rfl
theorem amC (G:au) (s:Int):aF Tryz.prog G 25 [.int .i64 s] (.tup [.c (.d (bV (bU true (ly s) 0 0))),.c (.d (bV (bU false (ly s) 0 0)))]):=by
  refine aT Tryz.func25 ajD rfl rfl ?_;have c1:=V7 G s;have c2:=oJ G s 20 (by decide);have l1:(bd s 32).length=32:=jE _ _;have l2:(bd s 20).length=20:=jE _ _;have e:wO (bd s 32)=0:=if_neg (by omega);have c3:=Yg G true (bd s 32) (bd s 20) (by omega) (by omega);have c4:=Yg G false (bd s 32) (bd s 20) (by omega) (by omega);rw[show wP true (bd s 32) (bd s 20)=bU true (ly s) 0 0 from if_pos e,e] at c3;rw[show wP false (bd s 32) (bd s 20)=bU false (ly s) 0 0 from if_pos e,e] at c4;generalize bd s 32=B1 at *
  generalize bd s 20=B2 at *
  generalize bU true (ly s) 0 0=X at *
  generalize bU false (ly s) 0 0=Y at *
  unfold bV at *
  simp only[V8,ai,af,seval];refine sD (c1) ?_;refine sD (c2) ?_;refine sD (c3) ?_;refine sD (c1) ?_;refine sD (c2) ?_;refine sD (c4) ?_;exact bu

end Go.Proofs.YtofonnokanoflaaGreatDoor
