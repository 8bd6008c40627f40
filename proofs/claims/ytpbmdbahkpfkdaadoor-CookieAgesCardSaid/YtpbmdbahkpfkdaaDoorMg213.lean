/- Texts of one's own, merged: from: Layer 6 on data: tags,sealed bytes,opened ones; both codes. Own work. -/
import Derived.Shelf.Abstract
import Derived.Test.YtpbmdbahkpfkdaaDoorMg211
import Derived.Test.YtpbmdbahkpfkdaaDoorMg210
import Derived.Test.YtpbmdbahkpfkdaaDoorMg212
set_option linter.unusedVariables false
set_option linter.unusedSimpArgs false
namespace Go.Proofs.YtpbmdbahkpfkdaaDoor
open Go.RowKit IntWalk
set_option maxHeartbeats 1600000
def ctrT (tag:List UInt8):List UInt8:=(tag.set 8 (andB (tag.getD 8 0) 127)).set 12 (andB (tag.getD 12 0) 127)
theorem ctrT_len (tag:List UInt8):(ctrT tag).length=tag.length:=by unfold ctrT; rw[List.length_set,List.length_set]
def tagM (key:List UInt8) (ad:List (List UInt8)) (b:List UInt8):List UInt8:=vecM (rkK (key.take 16)) (ad++[b])
theorem tagM_len (key:List UInt8) (ad:List (List UInt8)) (b:List UInt8):(tagM key ad b).length=16:=vecM_len _ _
def strS (key tag b:List UInt8):List UInt8:=strmC (rkK (key.drop 16)) (ctrT tag) b
theorem strS_len (key tag b:List UInt8):(strS key tag b).length=b.length:=strmC_len _ _ _
def longA (l:List (List UInt8)):Bool:=l.any fun x=>decide (65519<x.length)
def aeE (key:List UInt8) (ad:List (List UInt8)) (n:Int):Int:=if key.length≠32 then 5 else if 16<ad.length then 8 else if longA ad=true∨65519<n then 2 else 0
def tagV (key:List UInt8) (ad:List (List UInt8)) (b:List UInt8):List UInt8:=if aeE key ad b.length=0 then tagM key ad b else []
def sealV (key:List UInt8) (ad:List (List UInt8)) (b:List UInt8):List UInt8:=if aeE key ad b.length=0 then tagM key ad b++strS key (tagM key ad b) b else []
def opnE (key:List UInt8) (ad:List (List UInt8)) (s:List UInt8):Int :=
  if aeE key ad ((s.length:Int)-16)≠0 then aeE key ad ((s.length:Int)-16) else if s.length<16 then 1 else if s.take 16=tagM key ad (strS key (s.take 16) (s.drop 16)) then 0 else 6
def opnV (key:List UInt8) (ad:List (List UInt8)) (s:List UInt8):List UInt8:=if opnE key ad s=0 then strS key (s.take 16) (s.drop 16) else []
theorem longA_all {l:List (List UInt8)} (h:longA l=false):∀ x∈l,x.length≤65519:=by
  unfold longA at h
  rw[List.any_eq_false] at h
  intro x hx
  simpa using h x hx
theorem aeE_ok {key:List UInt8} {ad:List (List UInt8)} {n:Int} (h:aeE key ad n=0):key.length=32∧ad.length≤16∧longA ad=false∧n≤65519:=by
  unfold aeE at h
  split at h
  ·cases h
  ·split at h
   ·cases h
   ·split at h
    ·cases h
    ·rename_i h1 h2 h3
     cases hl:longA ad
     ·exact⟨by omega,by omega,rfl,by omega⟩
     ·exact absurd (.inl hl) h3
theorem aeE_val (key:List UInt8) (ad:List (List UInt8)) (n:Int):aeE key ad n=0∨aeE key ad n=5∨aeE key ad n=8∨aeE key ad n=2:=by
  unfold aeE
  split
  ·exact .inr (.inl rfl)
  ·split
   ·exact .inr (.inr (.inl rfl))
   ·split
    ·exact .inr (.inr (.inr rfl))
    ·exact .inl rfl
theorem vctV_ok {k:List UInt8} {l:List (List UInt8)} (h:k.length=16) (hn:l.length≤17) (hl:∀ x∈l,x.length≤65535):vctV k l=vecM (rkK k) l∧vctE k l=0:=by
  have:longL l=false:=by
    unfold longL
    rw[List.any_eq_false]
    intro x hx
    have:=hl x hx
    simpa using this
  refine⟨if_pos ⟨h,hn,this⟩,?_⟩
  unfold vctE
  rw[if_neg (by omega),if_neg (by omega),this,if_neg (by simp)]
theorem strmVE_ok {k c b:List UInt8} (h:k.length=16) (hc:c.length=16) (hb:b.length≤65535):strmV k c b=strmC (rkK k) c b∧strmE k c b=0:=by
  refine⟨if_pos ⟨h,hc,hb⟩,?_⟩
  unfold strmE
  rw[if_neg (by omega),if_neg (by omega),if_neg (by omega)]
theorem ad_all {ad:List (List UInt8)} {b:List UInt8} (h:longA ad=false) (hb:b.length≤65519):∀ x∈ad++[b],x.length≤65535:=by
  intro x hx
  rcases List.mem_append.1 hx with hx | hx
  ·have:=longA_all h x hx; omega
  ·simp only[List.mem_singleton] at hx; subst hx; omega
def sf_chkl:SFn:=⟨1,6,
 .seq (.reg [oO 2 (.mv (.k (.c (.d (.bool false)))))])
 (.seq (.reg [oM 3 0,
 oO 4 (.len (.t 3)),
 oO 5 (.bin .gtr (.t 4) (kI 65519)),
 oM 2 5])
 (.ret)),
 [(2,none)]⟩
theorem cf_chkl:compFn Tryd.prog { own:=[],comp:=[],frz:=[],nils:=[] } Tryd.f53=some sf_chkl:=by kernel_rfl
theorem chkl_c (G:Glob) (x:List UInt8) (hx:x.length≤9223372036854775807):DenF Tryd.prog G 53 [] [.sl (x.map bD)] (.w (.c (.d (.bool (decide (65519<x.length)))))):=by
  refine⟨enters_of Tryd.func53 (by kernel_rfl) rfl,?_⟩
  refine den_walk Tryd.func53 cf_chkl rfl rfl ?_
  by_cases h:65519<x.length
  ·have hd:decide (65519<x.length)=true:=decide_eq_true h
   rw[hd]
   simp only[sf_chkl,putAll,wal,stV,seval,iteOmega,toNatUp,reduceCtorEq]
   exact qd1
  ·have hd:decide (65519<x.length)=false:=decide_eq_false h
   rw[hd]
   simp only[sf_chkl,putAll,wal,stV,seval,iteOmega,toNatUp,reduceCtorEq]
   exact qd1
def sf_chk:SFn:=⟨3,21,
 .seq (.reg [oO 6 (.mv (kI 0))])
 (.seq (.seq (.reg [oM 8 0,
 oO 9 (.len (.t 8)),
 oO 10 (.bin .neq (.t 9) (kI 32))])
 (.cond (.t 10) (.seq (.reg [oO 6 (.mv (kI 5))])
 (.ret))
 (.skip)))
 (.seq (.seq (.reg [oM 11 1,
 oO 12 (.len (.t 11)),
 oO 13 (.bin .gtr (.t 12) (kI 16))])
 (.cond (.t 13) (.seq (.reg [oO 6 (.mv (kI 8))])
 (.ret))
 (.skip)))
 (.seq (.reg [oO 7 (.mv (.k (.c (.d (.fn 53 [])))))])
 (.seq (.seq (.reg [oM 14 1,
 oM 15 7,
 oO 16 (.call 54 [(.t 14),(.t 15)] none),
 oM 17 16,
 oG 18 (.mv (.t 2)) 17 false,
 oG 19 (.bin .gtr (.t 18) (kI 65519)) 17 false,
 oO 20 (.pick (.t 17) (.k (.c (.d (.bool true)))) (.t 19))])
 (.cond (.t 20) (.seq (.reg [oO 6 (.mv (kI 2))])
 (.ret))
 (.skip)))
 (.seq (.reg [oO 6 (.mv (kI 0))])
 (.ret)))))),
 [(6,none)]⟩
theorem cf_chk:compFn Tryd.prog { own:=[],comp:=[],frz:=[],nils:=[] } Tryd.f44=some sf_chk:=by kernel_rfl
theorem chk_c (G:Glob) (key:List UInt8) (ad:List (List UInt8)) (n:Int) (hk:key.length≤9223372036854775807) (hl:ad.length≤9223372036854775807) (hb:∀ x∈ad,x.length≤9223372036854775807):Den Tryd.prog G 44 [.sl (key.map bD),sls ad,.int .i64 n] (.w (.c (.d (.int .i64 (aeE key ad n))))):=by
  refine den_walk Tryd.func44 cf_chk rfl rfl ?_
  have hc:=conf_c G ad 53 [] (fun x=>decide (65519<x.length)) hl (fun x hx=>chkl_c G x (hb x hx))
  have hL:(ad.any fun x=>decide (65519<x.length))=longA ad:=rfl
  rw[hL] at hc
  unfold aeE
  by_cases h:key.length=32
  ·rw[if_neg (by omega)]
   by_cases h2:16<ad.length
   ·rw[if_pos h2]
    simp only[sf_chk,putAll,wal,stV,seval,iteOmega,toNatUp,reduceCtorEq]
    exact qd1
   ·rw[if_neg h2]
    cases hl:longA ad
    ·rw[hl] at hc
     by_cases h3:65519<n
     ·rw[if_pos (.inr h3)]
      simp only[sf_chk,putAll,wal,stV,seval,iteOmega,toNatUp,reduceCtorEq]
      refine sD (hc) ?_
      exact qd1
     ·rw[if_neg (by simp; omega)]
      simp only[sf_chk,putAll,wal,stV,seval,iteOmega,toNatUp,reduceCtorEq]
      refine sD (hc) ?_
      exact qd1
    ·rw[hl] at hc
     rw[if_pos (.inl rfl)]
     simp only[sf_chk,putAll,wal,stV,seval,iteOmega,toNatUp,reduceCtorEq]
     refine sD (hc) ?_
     exact qd1
  ·rw[if_pos h]
   simp only[sf_chk,putAll,wal,stV,seval,iteOmega,toNatUp,reduceCtorEq]
   exact qd1
def sf_tagd:SFn:=⟨3,23,
 .seq (.reg [oO 6 (.mv (.k (.c .nil)))])
 (.seq (.reg [oM 10 1,
 oM 11 2,
 oO 12 (.bldSl false 1 1 (.sl []) [(0,(.t 11))]),
 oO 13 (.bldSl false 2 1 (.sl []) [(0,(.t 10)),(1,(.t 12))]),
 oO 14 (.call 56 [(.t 13)] none),
 oM 7 14])
 (.seq (.reg [oM 16 0,
 oO 17 (.slice 1 (.t 16) none (some (kI 16)) none),
 oM 18 7,
 oO 19 (.call 57 [(.t 17),(.t 18)] (some (0,1))),
 oM 15 19,
 oO 20 (.extract (.t 15) 0),
 oO 21 (.extract (.t 15) 1),
 oM 8 20,
 oM 9 21])
 (.seq (.reg [oM 22 8,
 oM 6 22])
 (.ret)))),
 [(6,none)]⟩
theorem cf_tagd:compFn Tryd.prog { own:=[],comp:=[(19,0)],frz:=[],nils:=[] } Tryd.f46=some sf_tagd:=by kernel_rfl
theorem tagd_f (G:Glob) (key:List UInt8) (ad:List (List UInt8)) (b:List UInt8) (h:key.length=32) (hn:ad.length≤16) (hl:longA ad=false) (hb:b.length≤65519):Den Tryd.prog G 46 [.sl (key.map bD),sls ad,.sl (b.map bD)] (.w (.c (.fr 1 ((tagM key ad b).map bD)))):=by
  refine den_walk Tryd.func46 cf_tagd rfl rfl ?_
  have hf:[ad,[b]].flatten=ad++[b]:=by simp
  have hc:=conc_c G [ad,[b]] (by simp) (by rw[hf]; simp; omega)
  rw[hf] at hc
  have hk:(key.take 16).length=16:=by rw[List.length_take]; omega
  obtain⟨v1,v2⟩:=vctV_ok (l:=ad++[b]) hk (by simp; omega) (ad_all hl hb)
  have hv:=vctr_f G (key.take 16) (ad++[b]) (by omega) (by simp; omega) (fun x hx=>Nat.le_trans (ad_all hl hb x hx) (by decide))
  rw[v1,v2] at hv
  have ht:vecM (rkK (key.take 16)) (ad++[b])=tagM key ad b:=rfl
  rw[ht] at hv
  simp only[sf_tagd,putAll,wal,stV,seval,iteOmega,toNatUp,reduceCtorEq]
  refine sD (hc) ?_
  refine sD (hv) ?_
  exact qf1
theorem ctr_get {tag:List UInt8} (h:tag.length=16) {i:Nat} (hi:i<16):tag[i]?=some (tag.getD i 0):=by
  rw[List.getD_eq_getElem?_getD,List.getElem?_eq_getElem (by omega)]; rfl
theorem ctr_two {tag:List UInt8} (h:tag.length=16) (x:UInt8):(tag.set 8 x)[12]?=some (tag.getD 12 0):=by
  rw[List.getElem?_set_ne (by decide),ctr_get h (by decide)]
def sf_ctr:SFn:=⟨1,18,
 .seq (.reg [oO 2 (.mv (.k (.c .nil)))])
 (.seq (.reg [oM 4 0,
 oO 5 (.bldSl false 1 1 (.sl []) [(0,(.t 4))]),
 oO 6 (.call 24 [(.t 5)] (some (0,1))),
 oM 3 6])
 (.seq (.reg [oM 7 3,
 oO 8 (.idxSl 1 (.t 7) (kI 8)),
 oO 9 (.load .sc (.t 8)),
 oO 10 (.bin .and (.t 9) (.k (.c (.d (.int .u8 127))))),
 oO 11 (.idxSl 1 (.t 7) (kI 8)),
 oN (.store .sc (.t 11) (.t 10))])
 (.seq (.reg [oM 12 3,
 oO 13 (.idxSl 1 (.t 12) (kI 12)),
 oO 14 (.load .sc (.t 13)),
 oO 15 (.bin .and (.t 14) (.k (.c (.d (.int .u8 127))))),
 oO 16 (.idxSl 1 (.t 12) (kI 12)),
 oN (.store .sc (.t 16) (.t 15))])
 (.seq (.reg [oM 17 3,
 oM 2 17])
 (.ret))))),
 [(2,none)]⟩
theorem cf_ctr:compFn Tryd.prog { own:=[6],comp:=[],frz:=[],nils:=[] } Tryd.f51=some sf_ctr:=by kernel_rfl
theorem ctr_f (G:Glob) (tag:List UInt8) (h:tag.length=16):Den Tryd.prog G 51 [.sl (tag.map bD)] (.w (.c (.fr 1 ((ctrT tag).map bD)))):=by
  refine den_walk Tryd.func51 cf_ctr rfl rfl ?_
  have hj:=join_c G [tag] (by simp) (by simp; omega)
  have hf:[tag].flatten=tag:=by simp
  rw[hf] at hj
  have g1:=ctr_get h (i:=8) (by decide)
  have g2:=ctr_get h (i:=12) (by decide)
  have g3:=ctr_two h (andB (tag.getD 8 0) 127)
  have x1:=bl_and (tag.getD 8 0) 127 127 rfl
  have x2:=bl_and (tag.getD 12 0) 127 127 rfl
  have hs:(tag.set 8 (andB (tag.getD 8 0) 127)).set 12 (andB (tag.getD 12 0) 127)=ctrT tag:=rfl
  simp only[sf_ctr,putAll,wal,stV,seval,iteOmega,toNatUp,reduceCtorEq]
  refine sC (hj) ?_
  simp only[get_map,g1,g2,g3,x1,x2,set_map,hs,wal,stV,seval,iteOmega,toNatUp,reduceCtorEq]
  exact ret_f1 (by simp only[wal,stV,seval,iteOmega,toNatUp,reduceCtorEq,ctrT_len])
theorem ctr_c (G:Glob) (tag:List UInt8) (h:tag.length=16):Den Tryd.prog G 51 [.sl (tag.map bD)] (.w (.c (.d (.sl ((ctrT tag).map bD))))):=den_ro (ctr_f G tag h)
def sf_strd:SFn:=⟨3,19,
 .seq (.reg [oO 6 (.mv (.k (.c .nil)))])
 (.seq (.reg [oM 10 0,
 oO 11 (.slice 1 (.t 10) (some (kI 16)) none none),
 oM 12 1,
 oO 13 (.call 51 [(.t 12)] none),
 oM 14 2,
 oO 15 (.call 50 [(.t 11),(.t 13),(.t 14)] (some (0,1))),
 oM 9 15,
 oO 16 (.extract (.t 9) 0),
 oO 17 (.extract (.t 9) 1),
 oM 7 16,
 oM 8 17])
 (.seq (.reg [oM 18 7,
 oM 6 18])
 (.ret))),
 [(6,none)]⟩
theorem cf_strd:compFn Tryd.prog { own:=[],comp:=[(15,0)],frz:=[],nils:=[] } Tryd.f39=some sf_strd:=by kernel_rfl
theorem strd_f (G:Glob) (key tag b:List UInt8) (h:key.length=32) (ht:tag.length=16) (hb:b.length≤65535):Den Tryd.prog G 39 [.sl (key.map bD),.sl (tag.map bD),.sl (b.map bD)] (.w (.c (.fr 1 ((strS key tag b).map bD)))):=by
  refine den_walk Tryd.func39 cf_strd rfl rfl ?_
  have hk:(key.drop 16).length=16:=by rw[List.length_drop]; omega
  have hk2:(key.drop 16).take 16=key.drop 16:=List.take_of_length_le (by omega)
  obtain⟨v1,v2⟩:=strmVE_ok (c:=ctrT tag) (b:=b) hk (by rw[ctrT_len]; exact ht) hb
  have hv:=stm_f G (key.drop 16) (ctrT tag) b (by omega) (by rw[ctrT_len]; omega) (by omega)
  rw[v1,v2] at hv
  have hs:strmC (rkK (key.drop 16)) (ctrT tag) b=strS key tag b:=rfl
  rw[hs] at hv
  simp only[sf_strd,putAll,wal,stV,seval,iteOmega,toNatUp,reduceCtorEq,h]
  refine sC (ctr_c G tag ht) ?_
  simp only[hk2,wal,stV,seval,iteOmega,toNatUp,reduceCtorEq]
  refine sD (hv) ?_
  exact qf1
theorem strd_c (G:Glob) (key tag b:List UInt8) (h:key.length=32) (ht:tag.length=16) (hb:b.length≤65535):Den Tryd.prog G 39 [.sl (key.map bD),.sl (tag.map bD),.sl (b.map bD)] (.w (.c (.d (.sl ((strS key tag b).map bD))))):=den_ro (strd_f G key tag b h ht hb)
def sf_tag:SFn:=⟨3,21,
 .seq (.reg [oO 6 (.mv (.k (.c .nil))),
 oO 7 (.mv (kI 0))])
 (.seq (.seq (.reg [oM 9 0,
 oM 10 1,
 oM 11 2,
 oO 12 (.len (.t 11)),
 oO 13 (.call 44 [(.t 9),(.t 10),(.t 12)] none),
 oM 8 13])
 (.seq (.reg [oM 14 8,
 oO 15 (.bin .neq (.t 14) (kI 0))])
 (.cond (.t 15) (.seq (.reg [oM 16 8,
 oO 6 (.mv (.k (.c .nil))),
 oM 7 16])
 (.ret))
 (.skip))))
 (.seq (.reg [oM 17 0,
 oM 18 1,
 oM 19 2,
 oO 20 (.call 46 [(.t 17),(.t 18),(.t 19)] (some (0,1))),
 oM 6 20,
 oO 7 (.mv (kI 0))])
 (.ret))),
 [(6,none),(7,none)]⟩
theorem cf_tag:compFn Tryd.prog { own:=[20],comp:=[],frz:=[],nils:=[] } Tryd.f38=some sf_tag:=by kernel_rfl
theorem tag_f (G:Glob) (key:List UInt8) (ad:List (List UInt8)) (b:List UInt8) (hk:key.length≤9223372036854775807) (hl:ad.length≤9223372036854775807) (hx:∀ x∈ad,x.length≤9223372036854775807) (hb:b.length≤9223372036854775807):Den Tryd.prog G 38 [.sl (key.map bD),sls ad,.sl (b.map bD)] (.tup [.c (.fr 1 ((tagV key ad b).map bD)),.c (.d (.int .i64 (aeE key ad b.length)))]):=by
  refine den_walk Tryd.func38 cf_tag rfl rfl ?_
  have hc:=chk_c G key ad (b.length:Int) hk hl hx
  by_cases he:aeE key ad (b.length:Int)=0
  ·have hv:tagV key ad b=tagM key ad b:=if_pos he
   obtain⟨k1,k2,k3,k4⟩:=aeE_ok he
   rw[he] at hc ⊢
   rw[hv]
   simp only[sf_tag,putAll,wal,stV,seval,iteOmega,toNatUp,reduceCtorEq]
   refine sD (hc) ?_
   refine sD (tagd_f G key ad b k1 k2 k3 (by omega)) ?_
   exact qf2
  ·have hv:tagV key ad b=[]:=if_neg he
   rw[hv]
   have hne:aeE key ad (b.length:Int)=0↔False:=⟨he,False.elim⟩
   rcases aeE_val key ad b.length with e | e | e | e
   ·exact absurd e he
   all_goals
     rw[e] at hc ⊢
     simp only[sf_tag,putAll,wal,stV,seval,iteOmega,toNatUp,reduceCtorEq]
     refine st_call hc rfl (.inl rfl) ?_
     simp only[wal,stV,seval,iteOmega,toNatUp,reduceCtorEq]
     exact qf2
theorem tag_c (G:Glob) (key:List UInt8) (ad:List (List UInt8)) (b:List UInt8) (hk:key.length≤9223372036854775807) (hl:ad.length≤9223372036854775807) (hx:∀ x∈ad,x.length≤9223372036854775807) (hb:b.length≤9223372036854775807):Den Tryd.prog G 38 [.sl (key.map bD),sls ad,.sl (b.map bD)] (.tup [.c (.d (.sl ((tagV key ad b).map bD))),.c (.d (.int .i64 (aeE key ad b.length)))]):=den_ro2 (tag_f G key ad b hk hl hx hb)
def sf_seal:SFn:=⟨3,27,
 .seq (.reg [oO 6 (.mv (.k (.c .nil))),
 oO 7 (.mv (kI 0))])
 (.seq (.reg [oM 11 0,
 oM 12 1,
 oM 13 2,
 oO 14 (.call 38 [(.t 11),(.t 12),(.t 13)] none),
 oM 10 14,
 oO 15 (.extract (.t 10) 0),
 oO 16 (.extract (.t 10) 1),
 oM 8 15,
 oM 9 16])
 (.seq (.seq (.reg [oM 17 9,
 oO 18 (.bin .neq (.t 17) (kI 0))])
 (.cond (.t 18) (.seq (.reg [oM 19 9,
 oO 6 (.mv (.k (.c .nil))),
 oM 7 19])
 (.ret))
 (.skip)))
 (.seq (.reg [oM 20 8,
 oM 21 0,
 oM 22 8,
 oM 23 2,
 oO 24 (.call 39 [(.t 21),(.t 22),(.t 23)] none),
 oO 25 (.bldSl false 2 1 (.sl []) [(0,(.t 20)),(1,(.t 24))]),
 oO 26 (.call 24 [(.t 25)] (some (0,1))),
 oM 6 26,
 oO 7 (.mv (kI 0))])
 (.ret)))),
 [(6,none),(7,none)]⟩
theorem cf_seal:compFn Tryd.prog { own:=[26],comp:=[],frz:=[],nils:=[] } Tryd.f25=some sf_seal:=by kernel_rfl
theorem seal_f (G:Glob) (key:List UInt8) (ad:List (List UInt8)) (b:List UInt8) (hk:key.length≤9223372036854775807) (hl:ad.length≤9223372036854775807) (hx:∀ x∈ad,x.length≤9223372036854775807) (hb:b.length≤9223372036854775807):Den Tryd.prog G 25 [.sl (key.map bD),sls ad,.sl (b.map bD)] (.tup [.c (.fr 1 ((sealV key ad b).map bD)),.c (.d (.int .i64 (aeE key ad b.length)))]):=by
  refine den_walk Tryd.func25 cf_seal rfl rfl ?_
  have hc:=tag_c G key ad b hk hl hx hb
  by_cases he:aeE key ad (b.length:Int)=0
  ·have hv:tagV key ad b=tagM key ad b:=if_pos he
   have hv2:sealV key ad b=tagM key ad b++strS key (tagM key ad b) b:=if_pos he
   obtain⟨k1,k2,k3,k4⟩:=aeE_ok he
   have hj:=join_c G [tagM key ad b,strS key (tagM key ad b) b] (by simp) (by simp[tagM_len,strS_len]; omega)
   have hf:[tagM key ad b,strS key (tagM key ad b) b].flatten=tagM key ad b++strS key (tagM key ad b) b:=by simp
   rw[hf] at hj
   rw[he,hv] at hc
   rw[he,hv2]
   simp only[sf_seal,putAll,wal,stV,seval,iteOmega,toNatUp,reduceCtorEq]
   refine sD (hc) ?_
   refine sD (strd_c G key (tagM key ad b) b k1 (tagM_len _ _ _) (by omega)) ?_
   refine sD (hj) ?_
   exact qf2
  ·have hv:tagV key ad b=[]:=if_neg he
   have hv2:sealV key ad b=[]:=if_neg he
   rw[hv] at hc
   rw[hv2]
   rcases aeE_val key ad b.length with e | e | e | e
   ·exact absurd e he
   all_goals
     rw[e] at hc ⊢
     simp only[sf_seal,putAll,wal,stV,seval,iteOmega,toNatUp,reduceCtorEq]
     refine st_call hc rfl (.inl rfl) ?_
     simp only[wal,stV,seval,iteOmega,toNatUp,reduceCtorEq]
     exact qf2
theorem seal_c (G:Glob) (key:List UInt8) (ad:List (List UInt8)) (b:List UInt8) (hk:key.length≤9223372036854775807) (hl:ad.length≤9223372036854775807) (hx:∀ x∈ad,x.length≤9223372036854775807) (hb:b.length≤9223372036854775807):Den Tryd.prog G 25 [.sl (key.map bD),sls ad,.sl (b.map bD)] (.tup [.c (.d (.sl ((sealV key ad b).map bD))),.c (.d (.int .i64 (aeE key ad b.length)))]):=den_ro2 (seal_f G key ad b hk hl hx hb)
theorem opn_err {key:List UInt8} {ad:List (List UInt8)} {s:List UInt8} (h:aeE key ad ((s.length:Int)-16)≠0):opnE key ad s=aeE key ad ((s.length:Int)-16)∧opnV key ad s=[]:=by
  have:opnE key ad s=aeE key ad ((s.length:Int)-16):=if_pos h
  refine⟨this,?_⟩
  unfold opnV
  rw[if_neg (by rw[this]; exact h)]
theorem opn_short {key:List UInt8} {ad:List (List UInt8)} {s:List UInt8} (h:aeE key ad ((s.length:Int)-16)=0) (hs:s.length<16):opnE key ad s=1∧opnV key ad s=[]:=by
  have:opnE key ad s=1:=by unfold opnE; rw[if_neg (by simp[h]),if_pos hs]
  refine⟨this,?_⟩
  unfold opnV
  rw[if_neg (by rw[this]; decide)]
theorem opn_ok {key:List UInt8} {ad:List (List UInt8)} {s:List UInt8} (h:aeE key ad ((s.length:Int)-16)=0) (hs:¬ s.length<16) (ht:s.take 16=tagM key ad (strS key (s.take 16) (s.drop 16))):opnE key ad s=0∧opnV key ad s=strS key (s.take 16) (s.drop 16):=by
  have:opnE key ad s=0:=by unfold opnE; rw[if_neg (by simp[h]),if_neg hs,if_pos ht]
  exact⟨this,if_pos this⟩
theorem opn_auth {key:List UInt8} {ad:List (List UInt8)} {s:List UInt8} (h:aeE key ad ((s.length:Int)-16)=0) (hs:¬ s.length<16) (ht:s.take 16≠tagM key ad (strS key (s.take 16) (s.drop 16))):opnE key ad s=6∧opnV key ad s=[]:=by
  have:opnE key ad s=6:=by unfold opnE; rw[if_neg (by simp[h]),if_neg hs,if_neg ht]
  refine⟨this,?_⟩
  unfold opnV
  rw[if_neg (by rw[this]; decide)]
def sf_opn:SFn:=⟨3,38,
 .seq (.reg [oO 6 (.mv (.k (.c .nil))),
 oO 7 (.mv (kI 0))])
 (.seq (.seq (.reg [oM 11 0,
 oM 12 1,
 oM 13 2,
 oO 14 (.len (.t 13)),
 oO 15 (.bin .sub (.t 14) (kI 16)),
 oO 16 (.call 44 [(.t 11),(.t 12),(.t 15)] none),
 oM 8 16])
 (.seq (.reg [oM 17 8,
 oO 18 (.bin .neq (.t 17) (kI 0))])
 (.cond (.t 18) (.seq (.reg [oM 19 8,
 oO 6 (.mv (.k (.c .nil))),
 oM 7 19])
 (.ret))
 (.skip))))
 (.seq (.seq (.reg [oM 20 2,
 oO 21 (.len (.t 20)),
 oO 22 (.bin .lss (.t 21) (kI 16))])
 (.cond (.t 22) (.seq (.reg [oO 6 (.mv (.k (.c .nil))),
 oO 7 (.mv (kI 1))])
 (.ret))
 (.skip)))
 (.seq (.reg [oM 23 2,
 oO 24 (.slice 1 (.t 23) none (some (kI 16)) none),
 oM 9 24])
 (.seq (.reg [oM 25 0,
 oM 26 9,
 oM 27 2,
 oO 28 (.slice 1 (.t 27) (some (kI 16)) none none),
 oO 29 (.call 39 [(.t 25),(.t 26),(.t 28)] (some (0,1))),
 oM 10 29])
 (.seq (.seq (.reg [oM 30 9,
 oM 31 0,
 oM 32 1,
 oM 33 10,
 oO 34 (.call 46 [(.t 31),(.t 32),(.t 33)] none),
 oO 35 (.call 45 [(.t 30),(.t 34)] none),
 oO 36 (.un .not (.t 35))])
 (.cond (.t 36) (.seq (.reg [oO 6 (.mv (.k (.c .nil))),
 oO 7 (.mv (kI 6))])
 (.ret))
 (.skip)))
 (.seq (.reg [oM 37 10,
 oM 6 37,
 oO 7 (.mv (kI 0))])
 (.ret))))))),
 [(6,none),(7,none)]⟩
theorem cf_opn:compFn Tryd.prog { own:=[29],comp:=[],frz:=[],nils:=[] } Tryd.f31=some sf_opn:=by kernel_rfl
theorem opn_f (G:Glob) (key:List UInt8) (ad:List (List UInt8)) (s:List UInt8) (hk:key.length≤9223372036854775807) (hl:ad.length≤9223372036854775807) (hx:∀ x∈ad,x.length≤9223372036854775807) (hb:s.length≤9223372036854775807):Den Tryd.prog G 31 [.sl (key.map bD),sls ad,.sl (s.map bD)] (.tup [.c (.fr 1 ((opnV key ad s).map bD)),.c (.d (.int .i64 (opnE key ad s)))]):=by
  refine den_walk Tryd.func31 cf_opn rfl rfl ?_
  have hc:=chk_c G key ad ((s.length:Int)-16) hk hl hx
  by_cases he:aeE key ad ((s.length:Int)-16)=0
  ·obtain⟨k1,k2,k3,k4⟩:=aeE_ok he
   rw[he] at hc
   by_cases hs:s.length<16
   ·obtain⟨e1,e2⟩:=opn_short he hs
    rw[e1,e2]
    simp only[sf_opn,putAll,wal,stV,seval,iteOmega,toNatUp,reduceCtorEq]
    refine sD (hc) ?_
    exact qf2
   ·have ht:(s.take 16).length=16:=by rw[List.length_take]; omega
    have hd:(s.drop 16).length=s.length-16:=List.length_drop
    have hd2:(s.drop 16).take (s.length-16)=s.drop 16:=List.take_of_length_le (by omega)
    have c1:=strd_f G key (s.take 16) (s.drop 16) k1 ht (by omega)
    have c2:=tagd_f G key ad (strS key (s.take 16) (s.drop 16)) k1 k2 k3 (by rw[strS_len]; omega)
    have c3:=same_c G (s.take 16) (tagM key ad (strS key (s.take 16) (s.drop 16)))
    by_cases hq:s.take 16=tagM key ad (strS key (s.take 16) (s.drop 16))
    ·obtain⟨e1,e2⟩:=opn_ok he hs hq
     have hb:(s.take 16==tagM key ad (strS key (s.take 16) (s.drop 16)))=true:=beq_iff_eq.2 hq
     rw[hb] at c3
     rw[e1,e2]
     simp only[sf_opn,putAll,wal,stV,seval,iteOmega,toNatUp,reduceCtorEq]
     refine sC (hc) ?_
     simp only[hd2,wal,stV,seval,iteOmega,toNatUp,reduceCtorEq]
     refine sD (c1) ?_
     refine st_call (c2) (by simp only[wal,stV,seval,iteOmega,toNatUp,reduceCtorEq]) (.inr (fl_b _ _)) ?_
     simp only[wal,stV,seval,iteOmega,toNatUp,reduceCtorEq]
     refine sD (c3) ?_
     exact qf2
    ·obtain⟨e1,e2⟩:=opn_auth he hs hq
     have hb:(s.take 16==tagM key ad (strS key (s.take 16) (s.drop 16)))=false:=by simpa using hq
     rw[hb] at c3
     rw[e1,e2]
     simp only[sf_opn,putAll,wal,stV,seval,iteOmega,toNatUp,reduceCtorEq]
     refine sC (hc) ?_
     simp only[hd2,wal,stV,seval,iteOmega,toNatUp,reduceCtorEq]
     refine sD (c1) ?_
     refine st_call (c2) (by simp only[wal,stV,seval,iteOmega,toNatUp,reduceCtorEq]) (.inr (fl_b _ _)) ?_
     simp only[wal,stV,seval,iteOmega,toNatUp,reduceCtorEq]
     refine sD (c3) ?_
     exact qf2
  ·obtain⟨e1,e2⟩:=opn_err he
   rw[e1,e2]
   rcases aeE_val key ad ((s.length:Int)-16) with e | e | e | e
   ·exact absurd e he
   all_goals
     rw[e] at hc ⊢
     simp only[sf_opn,putAll,wal,stV,seval,iteOmega,toNatUp,reduceCtorEq]
     refine st_call hc rfl (.inl rfl) ?_
     simp only[wal,stV,seval,iteOmega,toNatUp,reduceCtorEq]
     exact qf2
theorem opn_c (G:Glob) (key:List UInt8) (ad:List (List UInt8)) (s:List UInt8) (hk:key.length≤9223372036854775807) (hl:ad.length≤9223372036854775807) (hx:∀ x∈ad,x.length≤9223372036854775807) (hb:s.length≤9223372036854775807):Den Tryd.prog G 31 [.sl (key.map bD),sls ad,.sl (s.map bD)] (.tup [.c (.d (.sl ((opnV key ad s).map bD))),.c (.d (.int .i64 (opnE key ad s)))]):=den_ro2 (opn_f G key ad s hk hl hx hb)
end Go.Proofs.YtpbmdbahkpfkdaaDoor
namespace Go.Proofs.YtpbmdbahkpfkdaaDoor
open Go.RowKit
theorem aeE_zero {key:List UInt8} {ad:List (List UInt8)} {n:Int} (h:key.length=32) (h2:ad.length≤16) (h3:∀ x∈ad,x.length≤65519) (h4:n≤65519):aeE key ad n=0:=by
  have:longA ad=false:=by
    unfold longA
    rw[List.any_eq_false]
    intro x hx
    have:=h3 x hx
    simpa using this
  unfold aeE
  rw[if_neg (by omega),if_neg (by omega),if_neg (by rw[this]; simp; omega)]
theorem strS_twice (key tag b:List UInt8):strS key tag (strS key tag b)=b:=strmC_twice _ _ _
theorem sealV_ok {key b:List UInt8} {ad:List (List UInt8)} (h:aeE key ad b.length=0):sealV key ad b=tagM key ad b++strS key (tagM key ad b) b:=if_pos h
theorem seal_take {key b:List UInt8} {ad:List (List UInt8)} (T:List UInt8):(tagM key ad b++T).take 16=tagM key ad b:=by
  rw[List.take_append_of_le_length (by rw[tagM_len]; exact Nat.le_refl _),List.take_of_length_le (by rw[tagM_len]; exact Nat.le_refl _)]
theorem seal_drop {key b:List UInt8} {ad:List (List UInt8)} (T:List UInt8):(tagM key ad b++T).drop 16=T:=by
  have:=List.drop_left (l₁:=tagM key ad b) (l₂:=T)
  rw[tagM_len] at this
  exact this
theorem opn_seal {key b:List UInt8} {ad:List (List UInt8)} (h:aeE key ad b.length=0):opnE key ad (tagM key ad b++strS key (tagM key ad b) b)=0∧opnV key ad (tagM key ad b++strS key (tagM key ad b) b)=b:=by
  have hl:(tagM key ad b++strS key (tagM key ad b) b).length=16+b.length:=by rw[List.length_append,tagM_len,strS_len]
  have he:aeE key ad (((tagM key ad b++strS key (tagM key ad b) b).length:Int)-16)=0:=by rw[hl,show ((16+b.length:Nat):Int)-16=(b.length:Int) by omega]; exact h
  obtain⟨e1,e2⟩:=opn_ok he (by omega) (by rw[seal_take,seal_drop,strS_twice])
  refine⟨e1,?_⟩
  rw[e2,seal_take,seal_drop,strS_twice]
end Go.Proofs.YtpbmdbahkpfkdaaDoor
