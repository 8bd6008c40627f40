/- Texts of one's own, merged: from: Layer 6 on data: tags,sealed bytes,opened ones; both codes. Own work. -/
import Derived.Shelf.Abstract
import Derived.Test.YtbkhllchjbjhgaaDoorMg111
import Derived.Test.YtbkhllchjbjhgaaDoorMg110
import Derived.Test.YtbkhllchjbjhgaaDoorMg112
import Derived.Test.YtbkhllchjbjhgaaDoorMg17
set_option linter.unusedVariables false
set_option linter.unusedSimpArgs false
namespace Go.Proofs.YtbkhllchjbjhgaaDoor
open Go.RowKit IntWalk
set_option maxHeartbeats 1600000
def ctrT (tag:List UInt8):List UInt8:=(tag.set 8 (andB (tag.getD 8 0) 127)).set 12 (andB (tag.getD 12 0) 127)
theorem ctrT_len (tag:List UInt8):(ctrT tag).length=tag.length:=by unfold ctrT; rw[List.length_set,List.length_set]
def tagM (key:List UInt8) (ad:List (List UInt8)) (b:List UInt8):List UInt8:=vecM (rkK (key.take 16)) (ad++[b])
theorem tagM_len (key:List UInt8) (ad:List (List UInt8)) (b:List UInt8):(tagM key ad b).length=16:=vecM_len _ _
def strS (key tag b:List UInt8):List UInt8:=strmC (rkK (key.drop 16)) (ctrT tag) b
theorem strS_len (key tag b:List UInt8):(strS key tag b).length=b.length:=strmC_len _ _ _
def longA (l:List (List UInt8)):Bool:=l.any fun x=>decide (65519<x.length)
def aeE (key:List UInt8) (ad:List (List UInt8)) (n:Int):Int:=if key.length≠32 then 5 else if 16<ad.length then 8 else if longA ad=true∨65519<n then 2 else 0
def tagV (key:List UInt8) (ad:List (List UInt8)) (b:List UInt8):List UInt8:=if aeE key ad b.length=0 then tagM key ad b else []
def sealV (key:List UInt8) (ad:List (List UInt8)) (b:List UInt8):List UInt8:=if aeE key ad b.length=0 then tagM key ad b++strS key (tagM key ad b) b else []
def opnE (key:List UInt8) (ad:List (List UInt8)) (s:List UInt8):Int :=
  if aeE key ad ((s.length:Int)-16)≠0 then aeE key ad ((s.length:Int)-16) else if s.length<16 then 1 else if s.take 16=tagM key ad (strS key (s.take 16) (s.drop 16)) then 0 else 6
def opnV (key:List UInt8) (ad:List (List UInt8)) (s:List UInt8):List UInt8:=if opnE key ad s=0 then strS key (s.take 16) (s.drop 16) else []
theorem longA_all {l:List (List UInt8)} (h:longA l=false):∀ x∈l,x.length≤65519:=by
  unfold longA at h
  rw[List.any_eq_false] at h
  intro x hx
  simpa using h x hx
theorem aeE_ok {key:List UInt8} {ad:List (List UInt8)} {n:Int} (h:aeE key ad n=0):key.length=32∧ad.length≤16∧longA ad=false∧n≤65519:=by
  unfold aeE at h
  split at h
  ·cases h
  ·split at h
   ·cases h
   ·split at h
    ·cases h
    ·rename_i h1 h2 h3
     cases hl:longA ad
     ·exact⟨by omega,by omega,rfl,by omega⟩
     ·exact absurd (.inl hl) h3
theorem aeE_val (key:List UInt8) (ad:List (List UInt8)) (n:Int):aeE key ad n=0∨aeE key ad n=5∨aeE key ad n=8∨aeE key ad n=2:=by
  unfold aeE
  split
  ·exact .inr (.inl rfl)
  ·split
   ·exact .inr (.inr (.inl rfl))
   ·split
    ·exact .inr (.inr (.inr rfl))
    ·exact .inl rfl
theorem vctV_ok {k:List UInt8} {l:List (List UInt8)} (h:k.length=16) (hn:l.length≤17) (hl:∀ x∈l,x.length≤65535):vctV k l=vecM (rkK k) l∧vctE k l=0:=by
  have:longL l=false:=by
    unfold longL
    rw[List.any_eq_false]
    intro x hx
    have:=hl x hx
    simpa using this
  refine⟨if_pos ⟨h,hn,this⟩,?_⟩
  unfold vctE
  rw[if_neg (by omega),if_neg (by omega),this,if_neg (by simp)]
theorem strmVE_ok {k c b:List UInt8} (h:k.length=16) (hc:c.length=16) (hb:b.length≤65535):strmV k c b=strmC (rkK k) c b∧strmE k c b=0:=by
  refine⟨if_pos ⟨h,hc,hb⟩,?_⟩
  unfold strmE
  rw[if_neg (by omega),if_neg (by omega),if_neg (by omega)]
theorem ad_all {ad:List (List UInt8)} {b:List UInt8} (h:longA ad=false) (hb:b.length≤65519):∀ x∈ad++[b],x.length≤65535:=by
  intro x hx
  rcases List.mem_append.1 hx with hx | hx
  ·have:=longA_all h x hx; omega
  ·simp only[List.mem_singleton] at hx; subst hx; omega
def sf_chkl:SFn:=⟨1,6,
 .seq (.reg [oO 2 (.mv (.k (.c (.d (.bool false)))))])
 (.seq (.reg [oM 3 0,
 oO 4 (.len (.t 3)),
 oO 5 (.bin .gtr (.t 4) (kI 65519)),
 oM 2 5])
 (.ret)),
 [(2,none)]⟩
theorem cf_chkl:compFn Tryd.prog { own:=[],comp:=[],frz:=[],nils:=[] } Tryd.f60=some sf_chkl:=by kernel_rfl
theorem chkl_c (G:Glob) (x:List UInt8) (hx:x.length≤9223372036854775807):DenF Tryd.prog G 60 [] [.sl (x.map bD)] (.w (.c (.d (.bool (decide (65519<x.length)))))):=by
  refine⟨enters_of Tryd.func60 (by kernel_rfl) rfl,?_⟩
  refine den_walk Tryd.func60 cf_chkl rfl rfl ?_
  by_cases h:65519<x.length
  ·have hd:decide (65519<x.length)=true:=decide_eq_true h
   rw[hd]
   simp only[sf_chkl,putAll,wal,stV,seval,iteOmega,toNatUp,reduceCtorEq]
   exact qd1
  ·have hd:decide (65519<x.length)=false:=decide_eq_false h
   rw[hd]
   simp only[sf_chkl,putAll,wal,stV,seval,iteOmega,toNatUp,reduceCtorEq]
   exact qd1
def sf_chk:SFn:=⟨3,21,
 .seq (.reg [oO 6 (.mv (kI 0))])
 (.seq (.seq (.reg [oM 8 0,
 oO 9 (.len (.t 8)),
 oO 10 (.bin .neq (.t 9) (kI 32))])
 (.cond (.t 10) (.seq (.reg [oO 6 (.mv (kI 5))])
 (.ret))
 (.skip)))
 (.seq (.seq (.reg [oM 11 1,
 oO 12 (.len (.t 11)),
 oO 13 (.bin .gtr (.t 12) (kI 16))])
 (.cond (.t 13) (.seq (.reg [oO 6 (.mv (kI 8))])
 (.ret))
 (.skip)))
 (.seq (.reg [oO 7 (.mv (.k (.c (.d (.fn 60 [])))))])
 (.seq (.seq (.reg [oM 14 1,
 oM 15 7,
 oO 16 (.call 61 [(.t 14),(.t 15)] none),
 oM 17 16,
 oG 18 (.mv (.t 2)) 17 false,
 oG 19 (.bin .gtr (.t 18) (kI 65519)) 17 false,
 oO 20 (.pick (.t 17) (.k (.c (.d (.bool true)))) (.t 19))])
 (.cond (.t 20) (.seq (.reg [oO 6 (.mv (kI 2))])
 (.ret))
 (.skip)))
 (.seq (.reg [oO 6 (.mv (kI 0))])
 (.ret)))))),
 [(6,none)]⟩
theorem cf_chk:compFn Tryd.prog { own:=[],comp:=[],frz:=[],nils:=[] } Tryd.f48=some sf_chk:=by kernel_rfl
theorem chk_c (G:Glob) (key:List UInt8) (ad:List (List UInt8)) (n:Int) (hk:key.length≤9223372036854775807) (hl:ad.length≤9223372036854775807) (hb:∀ x∈ad,x.length≤9223372036854775807):Den Tryd.prog G 48 [.sl (key.map bD),sls ad,.int .i64 n] (.w (.c (.d (.int .i64 (aeE key ad n))))):=by
  refine den_walk Tryd.func48 cf_chk rfl rfl ?_
  have hc:=conf_c G ad 60 [] (fun x=>decide (65519<x.length)) hl (fun x hx=>chkl_c G x (hb x hx))
  have hL:(ad.any fun x=>decide (65519<x.length))=longA ad:=rfl
  rw[hL] at hc
  unfold aeE
  by_cases h:key.length=32
  ·rw[if_neg (by omega)]
   by_cases h2:16<ad.length
   ·rw[if_pos h2]
    simp only[sf_chk,putAll,wal,stV,seval,iteOmega,toNatUp,reduceCtorEq]
    exact qd1
   ·rw[if_neg h2]
    cases hl:longA ad
    ·rw[hl] at hc
     by_cases h3:65519<n
     ·rw[if_pos (.inr h3)]
      simp only[sf_chk,putAll,wal,stV,seval,iteOmega,toNatUp,reduceCtorEq]
      refine sD (hc) ?_
      exact qd1
     ·rw[if_neg (by simp; omega)]
      simp only[sf_chk,putAll,wal,stV,seval,iteOmega,toNatUp,reduceCtorEq]
      refine sD (hc) ?_
      exact qd1
    ·rw[hl] at hc
     rw[if_pos (.inl rfl)]
     simp only[sf_chk,putAll,wal,stV,seval,iteOmega,toNatUp,reduceCtorEq]
     refine sD (hc) ?_
     exact qd1
  ·rw[if_pos h]
   simp only[sf_chk,putAll,wal,stV,seval,iteOmega,toNatUp,reduceCtorEq]
   exact qd1
def sf_tagd:SFn:=⟨3,23,
 .seq (.reg [oO 6 (.mv (.k (.c .nil)))])
 (.seq (.reg [oM 10 1,
 oM 11 2,
 oO 12 (.bldSl false 1 1 (.sl []) [(0,(.t 11))]),
 oO 13 (.bldSl false 2 1 (.sl []) [(0,(.t 10)),(1,(.t 12))]),
 oO 14 (.call 62 [(.t 13)] none),
 oM 7 14])
 (.seq (.reg [oM 16 0,
 oO 17 (.slice 1 (.t 16) none (some (kI 16)) none),
 oM 18 7,
 oO 19 (.call 63 [(.t 17),(.t 18)] (some (0,1))),
 oM 15 19,
 oO 20 (.extract (.t 15) 0),
 oO 21 (.extract (.t 15) 1),
 oM 8 20,
 oM 9 21])
 (.seq (.reg [oM 22 8,
 oM 6 22])
 (.ret)))),
 [(6,none)]⟩
theorem cf_tagd:compFn Tryd.prog { own:=[],comp:=[(19,0)],frz:=[],nils:=[] } Tryd.f49=some sf_tagd:=by kernel_rfl
theorem tagd_f (G:Glob) (key:List UInt8) (ad:List (List UInt8)) (b:List UInt8) (h:key.length=32) (hn:ad.length≤16) (hl:longA ad=false) (hb:b.length≤65519):Den Tryd.prog G 49 [.sl (key.map bD),sls ad,.sl (b.map bD)] (.w (.c (.fr 1 ((tagM key ad b).map bD)))):=by
  refine den_walk Tryd.func49 cf_tagd rfl rfl ?_
  have hf:[ad,[b]].flatten=ad++[b]:=by simp
  have hc:=conc_c G [ad,[b]] (by simp) (by rw[hf]; simp; omega)
  rw[hf] at hc
  have hk:(key.take 16).length=16:=by rw[List.length_take]; omega
  obtain⟨v1,v2⟩:=vctV_ok (l:=ad++[b]) hk (by simp; omega) (ad_all hl hb)
  have hv:=vctr_f G (key.take 16) (ad++[b]) (by omega) (by simp; omega) (fun x hx=>Nat.le_trans (ad_all hl hb x hx) (by decide))
  rw[v1,v2] at hv
  have ht:vecM (rkK (key.take 16)) (ad++[b])=tagM key ad b:=rfl
  rw[ht] at hv
  simp only[sf_tagd,putAll,wal,stV,seval,iteOmega,toNatUp,reduceCtorEq]
  refine sD (hc) ?_
  refine sD (hv) ?_
  exact qf1
theorem ctr_get {tag:List UInt8} (h:tag.length=16) {i:Nat} (hi:i<16):tag[i]?=some (tag.getD i 0):=by
  rw[List.getD_eq_getElem?_getD,List.getElem?_eq_getElem (by omega)]; rfl
theorem ctr_two {tag:List UInt8} (h:tag.length=16) (x:UInt8):(tag.set 8 x)[12]?=some (tag.getD 12 0):=by
  rw[List.getElem?_set_ne (by decide),ctr_get h (by decide)]
def sf_ctr:SFn:=⟨1,18,
 .seq (.reg [oO 2 (.mv (.k (.c .nil)))])
 (.seq (.reg [oM 4 0,
 oO 5 (.bldSl false 1 1 (.sl []) [(0,(.t 4))]),
 oO 6 (.call 24 [(.t 5)] (some (0,1))),
 oM 3 6])
 (.seq (.reg [oM 7 3,
 oO 8 (.idxSl 1 (.t 7) (kI 8)),
 oO 9 (.load .sc (.t 8)),
 oO 10 (.bin .and (.t 9) (.k (.c (.d (.int .u8 127))))),
 oO 11 (.idxSl 1 (.t 7) (kI 8)),
 oN (.store .sc (.t 11) (.t 10))])
 (.seq (.reg [oM 12 3,
 oO 13 (.idxSl 1 (.t 12) (kI 12)),
 oO 14 (.load .sc (.t 13)),
 oO 15 (.bin .and (.t 14) (.k (.c (.d (.int .u8 127))))),
 oO 16 (.idxSl 1 (.t 12) (kI 12)),
 oN (.store .sc (.t 16) (.t 15))])
 (.seq (.reg [oM 17 3,
 oM 2 17])
 (.ret))))),
 [(2,none)]⟩
theorem cf_ctr:compFn Tryd.prog { own:=[6],comp:=[],frz:=[],nils:=[] } Tryd.f59=some sf_ctr:=by kernel_rfl
theorem ctr_f (G:Glob) (tag:List UInt8) (h:tag.length=16):Den Tryd.prog G 59 [.sl (tag.map bD)] (.w (.c (.fr 1 ((ctrT tag).map bD)))):=by
  refine den_walk Tryd.func59 cf_ctr rfl rfl ?_
  have hj:=join_c G [tag] (by simp) (by simp; omega)
  have hf:[tag].flatten=tag:=by simp
  rw[hf] at hj
  have g1:=ctr_get h (i:=8) (by decide)
  have g2:=ctr_get h (i:=12) (by decide)
  have g3:=ctr_two h (andB (tag.getD 8 0) 127)
  have x1:=bl_and (tag.getD 8 0) 127 127 rfl
  have x2:=bl_and (tag.getD 12 0) 127 127 rfl
  have hs:(tag.set 8 (andB (tag.getD 8 0) 127)).set 12 (andB (tag.getD 12 0) 127)=ctrT tag:=rfl
  simp only[sf_ctr,putAll,wal,stV,seval,iteOmega,toNatUp,reduceCtorEq]
  refine sC (hj) ?_
  simp only[get_map,g1,g2,g3,x1,x2,set_map,hs,wal,stV,seval,iteOmega,toNatUp,reduceCtorEq]
  exact ret_f1 (by simp only[wal,stV,seval,iteOmega,toNatUp,reduceCtorEq,ctrT_len])
theorem ctr_c (G:Glob) (tag:List UInt8) (h:tag.length=16):Den Tryd.prog G 59 [.sl (tag.map bD)] (.w (.c (.d (.sl ((ctrT tag).map bD))))):=den_ro (ctr_f G tag h)
def sf_strd:SFn:=⟨3,19,
 .seq (.reg [oO 6 (.mv (.k (.c .nil)))])
 (.seq (.reg [oM 10 0,
 oO 11 (.slice 1 (.t 10) (some (kI 16)) none none),
 oM 12 1,
 oO 13 (.call 59 [(.t 12)] none),
 oM 14 2,
 oO 15 (.call 58 [(.t 11),(.t 13),(.t 14)] (some (0,1))),
 oM 9 15,
 oO 16 (.extract (.t 9) 0),
 oO 17 (.extract (.t 9) 1),
 oM 7 16,
 oM 8 17])
 (.seq (.reg [oM 18 7,
 oM 6 18])
 (.ret))),
 [(6,none)]⟩
theorem cf_strd:compFn Tryd.prog { own:=[],comp:=[(15,0)],frz:=[],nils:=[] } Tryd.f46=some sf_strd:=by kernel_rfl
theorem strd_f (G:Glob) (key tag b:List UInt8) (h:key.length=32) (ht:tag.length=16) (hb:b.length≤65535):Den Tryd.prog G 46 [.sl (key.map bD),.sl (tag.map bD),.sl (b.map bD)] (.w (.c (.fr 1 ((strS key tag b).map bD)))):=by
  refine den_walk Tryd.func46 cf_strd rfl rfl ?_
  have hk:(key.drop 16).length=16:=by rw[List.length_drop]; omega
  have hk2:(key.drop 16).take 16=key.drop 16:=List.take_of_length_le (by omega)
  obtain⟨v1,v2⟩:=strmVE_ok (c:=ctrT tag) (b:=b) hk (by rw[ctrT_len]; exact ht) hb
  have hv:=stm_f G (key.drop 16) (ctrT tag) b (by omega) (by rw[ctrT_len]; omega) (by omega)
  rw[v1,v2] at hv
  have hs:strmC (rkK (key.drop 16)) (ctrT tag) b=strS key tag b:=rfl
  rw[hs] at hv
  simp only[sf_strd,putAll,wal,stV,seval,iteOmega,toNatUp,reduceCtorEq,h]
  refine sC (ctr_c G tag ht) ?_
  simp only[hk2,wal,stV,seval,iteOmega,toNatUp,reduceCtorEq]
  refine sD (hv) ?_
  exact qf1
theorem strd_c (G:Glob) (key tag b:List UInt8) (h:key.length=32) (ht:tag.length=16) (hb:b.length≤65535):Den Tryd.prog G 46 [.sl (key.map bD),.sl (tag.map bD),.sl (b.map bD)] (.w (.c (.d (.sl ((strS key tag b).map bD))))):=den_ro (strd_f G key tag b h ht hb)
def sf_tag:SFn:=⟨3,21,
 .seq (.reg [oO 6 (.mv (.k (.c .nil))),
 oO 7 (.mv (kI 0))])
 (.seq (.seq (.reg [oM 9 0,
 oM 10 1,
 oM 11 2,
 oO 12 (.len (.t 11)),
 oO 13 (.call 48 [(.t 9),(.t 10),(.t 12)] none),
 oM 8 13])
 (.seq (.reg [oM 14 8,
 oO 15 (.bin .neq (.t 14) (kI 0))])
 (.cond (.t 15) (.seq (.reg [oM 16 8,
 oO 6 (.mv (.k (.c .nil))),
 oM 7 16])
 (.ret))
 (.skip))))
 (.seq (.reg [oM 17 0,
 oM 18 1,
 oM 19 2,
 oO 20 (.call 49 [(.t 17),(.t 18),(.t 19)] (some (0,1))),
 oM 6 20,
 oO 7 (.mv (kI 0))])
 (.ret))),
 [(6,none),(7,none)]⟩
theorem cf_tag:compFn Tryd.prog { own:=[20],comp:=[],frz:=[],nils:=[] } Tryd.f45=some sf_tag:=by kernel_rfl
theorem tag_f (G:Glob) (key:List UInt8) (ad:List (List UInt8)) (b:List UInt8) (hk:key.length≤9223372036854775807) (hl:ad.length≤9223372036854775807) (hx:∀ x∈ad,x.length≤9223372036854775807) (hb:b.length≤9223372036854775807):Den Tryd.prog G 45 [.sl (key.map bD),sls ad,.sl (b.map bD)] (.tup [.c (.fr 1 ((tagV key ad b).map bD)),.c (.d (.int .i64 (aeE key ad b.length)))]):=by
  refine den_walk Tryd.func45 cf_tag rfl rfl ?_
  have hc:=chk_c G key ad (b.length:Int) hk hl hx
  by_cases he:aeE key ad (b.length:Int)=0
  ·have hv:tagV key ad b=tagM key ad b:=if_pos he
   obtain⟨k1,k2,k3,k4⟩:=aeE_ok he
   rw[he] at hc ⊢
   rw[hv]
   simp only[sf_tag,putAll,wal,stV,seval,iteOmega,toNatUp,reduceCtorEq]
   refine sD (hc) ?_
   refine sD (tagd_f G key ad b k1 k2 k3 (by omega)) ?_
   exact qf2
  ·have hv:tagV key ad b=[]:=if_neg he
   rw[hv]
   have hne:aeE key ad (b.length:Int)=0↔False:=⟨he,False.elim⟩
   rcases aeE_val key ad b.length with e | e | e | e
   ·exact absurd e he
   all_goals
     rw[e] at hc ⊢
     simp only[sf_tag,putAll,wal,stV,seval,iteOmega,toNatUp,reduceCtorEq]
     refine st_call hc rfl (.inl rfl) ?_
     simp only[wal,stV,seval,iteOmega,toNatUp,reduceCtorEq]
     exact qf2
theorem tag_c (G:Glob) (key:List UInt8) (ad:List (List UInt8)) (b:List UInt8) (hk:key.length≤9223372036854775807) (hl:ad.length≤9223372036854775807) (hx:∀ x∈ad,x.length≤9223372036854775807) (hb:b.length≤9223372036854775807):Den Tryd.prog G 45 [.sl (key.map bD),sls ad,.sl (b.map bD)] (.tup [.c (.d (.sl ((tagV key ad b).map bD))),.c (.d (.int .i64 (aeE key ad b.length)))]):=den_ro2 (tag_f G key ad b hk hl hx hb)
def sf_seal:SFn:=⟨3,27,
 .seq (.reg [oO 6 (.mv (.k (.c .nil))),
 oO 7 (.mv (kI 0))])
 (.seq (.reg [oM 11 0,
 oM 12 1,
 oM 13 2,
 oO 14 (.call 45 [(.t 11),(.t 12),(.t 13)] none),
 oM 10 14,
 oO 15 (.extract (.t 10) 0),
 oO 16 (.extract (.t 10) 1),
 oM 8 15,
 oM 9 16])
 (.seq (.seq (.reg [oM 17 9,
 oO 18 (.bin .neq (.t 17) (kI 0))])
 (.cond (.t 18) (.seq (.reg [oM 19 9,
 oO 6 (.mv (.k (.c .nil))),
 oM 7 19])
 (.ret))
 (.skip)))
 (.seq (.reg [oM 20 8,
 oM 21 0,
 oM 22 8,
 oM 23 2,
 oO 24 (.call 46 [(.t 21),(.t 22),(.t 23)] none),
 oO 25 (.bldSl false 2 1 (.sl []) [(0,(.t 20)),(1,(.t 24))]),
 oO 26 (.call 24 [(.t 25)] (some (0,1))),
 oM 6 26,
 oO 7 (.mv (kI 0))])
 (.ret)))),
 [(6,none),(7,none)]⟩
theorem cf_seal:compFn Tryd.prog { own:=[26],comp:=[],frz:=[],nils:=[] } Tryd.f26=some sf_seal:=by kernel_rfl
theorem seal_f (G:Glob) (key:List UInt8) (ad:List (List UInt8)) (b:List UInt8) (hk:key.length≤9223372036854775807) (hl:ad.length≤9223372036854775807) (hx:∀ x∈ad,x.length≤9223372036854775807) (hb:b.length≤9223372036854775807):Den Tryd.prog G 26 [.sl (key.map bD),sls ad,.sl (b.map bD)] (.tup [.c (.fr 1 ((sealV key ad b).map bD)),.c (.d (.int .i64 (aeE key ad b.length)))]):=by
  refine den_walk Tryd.func26 cf_seal rfl rfl ?_
  have hc:=tag_c G key ad b hk hl hx hb
  by_cases he:aeE key ad (b.length:Int)=0
  ·have hv:tagV key ad b=tagM key ad b:=if_pos he
   have hv2:sealV key ad b=tagM key ad b++strS key (tagM key ad b) b:=if_pos he
   obtain⟨k1,k2,k3,k4⟩:=aeE_ok he
   have hj:=join_c G [tagM key ad b,strS key (tagM key ad b) b] (by simp) (by simp[tagM_len,strS_len]; omega)
   have hf:[tagM key ad b,strS key (tagM key ad b) b].flatten=tagM key ad b++strS key (tagM key ad b) b:=by simp
   rw[hf] at hj
   rw[he,hv] at hc
   rw[he,hv2]
   simp only[sf_seal,putAll,wal,stV,seval,iteOmega,toNatUp,reduceCtorEq]
   refine sD (hc) ?_
   refine sD (strd_c G key (tagM key ad b) b k1 (tagM_len _ _ _) (by omega)) ?_
   refine sD (hj) ?_
   exact qf2
  ·have hv:tagV key ad b=[]:=if_neg he
   have hv2:sealV key ad b=[]:=if_neg he
   rw[hv] at hc
   rw[hv2]
   rcases aeE_val key ad b.length with e | e | e | e
   ·exact absurd e he
   all_goals
     rw[e] at hc ⊢
     simp only[sf_seal,putAll,wal,stV,seval,iteOmega,toNatUp,reduceCtorEq]
     refine st_call hc rfl (.inl rfl) ?_
     simp only[wal,stV,seval,iteOmega,toNatUp,reduceCtorEq]
     exact qf2
theorem seal_c (G:Glob) (key:List UInt8) (ad:List (List UInt8)) (b:List UInt8) (hk:key.length≤9223372036854775807) (hl:ad.length≤9223372036854775807) (hx:∀ x∈ad,x.length≤9223372036854775807) (hb:b.length≤9223372036854775807):Den Tryd.prog G 26 [.sl (key.map bD),sls ad,.sl (b.map bD)] (.tup [.c (.d (.sl ((sealV key ad b).map bD))),.c (.d (.int .i64 (aeE key ad b.length)))]):=den_ro2 (seal_f G key ad b hk hl hx hb)
theorem opn_err {key:List UInt8} {ad:List (List UInt8)} {s:List UInt8} (h:aeE key ad ((s.length:Int)-16)≠0):opnE key ad s=aeE key ad ((s.length:Int)-16)∧opnV key ad s=[]:=by
  have:opnE key ad s=aeE key ad ((s.length:Int)-16):=if_pos h
  refine⟨this,?_⟩
  unfold opnV
  rw[if_neg (by rw[this]; exact h)]
theorem opn_short {key:List UInt8} {ad:List (List UInt8)} {s:List UInt8} (h:aeE key ad ((s.length:Int)-16)=0) (hs:s.length<16):opnE key ad s=1∧opnV key ad s=[]:=by
  have:opnE key ad s=1:=by unfold opnE; rw[if_neg (by simp[h]),if_pos hs]
  refine⟨this,?_⟩
  unfold opnV
  rw[if_neg (by rw[this]; decide)]
theorem opn_ok {key:List UInt8} {ad:List (List UInt8)} {s:List UInt8} (h:aeE key ad ((s.length:Int)-16)=0) (hs:¬ s.length<16) (ht:s.take 16=tagM key ad (strS key (s.take 16) (s.drop 16))):opnE key ad s=0∧opnV key ad s=strS key (s.take 16) (s.drop 16):=by
  have:opnE key ad s=0:=by unfold opnE; rw[if_neg (by simp[h]),if_neg hs,if_pos ht]
  exact⟨this,if_pos this⟩
theorem opn_auth {key:List UInt8} {ad:List (List UInt8)} {s:List UInt8} (h:aeE key ad ((s.length:Int)-16)=0) (hs:¬ s.length<16) (ht:s.take 16≠tagM key ad (strS key (s.take 16) (s.drop 16))):opnE key ad s=6∧opnV key ad s=[]:=by
  have:opnE key ad s=6:=by unfold opnE; rw[if_neg (by simp[h]),if_neg hs,if_neg ht]
  refine⟨this,?_⟩
  unfold opnV
  rw[if_neg (by rw[this]; decide)]
def sf_opn:SFn:=⟨3,38,
 .seq (.reg [oO 6 (.mv (.k (.c .nil))),
 oO 7 (.mv (kI 0))])
 (.seq (.seq (.reg [oM 11 0,
 oM 12 1,
 oM 13 2,
 oO 14 (.len (.t 13)),
 oO 15 (.bin .sub (.t 14) (kI 16)),
 oO 16 (.call 48 [(.t 11),(.t 12),(.t 15)] none),
 oM 8 16])
 (.seq (.reg [oM 17 8,
 oO 18 (.bin .neq (.t 17) (kI 0))])
 (.cond (.t 18) (.seq (.reg [oM 19 8,
 oO 6 (.mv (.k (.c .nil))),
 oM 7 19])
 (.ret))
 (.skip))))
 (.seq (.seq (.reg [oM 20 2,
 oO 21 (.len (.t 20)),
 oO 22 (.bin .lss (.t 21) (kI 16))])
 (.cond (.t 22) (.seq (.reg [oO 6 (.mv (.k (.c .nil))),
 oO 7 (.mv (kI 1))])
 (.ret))
 (.skip)))
 (.seq (.reg [oM 23 2,
 oO 24 (.slice 1 (.t 23) none (some (kI 16)) none),
 oM 9 24])
 (.seq (.reg [oM 25 0,
 oM 26 9,
 oM 27 2,
 oO 28 (.slice 1 (.t 27) (some (kI 16)) none none),
 oO 29 (.call 46 [(.t 25),(.t 26),(.t 28)] (some (0,1))),
 oM 10 29])
 (.seq (.seq (.reg [oM 30 9,
 oM 31 0,
 oM 32 1,
 oM 33 10,
 oO 34 (.call 49 [(.t 31),(.t 32),(.t 33)] none),
 oO 35 (.call 34 [(.t 30),(.t 34)] none),
 oO 36 (.un .not (.t 35))])
 (.cond (.t 36) (.seq (.reg [oO 6 (.mv (.k (.c .nil))),
 oO 7 (.mv (kI 6))])
 (.ret))
 (.skip)))
 (.seq (.reg [oM 37 10,
 oM 6 37,
 oO 7 (.mv (kI 0))])
 (.ret))))))),
 [(6,none),(7,none)]⟩
theorem cf_opn:compFn Tryd.prog { own:=[29],comp:=[],frz:=[],nils:=[] } Tryd.f30=some sf_opn:=by kernel_rfl
theorem opn_f (G:Glob) (key:List UInt8) (ad:List (List UInt8)) (s:List UInt8) (hk:key.length≤9223372036854775807) (hl:ad.length≤9223372036854775807) (hx:∀ x∈ad,x.length≤9223372036854775807) (hb:s.length≤9223372036854775807):Den Tryd.prog G 30 [.sl (key.map bD),sls ad,.sl (s.map bD)] (.tup [.c (.fr 1 ((opnV key ad s).map bD)),.c (.d (.int .i64 (opnE key ad s)))]):=by
  refine den_walk Tryd.func30 cf_opn rfl rfl ?_
  have hc:=chk_c G key ad ((s.length:Int)-16) hk hl hx
  by_cases he:aeE key ad ((s.length:Int)-16)=0
  ·obtain⟨k1,k2,k3,k4⟩:=aeE_ok he
   rw[he] at hc
   by_cases hs:s.length<16
   ·obtain⟨e1,e2⟩:=opn_short he hs
    rw[e1,e2]
    simp only[sf_opn,putAll,wal,stV,seval,iteOmega,toNatUp,reduceCtorEq]
    refine sD (hc) ?_
    exact qf2
   ·have ht:(s.take 16).length=16:=by rw[List.length_take]; omega
    have hd:(s.drop 16).length=s.length-16:=List.length_drop
    have hd2:(s.drop 16).take (s.length-16)=s.drop 16:=List.take_of_length_le (by omega)
    have c1:=strd_f G key (s.take 16) (s.drop 16) k1 ht (by omega)
    have c2:=tagd_f G key ad (strS key (s.take 16) (s.drop 16)) k1 k2 k3 (by rw[strS_len]; omega)
    have c3:=same_c G (s.take 16) (tagM key ad (strS key (s.take 16) (s.drop 16)))
    by_cases hq:s.take 16=tagM key ad (strS key (s.take 16) (s.drop 16))
    ·obtain⟨e1,e2⟩:=opn_ok he hs hq
     have hb:(s.take 16==tagM key ad (strS key (s.take 16) (s.drop 16)))=true:=beq_iff_eq.2 hq
     rw[hb] at c3
     rw[e1,e2]
     simp only[sf_opn,putAll,wal,stV,seval,iteOmega,toNatUp,reduceCtorEq]
     refine sC (hc) ?_
     simp only[hd2,wal,stV,seval,iteOmega,toNatUp,reduceCtorEq]
     refine sD (c1) ?_
     refine st_call (c2) (by simp only[wal,stV,seval,iteOmega,toNatUp,reduceCtorEq]) (.inr (fl_b _ _)) ?_
     simp only[wal,stV,seval,iteOmega,toNatUp,reduceCtorEq]
     refine sD (c3) ?_
     exact qf2
    ·obtain⟨e1,e2⟩:=opn_auth he hs hq
     have hb:(s.take 16==tagM key ad (strS key (s.take 16) (s.drop 16)))=false:=by simpa using hq
     rw[hb] at c3
     rw[e1,e2]
     simp only[sf_opn,putAll,wal,stV,seval,iteOmega,toNatUp,reduceCtorEq]
     refine sC (hc) ?_
     simp only[hd2,wal,stV,seval,iteOmega,toNatUp,reduceCtorEq]
     refine sD (c1) ?_
     refine st_call (c2) (by simp only[wal,stV,seval,iteOmega,toNatUp,reduceCtorEq]) (.inr (fl_b _ _)) ?_
     simp only[wal,stV,seval,iteOmega,toNatUp,reduceCtorEq]
     refine sD (c3) ?_
     exact qf2
  ·obtain⟨e1,e2⟩:=opn_err he
   rw[e1,e2]
   rcases aeE_val key ad ((s.length:Int)-16) with e | e | e | e
   ·exact absurd e he
   all_goals
     rw[e] at hc ⊢
     simp only[sf_opn,putAll,wal,stV,seval,iteOmega,toNatUp,reduceCtorEq]
     refine st_call hc rfl (.inl rfl) ?_
     simp only[wal,stV,seval,iteOmega,toNatUp,reduceCtorEq]
     exact qf2
theorem opn_c (G:Glob) (key:List UInt8) (ad:List (List UInt8)) (s:List UInt8) (hk:key.length≤9223372036854775807) (hl:ad.length≤9223372036854775807) (hx:∀ x∈ad,x.length≤9223372036854775807) (hb:s.length≤9223372036854775807):Den Tryd.prog G 30 [.sl (key.map bD),sls ad,.sl (s.map bD)] (.tup [.c (.d (.sl ((opnV key ad s).map bD))),.c (.d (.int .i64 (opnE key ad s)))]):=den_ro2 (opn_f G key ad s hk hl hx hb)
end Go.Proofs.YtbkhllchjbjhgaaDoor
namespace Go.Proofs.YtbkhllchjbjhgaaDoor
open Go.RowKit
theorem aeE_zero {key:List UInt8} {ad:List (List UInt8)} {n:Int} (h:key.length=32) (h2:ad.length≤16) (h3:∀ x∈ad,x.length≤65519) (h4:n≤65519):aeE key ad n=0:=by
  have:longA ad=false:=by
    unfold longA
    rw[List.any_eq_false]
    intro x hx
    have:=h3 x hx
    simpa using this
  unfold aeE
  rw[if_neg (by omega),if_neg (by omega),if_neg (by rw[this]; simp; omega)]
theorem strS_twice (key tag b:List UInt8):strS key tag (strS key tag b)=b:=strmC_twice _ _ _
theorem sealV_ok {key b:List UInt8} {ad:List (List UInt8)} (h:aeE key ad b.length=0):sealV key ad b=tagM key ad b++strS key (tagM key ad b) b:=if_pos h
theorem seal_take {key b:List UInt8} {ad:List (List UInt8)} (T:List UInt8):(tagM key ad b++T).take 16=tagM key ad b:=by
  rw[List.take_append_of_le_length (by rw[tagM_len]; exact Nat.le_refl _),List.take_of_length_le (by rw[tagM_len]; exact Nat.le_refl _)]
theorem seal_drop {key b:List UInt8} {ad:List (List UInt8)} (T:List UInt8):(tagM key ad b++T).drop 16=T:=by
  have:=List.drop_left (l₁:=tagM key ad b) (l₂:=T)
  rw[tagM_len] at this
  exact this
theorem opn_seal {key b:List UInt8} {ad:List (List UInt8)} (h:aeE key ad b.length=0):opnE key ad (tagM key ad b++strS key (tagM key ad b) b)=0∧opnV key ad (tagM key ad b++strS key (tagM key ad b) b)=b:=by
  have hl:(tagM key ad b++strS key (tagM key ad b) b).length=16+b.length:=by rw[List.length_append,tagM_len,strS_len]
  have he:aeE key ad (((tagM key ad b++strS key (tagM key ad b) b).length:Int)-16)=0:=by rw[hl,show ((16+b.length:Nat):Int)-16=(b.length:Int) by omega]; exact h
  obtain⟨e1,e2⟩:=opn_ok he (by omega) (by rw[seal_take,seal_drop,strS_twice])
  refine⟨e1,?_⟩
  rw[e2,seal_take,seal_drop,strS_twice]
end Go.Proofs.YtbkhllchjbjhgaaDoor
namespace Go.Proofs.YtbkhllchjbjhgaaDoor
open Go.RowKit
def strUp:List UInt8:=[115,101,99,116,105,109,101,32,117,112]
def strDn:List UInt8:=[115,101,99,116,105,109,101,32,100,111,119,110]
structure Ch where
  cl:Bool
  se:List UInt8
  sk:List UInt8
  rk:List UInt8
  n:Int
  m:Int
def chD (c:Ch):D:=.agg [.bool c.cl,.sl (c.se.map bD),.sl (c.sk.map bD),.sl (c.rk.map bD),.int .i64 c.n,.int .i64 c.m]
def chU (K:List UInt8):List UInt8:=expK K strUp 32
def chV (K:List UInt8):List UInt8:=expK K strDn 32
theorem chU_len (K:List UInt8):(chU K).length=32:=expK_len _ _ _
theorem chV_len (K:List UInt8):(chV K).length=32:=expK_len _ _ _
def chP (cl:Bool) (K:List UInt8) (n m:Int):Ch:=⟨cl,K,bif cl then chU K else chV K,bif cl then chV K else chU K,n,m⟩
def ch0:Ch:=⟨false,[],[],[],0,0⟩
def vdC (c:Ch):Prop:=c.se.length=32∧(0≤c.n∧c.n≤1099511627776)∧(0≤c.m∧c.m≤1099511627776)∧c.sk=(bif c.cl then chU c.se else chV c.se)∧c.rk=(bif c.cl then chV c.se else chU c.se)
instance (c:Ch):Decidable (vdC c):=by unfold vdC; exact inferInstance
theorem ky_len (cl:Bool) (K:List UInt8):(bif cl then chU K else chV K).length=32:=by
  cases cl
  ·rw[cond_false]; exact chV_len K
  ·rw[cond_true]; exact chU_len K
theorem rk_not (cl:Bool) (K:List UInt8) (m n:Int):(chP (!cl) K m n).rk=(bif cl then chU K else chV K):=by
  show (bif !cl then chV K else chU K)=_
  cases cl
  ·rw[Bool.not_false,cond_true,cond_false]
  ·rw[Bool.not_true,cond_false,cond_true]
theorem vd_sk {c:Ch} (h:vdC c):c.sk.length=32:=by
  obtain⟨_,_,_,e,_⟩:=h
  rw[e]
  exact ky_len _ _
theorem vd_rk {c:Ch} (h:vdC c):c.rk.length=32:=by
  obtain⟨_,_,_,_,e⟩:=h
  rw[e]
  have:=ky_len (!c.cl) c.se
  cases hc:c.cl
  ·rw[hc,Bool.not_false,cond_true] at this
   rw[cond_false]; exact this
  ·rw[hc,Bool.not_true,cond_false] at this
   rw[cond_true]; exact this
def bgE (s:List UInt8):Int:=if s.length<16∨65535<s.length then 5 else 0
def bgC (cl:Bool) (s h:List UInt8):Ch:=if bgE s=0 then chP cl (macK (sumK h) s) 0 0 else ch0
def hdC (k:Int) (n:Nat):List UInt8:=UInt8.ofNat k.toNat::putL (n+16) 2
theorem hdC_len (k:Int) (n:Nat):(hdC k n).length=3:=rfl
def adX (n:Int) (h:List UInt8):List (List UInt8):=[putL n.toNat 8,h]
def sdE (c:Ch) (k:Int) (b:List UInt8):Int:=if ¬ vdC c then 3 else if k<0∨255<k then 4 else if 16384<b.length then 2 else if c.n=1099511627776 then 7 else 0
def sdC (c:Ch) (k:Int) (b:List UInt8):Ch:=if sdE c k b=0 then ⟨c.cl,c.se,c.sk,c.rk,c.n+1,c.m⟩ else ch0
def sdR (c:Ch) (k:Int) (b:List UInt8):List UInt8:=if sdE c k b=0 then hdC k b.length++sealV c.sk (adX c.n (hdC k b.length)) b else []
def rcX (c:Ch) (r:List UInt8):Int:=opnE c.rk (adX c.m (r.take 3)) (r.drop 3)
def psE (r:List UInt8):Int:=if r.length<3 then 1 else if r.length-3<getN (cutN r 1 2) then 1 else if getN (cutN r 1 2)<r.length-3∨16400<getN (cutN r 1 2) then 2 else 0
def rcE (c:Ch) (r:List UInt8):Int:=if ¬ vdC c then 3 else if ¬ psE r=0 then psE r else if c.m=1099511627776 then 7 else if rcX c r=0 then 0 else 6
def rcC (c:Ch) (r:List UInt8):Ch:=if rcE c r=0 then ⟨c.cl,c.se,c.sk,c.rk,c.n,c.m+1⟩ else ch0
def rcK (c:Ch) (r:List UInt8):Int:=if rcE c r=0 then ((r.getD 0 0).toNat:Int) else 0
def rcB (c:Ch) (r:List UInt8):List UInt8:=if rcE c r=0 then opnV c.rk (adX c.m (r.take 3)) (r.drop 3) else []
def rnE (c:Ch) (f:List UInt8):Int:=if ¬ vdC c then 3 else if f.length<16∨64<f.length then 5 else 0
def rnC (c:Ch) (f:List UInt8):Ch:=if rnE c f=0 then chP c.cl (macK f c.se) 0 0 else ch0
theorem vd_P {cl:Bool} {K:List UInt8} {n m:Int} (h:K.length=32) (h1:0≤n∧n≤1099511627776) (h2:0≤m∧m≤1099511627776):vdC (chP cl K n m):=⟨h,h1,h2,rfl,rfl⟩
theorem rn_P {cl:Bool} {K f:List UInt8} {n m:Int} (h:K.length=32) (h1:0≤n∧n≤1099511627776) (h2:0≤m∧m≤1099511627776) (hf:16≤f.length∧f.length≤64):rnE (chP cl K n m) f=0∧rnC (chP cl K n m) f=chP cl (macK f K) 0 0:=by
  have e:rnE (chP cl K n m) f=0:=by
    unfold rnE
    rw[if_neg (not_not_intro (vd_P h h1 h2)),if_neg (by omega)]
  exact⟨e,if_pos e⟩
theorem hd_parts (k:Int) (n:Nat) (S:List UInt8):(hdC k n++S).take 3=hdC k n∧(hdC k n++S).drop 3=S∧cutN (hdC k n++S) 1 2=putL (n+16) 2∧(hdC k n++S).getD 0 0=UInt8.ofNat k.toNat:=by
  refine⟨List.take_left' (hdC_len k n),List.drop_left' (hdC_len k n),?_,rfl⟩
  have:=cutN_hit [UInt8.ofNat k.toNat] (putL (n+16) 2) S
  rw[putL_length] at this
  exact this
theorem snd_rcv {cl:Bool} {K b:List UInt8} {n m k:Int} (h:K.length=32) (h1:0≤n∧n<1099511627776) (h2:0≤m∧m≤1099511627776) (hk:0≤k∧k≤255) (hb:b.length≤16384) :
    ∃ R:List UInt8,(sdE (chP cl K n m) k b=0∧sdC (chP cl K n m) k b=chP cl K (n+1) m∧sdR (chP cl K n m) k b=R∧R.length=b.length+19) ∧
      (rcE (chP (!cl) K m n) R=0∧rcC (chP (!cl) K m n) R=chP (!cl) K m (n+1)∧rcK (chP (!cl) K m n) R=k∧rcB (chP (!cl) K m n) R=b):=by
  have e:sdE (chP cl K n m) k b=0:=by
    unfold sdE
    rw[if_neg (not_not_intro (vd_P h ⟨h1.1,by omega⟩ h2)),if_neg (by omega),if_neg (by omega),if_neg (show ¬ (chP cl K n m).n=1099511627776 from fun q=>absurd (show n=1099511627776 from q) (by omega))]
  have ks:(bif cl then chU K else chV K).length=32:=ky_len cl K
  have kr:(chP (!cl) K m n).rk=(bif cl then chU K else chV K):=rk_not cl K m n
  have ha:aeE (bif cl then chU K else chV K) (adX n (hdC k b.length)) b.length=0:=aeE_zero ks (show (2:Nat)≤16 by decide) (fun x hx=>by
    rcases List.mem_cons.1 hx with rfl | hx
    ·rw[putL_length]; decide
    ·rw[List.mem_singleton.1 hx,hdC_len]; decide) (by omega)
  obtain⟨o1,o2⟩:=opn_seal ha
  refine⟨_,⟨e,if_pos e,if_pos e,?_⟩,?_⟩
  ·show (hdC k b.length++sealV (bif cl then chU K else chV K) (adX n (hdC k b.length)) b).length=_
   rw[sealV_ok ha,List.length_append,List.length_append,hdC_len,tagM_len,strS_len]; omega
  ·show rcE _ (hdC k b.length++sealV (bif cl then chU K else chV K) (adX n (hdC k b.length)) b)=0∧rcC _ (hdC k b.length++sealV (bif cl then chU K else chV K) (adX n (hdC k b.length)) b)=_∧rcK _ (hdC k b.length++sealV (bif cl then chU K else chV K) (adX n (hdC k b.length)) b)=k∧rcB _ (hdC k b.length++sealV (bif cl then chU K else chV K) (adX n (hdC k b.length)) b)=b
   have hl:(sealV (bif cl then chU K else chV K) (adX n (hdC k b.length)) b).length=b.length+16:=by rw[sealV_ok ha,List.length_append,tagM_len,strS_len]; omega
   rw[← sealV_ok ha] at o1 o2
   generalize sealV (bif cl then chU K else chV K) (adX n (hdC k b.length)) b=S at *
   obtain⟨t3,d3,c3,w3⟩:=hd_parts k b.length S
   have g3:getN (cutN (hdC k b.length++S) 1 2)=b.length+16:=by rw[c3,get_put 2 (by decide)]; omega
   have ll:(hdC k b.length++S).length=b.length+19:=by rw[List.length_append,hdC_len,hl]; omega
   have hx:rcX (chP (!cl) K m n) (hdC k b.length++S)=0:=by
     unfold rcX
     rw[t3,d3,kr]
     exact o1
   have pe:psE (hdC k b.length++S)=0:=by
     unfold psE
     rw[if_neg (by omega),if_neg (by omega),if_neg (by omega)]
   have e2:rcE (chP (!cl) K m n) (hdC k b.length++S)=0:=by
     unfold rcE
     rw[if_neg (not_not_intro (vd_P h h2 ⟨h1.1,by omega⟩)),if_neg (not_not_intro pe),if_neg (show ¬ (chP (!cl) K m n).m=1099511627776 from fun q=>absurd (show n=1099511627776 from q) (by omega)),if_pos hx]
   refine⟨e2,if_pos e2,?_,?_⟩
   ·unfold rcK
    rw[if_pos e2]
    rw[w3,UInt8.toNat_ofNat']
    omega
   ·unfold rcB
    rw[if_pos e2,t3,d3,kr]
    exact o2
end Go.Proofs.YtbkhllchjbjhgaaDoor
namespace Go.Proofs.YtbkhllchjbjhgaaDoor
open Go.RowKit IntWalk
set_option maxHeartbeats 1600000
def sUp:ByteArray:=⟨#[115,101,99,116,105,109,101,32,117,112]⟩
def sDn:ByteArray:=⟨#[115,101,99,116,105,109,101,32,100,111,119,110]⟩
def kyR (K:List UInt8):Nat→List D
  | 0=>[.sl [],.sl []]
  | 1=>[.sl ((chU K).map bD),.sl []]
  | _=>[.sl ((chU K).map bD),.sl ((chV K).map bD)]
def kySt (cl:Bool) (K:List UInt8) (i:Nat):St:=⟨ofL [(0,.w (.c (.d (.bool cl)))),(1,.w (.c (.d (.sl (K.map bD))))),(7,.w (.c (.pa 1 1))),(11,.w (.c (.d (.agg [.str sUp,.str sDn])))),(12,.w (.c (.d (.int .i64 (i:Int)))))],hL [(1,.row 1 (kyR K i))],uL [1]⟩
def lp_cks_0:SCode :=
 .seq (.reg [oO 13 (.bin .lss (.t 12) (kI 2))])
 (.seq (.cond (.t 13) (.skip)
 (.exit 0))
 (.seq (.block 1 (.seq (.reg [oM 14 12,
 oO 15 (.idxArr 1 2 .sc (.t 11) (.t 12)),
 oM 8 14,
 oM 9 15])
 (.reg [oM 17 8,
 oM 18 1,
 oM 19 9,
 oO 20 (.s2b false (.t 19)),
 oO 21 (.call 35 [(.t 18),(.t 20),(kI 32)] none),
 oM 16 21,
 oO 22 (.extract (.t 16) 0),
 oO 23 (.extract (.t 16) 1),
 oO 24 (.idxPa 1 2 (.t 7) (.t 17)),
 oN (.store .sc (.t 24) (.t 22))])))
 (.reg [oO 25 (.bin .add (.t 12) (kI 1)),
 oM 12 25])))
def sf_cks:SFn:=⟨2,35,
 .seq (.reg [oO 4 (.mv (.k (.c .nil))),
 oO 5 (.mv (.k (.c .nil)))])
 (.seq (.reg [oO 10 (.build [(.d (.str ⟨#[]⟩)),(.d (.str ⟨#[]⟩))] [(0,1,(.k (.c (.d (.str ⟨#[115,101,99,116,105,109,101,32,117,112]⟩))))),(1,1,(.k (.c (.d (.str ⟨#[115,101,99,116,105,109,101,32,100,111,119,110]⟩)))))]),
 oO 6 (.allocArr [(.str ⟨#[]⟩),(.str ⟨#[]⟩)]),
 oN (.store (.ag 2) (.t 6) (.t 10))])
 (.seq (.reg [oO 7 (.allocArr [(.sl []),(.sl [])])])
 (.seq (.seq (.reg [oO 11 (.load (.ag 2) (.t 6)),
 oO 12 (.mv (kI 0))])
 (.block 0 (.loop lp_cks_0)))
 (.seq (.seq (.reg [oM 26 0])
 (.cond (.t 26) (.seq (.reg [oO 27 (.idxPa 1 2 (.t 7) (kI 0)),
 oO 28 (.load .sc (.t 27)),
 oO 29 (.idxPa 1 2 (.t 7) (kI 1)),
 oO 30 (.load .sc (.t 29)),
 oM 4 28,
 oM 5 30])
 (.ret))
 (.skip)))
 (.seq (.reg [oO 31 (.idxPa 1 2 (.t 7) (kI 1)),
 oO 32 (.load .sc (.t 31)),
 oO 33 (.idxPa 1 2 (.t 7) (kI 0)),
 oO 34 (.load .sc (.t 33)),
 oM 4 32,
 oM 5 34])
 (.ret)))))),
 [(4,none),(5,none)]⟩
theorem cf_cks:compFn Tryd.prog { own:=[],comp:=[],frz:=[],nils:=[] } Tryd.f33=some sf_cks:=by kernel_rfl
theorem cks_c (G:Glob) (hF:G.at 0=some (.ra (firstK.map wD))) (hG:G.at 1=some (.ra (constK.map wD))) (cl:Bool) (K:List UInt8) (hK:K.length≤140737488355328):Den Tryd.prog G 33 [.bool cl,.sl (K.map bD)] (.tup [.c (.d (.sl ((chP cl K 0 0).sk.map bD))),.c (.d (.sl ((chP cl K 0 0).rk.map bD)))]):=by
  refine den_walk Tryd.func33 cf_cks rfl rfl ?_
  have s1:sUp.size≤maxLen:=by unfold maxLen; decide
  have s2:sDn.size≤maxLen:=by unfold maxLen; decide
  have c1:=exp_c G hF hG K sUp.data.toList hK (by decide) 32 (by decide) (by decide)
  have c2:=exp_c G hF hG K sDn.data.toList hK (by decide) 32 (by decide) (by decide)
  rw[show expL K sUp.data.toList 32=chU K from expL_in K strUp (by decide),expE_in (by decide)] at c1
  rw[show expL K sDn.data.toList 32=chV K from expL_in K strDn (by decide),expE_in (by decide)] at c2
  simp only[sf_cks,putAll,wal,stV,seval,iteOmega,toNatUp,reduceCtorEq]
  refine loop_st (kySt cl K) (fun i=>2-i) (fun i=>i≤2) 0 (by decide) ?_ ?_
  ·refine ent_l (fun i=>56) ?_ ?_ rfl rfl <;> simp only[wx,wex,wez,stV,seval,iteOmega,toNatUp,reduceCtorEq] <;> first | rfl | exact⟨rfl,rfl⟩ | skip
  ·intro i hi
   have h3:i=0∨i=1∨i=2:=by omega
   rcases h3 with rfl | rfl | rfl
   ·simp only[lp_cks_0,kySt,kyR,wal,stV,seval,iteOmega,toNatUp,reduceCtorEq,s1]
    refine sD (c1) ?_
    refine lop_next 1 (by decide) (by decide) (ent_l (fun i=>i) ?_ ?_ rfl rfl) <;> simp only[wx,wex,wez,stV,seval,iteOmega,toNatUp,reduceCtorEq] <;> first | rfl | exact⟨rfl,rfl⟩ | skip
   ·simp only[lp_cks_0,kySt,kyR,wal,stV,seval,iteOmega,toNatUp,reduceCtorEq,s2]
    refine sD (c2) ?_
    refine lop_next 2 (by decide) (by decide) (ent_l (fun i=>i) ?_ ?_ rfl rfl) <;> simp only[wx,wex,wez,stV,seval,iteOmega,toNatUp,reduceCtorEq] <;> first | rfl | exact⟨rfl,rfl⟩ | skip
   ·unfold chP
    cases cl
    ·rw[cond_false,cond_false]
     simp only[lp_cks_0,kySt,kyR,wal,stV,seval,iteOmega,toNatUp,reduceCtorEq]
     exact qd2
    ·rw[cond_true,cond_true]
     simp only[lp_cks_0,kySt,kyR,wal,stV,seval,iteOmega,toNatUp,reduceCtorEq]
     exact qd2
def sf_cen:SFn:=⟨2,18,
 .seq (.reg [oO 4 (.alloc [(.d (.bool false)),.nil,.nil,.nil,(.d (.int .i64 0)),(.d (.int .i64 0))])])
 (.seq (.reg [oM 8 0,
 oM 9 1,
 oO 10 (.call 33 [(.t 8),(.t 9)] none),
 oM 7 10,
 oO 11 (.extract (.t 7) 0),
 oO 12 (.extract (.t 7) 1),
 oM 5 11,
 oM 6 12])
 (.seq (.reg [oM 13 0,
 oM 14 1,
 oM 15 5,
 oM 16 6,
 oO 17 (.build [(.d (.bool false)),.nil,.nil,.nil,(.d (.int .i64 0)),(.d (.int .i64 0))] [(0,1,(.t 13)),(1,1,(.t 14)),(2,1,(.t 15)),(3,1,(.t 16))]),
 oN (.store (.ag 6) (.t 4) (.t 17))])
 (.ret))),
 [(4,(some (.ag 6)))]⟩
theorem cf_cen:compFn Tryd.prog { own:=[],comp:=[],frz:=[],nils:=[] } Tryd.f22=some sf_cen:=by kernel_rfl
theorem cen_c (G:Glob) (hF:G.at 0=some (.ra (firstK.map wD))) (hG:G.at 1=some (.ra (constK.map wD))) (cl:Bool) (K:List UInt8) (hK:K.length≤140737488355328):Den Tryd.prog G 22 [.bool cl,.sl (K.map bD)] (.w (.c (.d (chD (chP cl K 0 0))))):=by
  refine den_walk Tryd.func22 cf_cen rfl rfl ?_
  have c:=cks_c G hF hG cl K hK
  unfold chD
  generalize hs:(chP cl K 0 0).sk=S at *
  generalize hr:(chP cl K 0 0).rk=R at *
  rw[show (chP cl K 0 0).cl=cl from rfl,show (chP cl K 0 0).se=K from rfl,show (chP cl K 0 0).n=0 from rfl,show (chP cl K 0 0).m=0 from rfl]
  simp only[sf_cen,putAll,wal,stV,seval,iteOmega,toNatUp,reduceCtorEq]
  refine sD (c) ?_
  exact qd1
def ctB (n:Int):Bool:=decide (0≤n∧n≤1099511627776)
def sf_cct:SFn:=⟨1,9,
 .seq (.reg [oO 2 (.mv (.k (.c (.d (.bool false)))))])
 (.seq (.reg [oM 3 0,
 oO 4 (.bin .leq (kI 0) (.t 3)),
 oM 5 4,
 oG 6 (.mv (.t 0)) 5 true,
 oG 7 (.bin .leq (.t 6) (kI 1099511627776)) 5 true,
 oO 8 (.pick (.t 5) (.t 7) (.k (.c (.d (.bool false))))),
 oM 2 8])
 (.ret)),
 [(2,none)]⟩
theorem cf_cct:compFn Tryd.prog { own:=[],comp:=[],frz:=[],nils:=[] } Tryd.f32=some sf_cct:=by kernel_rfl
theorem cct_c (G:Glob) (n:Int):Den Tryd.prog G 32 [.int .i64 n] (.w (.c (.d (.bool (ctB n))))):=by
  refine den_walk Tryd.func32 cf_cct rfl rfl ?_
  unfold ctB
  by_cases h1:0≤n
  ·have g1:(0≤n)=True:=eq_true h1
   by_cases h2:n≤1099511627776
   ·have g2:(n≤1099511627776)=True:=eq_true h2
    rw[decide_eq_true (And.intro h1 h2)]
    simp only[sf_cct,putAll,wal,stV,seval,iteOmega,toNatUp,reduceCtorEq,g1,g2]
    exact qd1
   ·have g2:(n≤1099511627776)=False:=eq_false h2
    rw[decide_eq_false (fun h=>h2 h.2)]
    simp only[sf_cct,putAll,wal,stV,seval,iteOmega,toNatUp,reduceCtorEq,g1,g2]
    exact qd1
  ·have g1:(0≤n)=False:=eq_false h1
   rw[decide_eq_false (fun h=>h1 h.1)]
   simp only[sf_cct,putAll,wal,stV,seval,iteOmega,toNatUp,reduceCtorEq,g1]
   exact qd1
def sf_cbg:SFn:=⟨3,23,
 .seq (.reg [oO 6 (.alloc [(.d (.bool false)),.nil,.nil,.nil,(.d (.int .i64 0)),(.d (.int .i64 0))]),
 oO 7 (.mv (kI 0))])
 (.seq (.seq (.reg [oM 8 1,
 oO 9 (.len (.t 8)),
 oO 10 (.bin .lss (.t 9) (kI 16)),
 oM 11 10,
 oG 12 (.mv (.t 1)) 11 false,
 oG 13 (.len (.t 12)) 11 false,
 oG 14 (.bin .gtr (.t 13) (kI 65535)) 11 false,
 oO 15 (.pick (.t 11) (.k (.c (.d (.bool true)))) (.t 14))])
 (.cond (.t 15) (.seq (.reg [oO 16 (.build [(.d (.bool false)),.nil,.nil,.nil,(.d (.int .i64 0)),(.d (.int .i64 0))] []),
 oN (.store (.ag 6) (.t 6) (.t 16)),
 oO 7 (.mv (kI 5))])
 (.ret))
 (.skip)))
 (.seq (.reg [oM 17 0,
 oM 18 2,
 oO 19 (.call 37 [(.t 18)] none),
 oM 20 1,
 oO 21 (.call 23 [(.t 19),(.t 20)] none),
 oO 22 (.call 22 [(.t 17),(.t 21)] none),
 oN (.store (.ag 6) (.t 6) (.t 22)),
 oO 7 (.mv (kI 0))])
 (.ret))),
 [(6,(some (.ag 6))),(7,none)]⟩
theorem cf_cbg:compFn Tryd.prog { own:=[],comp:=[],frz:=[],nils:=[] } Tryd.f17=some sf_cbg:=by kernel_rfl
theorem cbg_c (G:Glob) (hF:G.at 0=some (.ra (firstK.map wD))) (hG:G.at 1=some (.ra (constK.map wD))) (cl:Bool) (s h:List UInt8) (hs:s.length≤9223372036854775807) (hh:h.length≤140737488355328):Den Tryd.prog G 17 [.bool cl,.sl (s.map bD),.sl (h.map bD)] (.tup [.c (.d (chD (bgC cl s h))),.c (.d (.int .i64 (bgE s)))]):=by
  refine den_walk Tryd.func17 cf_cbg rfl rfl ?_
  by_cases h1:s.length<16
  ·have e:bgE s=5:=if_pos (.inl h1)
   rw[show bgC cl s h=ch0 from if_neg (by rw[e]; decide),e]
   have g1:((s.length:Int)<16)=True:=eq_true (by omega)
   unfold chD ch0
   simp only[sf_cbg,putAll,wal,stV,seval,iteOmega,toNatUp,reduceCtorEq,g1]
   exact qd2
  ·have g1:((s.length:Int)<16)=False:=eq_false (by omega)
   by_cases h2:65535<s.length
   ·have e:bgE s=5:=if_pos (.inr h2)
    rw[show bgC cl s h=ch0 from if_neg (by rw[e]; decide),e]
    have g2:((s.length:Int)>65535)=True:=eq_true (by omega)
    unfold chD ch0
    simp only[sf_cbg,putAll,wal,stV,seval,iteOmega,toNatUp,reduceCtorEq,g1,g2]
    exact qd2
   ·have e:bgE s=0:=if_neg (by omega)
    rw[show bgC cl s h=chP cl (macK (sumK h) s) 0 0 from if_pos e,e]
    have g2:((s.length:Int)>65535)=False:=eq_false (by omega)
    have c1:=sum_c G hF hG h hh
    have c2:=ext_c G hF hG (sumK h) s (by rw[sumK_len]; decide) (by omega)
    have c3:=cen_c G hF hG cl (macK (sumK h) s) (by rw[macK_len]; decide)
    generalize chP cl (macK (sumK h) s) 0 0=C at *
    generalize macK (sumK h) s=M at *
    generalize sumK h=H at *
    unfold chD at *
    simp only[sf_cbg,putAll,wal,stV,seval,iteOmega,toNatUp,reduceCtorEq,g1,g2]
    refine sD (c1) ?_
    refine sD (c2) ?_
    refine sD (c3) ?_
    exact qd2
theorem vdb (c:Ch):decide (vdC c)=(decide (c.se.length=32)&&ctB c.n&&ctB c.m&&(c.sk==(chP c.cl c.se 0 0).sk)&&(c.rk==(chP c.cl c.se 0 0).rk)):=by
  rw[Bool.eq_iff_iff]
  unfold vdC ctB chP
  simp only[decide_eq_true_eq,Bool.and_eq_true,beq_iff_eq,and_assoc]
def sf_cvd:SFn:=⟨1,39,
 .seq (.reg [oO 1 (.box .roBox (.t 0)),
 oO 2 (.mv (.k (.c (.d (.bool false)))))])
 (.seq (.seq (.reg [oO 5 (.fieldAddr 1 (.t 1)),
 oO 6 (.load .sc (.t 5)),
 oO 7 (.len (.t 6)),
 oO 8 (.bin .neq (.t 7) (kI 32)),
 oM 9 8,
 oG 10 (.fieldAddr 4 (.t 1)) 9 false,
 oG 11 (.load .sc (.t 10)) 9 false,
 oG 12 (.call 32 [(.t 11)] none) 9 false,
 oG 13 (.un .not (.t 12)) 9 false,
 oO 14 (.pick (.t 9) (.k (.c (.d (.bool true)))) (.t 13)),
 oM 15 14,
 oG 16 (.fieldAddr 5 (.t 1)) 15 false,
 oG 17 (.load .sc (.t 16)) 15 false,
 oG 18 (.call 32 [(.t 17)] none) 15 false,
 oG 19 (.un .not (.t 18)) 15 false,
 oO 20 (.pick (.t 15) (.k (.c (.d (.bool true)))) (.t 19))])
 (.cond (.t 20) (.seq (.reg [oO 2 (.mv (.k (.c (.d (.bool false)))))])
 (.ret))
 (.skip)))
 (.seq (.reg [oO 22 (.fieldAddr 0 (.t 1)),
 oO 23 (.load .sc (.t 22)),
 oO 24 (.fieldAddr 1 (.t 1)),
 oO 25 (.load .sc (.t 24)),
 oO 26 (.call 33 [(.t 23),(.t 25)] none),
 oM 21 26,
 oO 27 (.extract (.t 21) 0),
 oO 28 (.extract (.t 21) 1),
 oM 3 27,
 oM 4 28])
 (.seq (.reg [oO 29 (.fieldAddr 2 (.t 1)),
 oO 30 (.load .sc (.t 29)),
 oM 31 3,
 oO 32 (.call 34 [(.t 30),(.t 31)] none),
 oM 33 32,
 oG 34 (.fieldAddr 3 (.t 1)) 33 true,
 oG 35 (.load .sc (.t 34)) 33 true,
 oG 36 (.mv (.t 4)) 33 true,
 oG 37 (.call 34 [(.t 35),(.t 36)] none) 33 true,
 oO 38 (.pick (.t 33) (.t 37) (.k (.c (.d (.bool false))))),
 oM 2 38])
 (.ret)))),
 [(2,none)]⟩
theorem cf_cvd:compFn Tryd.prog { own:=[],comp:=[],frz:=[],nils:=[] } Tryd.f14=some sf_cvd:=by kernel_rfl
theorem cvd_c (G:Glob) (hF:G.at 0=some (.ra (firstK.map wD))) (hG:G.at 1=some (.ra (constK.map wD))) (c:Ch):Den Tryd.prog G 14 [chD c] (.w (.c (.d (.bool (decide (vdC c)))))):=by
  refine den_walk Tryd.func14 cf_cvd rfl rfl ?_
  rw[vdb]
  have c1:=cct_c G c.n
  have c2:=cct_c G c.m
  by_cases h:c.se.length=32
  ·have g:(((c.se.length:Nat):Int)=32)=True:=eq_true (by omega)
   have c3:=cks_c G hF hG c.cl c.se (by omega)
   have c4:=same_c G c.sk (chP c.cl c.se 0 0).sk
   have c5:=same_c G c.rk (chP c.cl c.se 0 0).rk
   rw[decide_eq_true h]
   generalize (chP c.cl c.se 0 0).sk=S at *
   generalize (chP c.cl c.se 0 0).rk=R at *
   generalize (c.sk==S)=q1 at *
   generalize (c.rk==R)=q2 at *
   generalize ctB c.n=q3 at *
   generalize ctB c.m=q4 at *
   unfold chD
   cases q3
   ·simp only[sf_cvd,putAll,wal,stV,seval,iteOmega,toNatUp,reduceCtorEq,g]
    refine sD (c1) ?_
    exact qd1
   ·cases q4
    ·simp only[sf_cvd,putAll,wal,stV,seval,iteOmega,toNatUp,reduceCtorEq,g]
     refine sD (c1) ?_
     refine sD (c2) ?_
     exact qd1
    ·cases q1
     ·simp only[sf_cvd,putAll,wal,stV,seval,iteOmega,toNatUp,reduceCtorEq,g]
      refine sD (c1) ?_
      refine sD (c2) ?_
      refine sD (c3) ?_
      refine sD (c4) ?_
      exact qd1
     ·simp only[sf_cvd,putAll,wal,stV,seval,iteOmega,toNatUp,reduceCtorEq,g]
      refine sD (c1) ?_
      refine sD (c2) ?_
      refine sD (c3) ?_
      refine sD (c4) ?_
      refine sD (c5) ?_
      exact qd1
  ·have g:(((c.se.length:Nat):Int)=32)=False:=eq_false (by omega)
   rw[decide_eq_false h]
   unfold chD
   simp only[sf_cvd,putAll,wal,stV,seval,iteOmega,toNatUp,reduceCtorEq,g]
   exact qd1
def sf_crn:SFn:=⟨2,26,
 .seq (.reg [oO 2 (.box .roBox (.t 0)),
 oO 4 (.alloc [(.d (.bool false)),.nil,.nil,.nil,(.d (.int .i64 0)),(.d (.int .i64 0))]),
 oO 5 (.mv (kI 0))])
 (.seq (.seq (.reg [oO 6 (.load (.ag 6) (.t 2)),
 oO 7 (.call 14 [(.t 6)] none),
 oO 8 (.un .not (.t 7))])
 (.cond (.t 8) (.seq (.reg [oO 9 (.build [(.d (.bool false)),.nil,.nil,.nil,(.d (.int .i64 0)),(.d (.int .i64 0))] []),
 oN (.store (.ag 6) (.t 4) (.t 9)),
 oO 5 (.mv (kI 3))])
 (.ret))
 (.skip)))
 (.seq (.seq (.reg [oM 10 1,
 oO 11 (.len (.t 10)),
 oO 12 (.bin .lss (.t 11) (kI 16)),
 oM 13 12,
 oG 14 (.mv (.t 1)) 13 false,
 oG 15 (.len (.t 14)) 13 false,
 oG 16 (.bin .gtr (.t 15) (kI 64)) 13 false,
 oO 17 (.pick (.t 13) (.k (.c (.d (.bool true)))) (.t 16))])
 (.cond (.t 17) (.seq (.reg [oO 18 (.build [(.d (.bool false)),.nil,.nil,.nil,(.d (.int .i64 0)),(.d (.int .i64 0))] []),
 oN (.store (.ag 6) (.t 4) (.t 18)),
 oO 5 (.mv (kI 5))])
 (.ret))
 (.skip)))
 (.seq (.reg [oO 19 (.fieldAddr 0 (.t 2)),
 oO 20 (.load .sc (.t 19)),
 oM 21 1,
 oO 22 (.fieldAddr 1 (.t 2)),
 oO 23 (.load .sc (.t 22)),
 oO 24 (.call 23 [(.t 21),(.t 23)] none),
 oO 25 (.call 22 [(.t 20),(.t 24)] none),
 oN (.store (.ag 6) (.t 4) (.t 25)),
 oO 5 (.mv (kI 0))])
 (.ret)))),
 [(4,(some (.ag 6))),(5,none)]⟩
theorem cf_crn:compFn Tryd.prog { own:=[],comp:=[],frz:=[],nils:=[] } Tryd.f10=some sf_crn:=by kernel_rfl
theorem crn_c (G:Glob) (hF:G.at 0=some (.ra (firstK.map wD))) (hG:G.at 1=some (.ra (constK.map wD))) (c:Ch) (f:List UInt8) (hf:f.length≤9223372036854775807):Den Tryd.prog G 10 [chD c,.sl (f.map bD)] (.tup [.c (.d (chD (rnC c f))),.c (.d (.int .i64 (rnE c f)))]):=by
  refine den_walk Tryd.func10 cf_crn rfl rfl ?_
  have c1:=cvd_c G hF hG c
  by_cases h:vdC c
  ·rw[decide_eq_true h] at c1
   by_cases h1:f.length<16
   ·have e:rnE c f=5:=by unfold rnE; rw[if_neg (not_not_intro h),if_pos (.inl h1)]
    rw[show rnC c f=ch0 from if_neg (by rw[e]; decide),e]
    have g1:((f.length:Int)<16)=True:=eq_true (by omega)
    unfold chD ch0 at *
    simp only[sf_crn,putAll,wal,stV,seval,iteOmega,toNatUp,reduceCtorEq,g1]
    refine sC (c1) ?_
    simp only[g1,wal,stV,seval,iteOmega,toNatUp,reduceCtorEq]
    exact qd2
   ·have g1:((f.length:Int)<16)=False:=eq_false (by omega)
    by_cases h2:64<f.length
    ·have e:rnE c f=5:=by unfold rnE; rw[if_neg (not_not_intro h),if_pos (.inr h2)]
     rw[show rnC c f=ch0 from if_neg (by rw[e]; decide),e]
     have g2:((f.length:Int)>64)=True:=eq_true (by omega)
     unfold chD ch0 at *
     simp only[sf_crn,putAll,wal,stV,seval,iteOmega,toNatUp,reduceCtorEq,g1]
     refine sC (c1) ?_
     simp only[g1,g2,wal,stV,seval,iteOmega,toNatUp,reduceCtorEq]
     exact qd2
    ·have g2:((f.length:Int)>64)=False:=eq_false (by omega)
     have e:rnE c f=0:=by unfold rnE; rw[if_neg (not_not_intro h),if_neg (by omega)]
     rw[show rnC c f=chP c.cl (macK f c.se) 0 0 from if_pos e,e]
     have c2:=ext_c G hF hG f c.se (by omega) (by rw[h.1]; decide)
     have c3:=cen_c G hF hG c.cl (macK f c.se) (by rw[macK_len]; decide)
     generalize chP c.cl (macK f c.se) 0 0=C at *
     generalize macK f c.se=M at *
     unfold chD at *
     simp only[sf_crn,putAll,wal,stV,seval,iteOmega,toNatUp,reduceCtorEq,g1]
     refine sC (c1) ?_
     simp only[g1,g2,wal,stV,seval,iteOmega,toNatUp,reduceCtorEq]
     refine sD (c2) ?_
     refine sD (c3) ?_
     exact qd2
  ·rw[decide_eq_false h] at c1
   have e:rnE c f=3:=if_pos h
   rw[show rnC c f=ch0 from if_neg (by rw[e]; decide),e]
   unfold chD ch0 at *
   simp only[sf_crn,putAll,wal,stV,seval,iteOmega,toNatUp,reduceCtorEq]
   refine sD (c1) ?_
   exact qd2
end Go.Proofs.YtbkhllchjbjhgaaDoor
namespace Go.Proofs.YtbkhllchjbjhgaaDoor
open Go.RowKit IntWalk
set_option maxHeartbeats 1600000
def sf_cad:SFn:=⟨2,10,
 .seq (.reg [oO 4 (.mv (.k (.c .nil)))])
 (.seq (.reg [oM 5 0,
 oO 6 (.conv .u64 (.t 5)),
 oO 7 (.call 25 [(.t 6),(kI 8)] none),
 oM 8 1,
 oO 9 (.bldSl false 2 1 (.sl []) [(0,(.t 7)),(1,(.t 8))]),
 oM 4 9])
 (.ret)),
 [(4,none)]⟩
theorem cf_cad:compFn Tryd.prog { own:=[],comp:=[],frz:=[],nils:=[] } Tryd.f27=some sf_cad:=by kernel_rfl
theorem cad_c (G:Glob) (n:Int) (h:List UInt8) (hn:0≤n∧n≤9223372036854775807):Den Tryd.prog G 27 [.int .i64 n,.sl (h.map bD)] (.w (.c (.d (sls (adX n h))))):=by
  refine den_walk Tryd.func27 cf_cad rfl rfl ?_
  obtain⟨a,rfl⟩:=Int.eq_ofNat_of_zero_le hn.1
  have c:=putk_c G a 8 (by decide)
  rw[show (8:Int).toNat=8 from rfl] at c
  unfold adX sls
  rw[show ((a:Nat):Int).toNat=a from rfl]
  generalize putL a 8=P at *
  simp only[sf_cad,putAll,wal,stV,seval,iteOmega,toNatUp,reduceCtorEq,List.map_cons,List.map_nil]
  refine sD (c) ?_
  exact qd1
def sf_cbh:SFn:=⟨3,30,
 .seq (.reg [oO 3 (.box .roBox (.t 0)),
 oO 6 (.alloc [(.d (.bool false)),.nil,.nil,.nil,(.d (.int .i64 0)),(.d (.int .i64 0))])])
 (.seq (.reg [oO 7 (.fieldAddr 0 (.t 3)),
 oO 8 (.load .sc (.t 7)),
 oO 9 (.fieldAddr 1 (.t 3)),
 oO 10 (.load .sc (.t 9)),
 oO 11 (.bldSl false 1 1 (.sl []) [(0,(.t 10))]),
 oO 12 (.call 24 [(.t 11)] none),
 oO 13 (.fieldAddr 2 (.t 3)),
 oO 14 (.load .sc (.t 13)),
 oO 15 (.bldSl false 1 1 (.sl []) [(0,(.t 14))]),
 oO 16 (.call 24 [(.t 15)] none),
 oO 17 (.fieldAddr 3 (.t 3)),
 oO 18 (.load .sc (.t 17)),
 oO 19 (.bldSl false 1 1 (.sl []) [(0,(.t 18))]),
 oO 20 (.call 24 [(.t 19)] none),
 oO 21 (.fieldAddr 4 (.t 3)),
 oO 22 (.load .sc (.t 21)),
 oM 23 1,
 oO 24 (.bin .add (.t 22) (.t 23)),
 oO 25 (.fieldAddr 5 (.t 3)),
 oO 26 (.load .sc (.t 25)),
 oM 27 2,
 oO 28 (.bin .add (.t 26) (.t 27)),
 oO 29 (.build [(.d (.bool false)),.nil,.nil,.nil,(.d (.int .i64 0)),(.d (.int .i64 0))] [(0,1,(.t 8)),(1,1,(.t 12)),(2,1,(.t 16)),(3,1,(.t 20)),(4,1,(.t 24)),(5,1,(.t 28))]),
 oN (.store (.ag 6) (.t 6) (.t 29))])
 (.ret)),
 [(6,(some (.ag 6)))]⟩
theorem cf_cbh:compFn Tryd.prog { own:=[],comp:=[],frz:=[],nils:=[] } Tryd.f28=some sf_cbh:=by kernel_rfl
theorem cbh_c (G:Glob) (c:Ch) (x y:Int) (h1:c.se.length≤140737488355328) (h2:c.sk.length≤140737488355328) (h3:c.rk.length≤140737488355328) (h4:0≤c.n∧c.n≤1099511627776) (h5:0≤c.m∧c.m≤1099511627776) (hx:0≤x∧x≤1) (hy:0≤y∧y≤1):Den Tryd.prog G 28 [chD c,.int .i64 x,.int .i64 y] (.w (.c (.d (chD ⟨c.cl,c.se,c.sk,c.rk,c.n+x,c.m+y⟩)))):=by
  refine den_walk Tryd.func28 cf_cbh rfl rfl ?_
  have c1:=join_c G [c.se] (by simp) (by simp; omega)
  have c2:=join_c G [c.sk] (by simp) (by simp; omega)
  have c3:=join_c G [c.rk] (by simp) (by simp; omega)
  simp only[List.map_cons,List.map_nil,List.flatten_cons,List.flatten_nil,List.append_nil] at c1 c2 c3
  obtain⟨cl,se,sk,rk,n,m⟩:=c
  dsimp only at *
  unfold chD
  dsimp only
  simp only[sf_cbh,putAll,wal,stV,seval,iteOmega,toNatUp,reduceCtorEq]
  refine sD (c1) ?_
  refine sD (c2) ?_
  refine sD (c3) ?_
  exact qd1
def sf_cpt:SFn:=⟨1,33,
 .seq (.reg [oO 2 (.mv (.k (.c .nil))),
 oO 3 (.mv (.k (.c .nil))),
 oO 4 (.mv (kI 0))])
 (.seq (.reg [oM 8 0,
 oO 9 (.call 47 [(.t 8),(kI 3)] none),
 oM 7 9,
 oO 10 (.extract (.t 7) 0),
 oO 11 (.extract (.t 7) 1),
 oO 12 (.extract (.t 7) 2),
 oM 2 10,
 oM 3 11,
 oM 5 12])
 (.seq (.seq (.reg [oM 13 5,
 oO 14 (.un .not (.t 13))])
 (.cond (.t 14) (.seq (.reg [oO 2 (.mv (.k (.c .nil))),
 oO 3 (.mv (.k (.c .nil))),
 oO 4 (.mv (kI 1))])
 (.ret))
 (.skip)))
 (.seq (.reg [oM 15 2,
 oO 16 (.slice 1 (.t 15) (some (kI 1)) none none),
 oO 17 (.call 31 [(.t 16)] none),
 oO 18 (.conv .i64 (.t 17)),
 oM 6 18])
 (.seq (.seq (.reg [oM 19 3,
 oO 20 (.len (.t 19)),
 oM 21 6,
 oO 22 (.bin .lss (.t 20) (.t 21))])
 (.cond (.t 22) (.seq (.reg [oO 2 (.mv (.k (.c .nil))),
 oO 3 (.mv (.k (.c .nil))),
 oO 4 (.mv (kI 1))])
 (.ret))
 (.skip)))
 (.seq (.seq (.reg [oM 23 3,
 oO 24 (.len (.t 23)),
 oM 25 6,
 oO 26 (.bin .gtr (.t 24) (.t 25)),
 oM 27 26,
 oG 28 (.mv (.t 6)) 27 false,
 oG 29 (.bin .gtr (.t 28) (kI 16400)) 27 false,
 oO 30 (.pick (.t 27) (.k (.c (.d (.bool true)))) (.t 29))])
 (.cond (.t 30) (.seq (.reg [oO 2 (.mv (.k (.c .nil))),
 oO 3 (.mv (.k (.c .nil))),
 oO 4 (.mv (kI 2))])
 (.ret))
 (.skip)))
 (.seq (.reg [oM 31 2,
 oM 32 3,
 oM 2 31,
 oM 3 32,
 oO 4 (.mv (kI 0))])
 (.ret))))))),
 [(2,none),(3,none),(4,none)]⟩
theorem cf_cpt:compFn Tryd.prog { own:=[],comp:=[],frz:=[],nils:=[] } Tryd.f29=some sf_cpt:=by kernel_rfl
theorem cpt_c (G:Glob) (r:List UInt8) (hr:r.length≤1099511627776):Den Tryd.prog G 29 [.sl (r.map bD)] (.tup [.c (.d (.sl ((if psE r=0 then r.take 3 else []).map bD))),.c (.d (.sl ((if psE r=0 then r.drop 3 else []).map bD))),.c (.d (.int .i64 (psE r)))]):=by
  refine den_walk Tryd.func29 cf_cpt rfl rfl ?_
  by_cases h1:r.length<3
  ·have e:psE r=1:=if_pos h1
   rw[e,if_neg (by decide),if_neg (by decide)]
   have c1:=cut_no G r 3 (.inr (by omega))
   simp only[sf_cpt,putAll,wal,stV,seval,iteOmega,toNatUp,reduceCtorEq]
   refine sD (c1) ?_
   exact qd3
  ·have c1:=cut_in G r 3 (by omega) hr
   have e1:(r.take 3).drop 1=cutN r 1 2:=by unfold cutN; rw[List.drop_take]
   have l1:(cutN r 1 2).length=2:=cutN_len (by omega)
   have t1:(cutN r 1 2).take 2=cutN r 1 2:=List.take_of_length_le (by omega)
   have c2:=get_c G (cutN r 1 2) (by omega)
   have b2:=(getN_lt_pow 2 (cutN r 1 2) l1 (by decide)).1
   have hl:(r.drop 3).length=r.length-3:=List.length_drop
   have l3:(r.take 3).length=3:=by simp; omega
   have pe:psE r=if r.length-3<getN (cutN r 1 2) then 1 else if getN (cutN r 1 2)<r.length-3∨16400<getN (cutN r 1 2) then 2 else 0:=if_neg h1
   rw[← hl] at pe
   generalize getN (cutN r 1 2)=N at *
   generalize r.drop 3=S at *
   generalize hH:r.take 3=H at *
   by_cases h2:S.length<N
   ·rw[if_pos h2] at pe
    rw[pe,if_neg (by decide),if_neg (by decide)]
    have g2:((S.length:Int)<(N:Int))=True:=eq_true (by omega)
    simp only[sf_cpt,putAll,wal,stV,seval,iteOmega,toNatUp,reduceCtorEq]
    refine sC (c1) ?_
    simp only[l3,e1,l1,t1,wal,stV,seval,iteOmega,toNatUp,reduceCtorEq]
    refine sC (c2) ?_
    simp only[g2,wal,stV,seval,iteOmega,toNatUp,reduceCtorEq]
    exact qd3
   ·rw[if_neg h2] at pe
    have g2:((S.length:Int)<(N:Int))=False:=eq_false (by omega)
    by_cases h3:N<S.length
    ·rw[if_pos (.inl h3)] at pe
     rw[pe,if_neg (by decide),if_neg (by decide)]
     have g3:((S.length:Int)>(N:Int))=True:=eq_true (by omega)
     simp only[sf_cpt,putAll,wal,stV,seval,iteOmega,toNatUp,reduceCtorEq]
     refine sC (c1) ?_
     simp only[l3,e1,l1,t1,wal,stV,seval,iteOmega,toNatUp,reduceCtorEq]
     refine sC (c2) ?_
     simp only[g2,g3,wal,stV,seval,iteOmega,toNatUp,reduceCtorEq]
     exact qd3
    ·have g3:((S.length:Int)>(N:Int))=False:=eq_false (by omega)
     by_cases h4:16400<N
     ·rw[if_pos (.inr h4)] at pe
      rw[pe,if_neg (by decide),if_neg (by decide)]
      have g4:((N:Int)>16400)=True:=eq_true (by omega)
      simp only[sf_cpt,putAll,wal,stV,seval,iteOmega,toNatUp,reduceCtorEq]
      refine sC (c1) ?_
      simp only[l3,e1,l1,t1,wal,stV,seval,iteOmega,toNatUp,reduceCtorEq]
      refine sC (c2) ?_
      simp only[g2,g3,g4,wal,stV,seval,iteOmega,toNatUp,reduceCtorEq]
      exact qd3
     ·rw[if_neg (by omega)] at pe
      rw[pe,if_pos rfl,if_pos rfl]
      have g4:((N:Int)>16400)=False:=eq_false (by omega)
      simp only[sf_cpt,putAll,wal,stV,seval,iteOmega,toNatUp,reduceCtorEq]
      refine sC (c1) ?_
      simp only[l3,e1,l1,t1,wal,stV,seval,iteOmega,toNatUp,reduceCtorEq]
      refine sC (c2) ?_
      simp only[g2,g3,g4,wal,stV,seval,iteOmega,toNatUp,reduceCtorEq]
      exact qd3
theorem sd_no {c:Ch} {k:Int} {b:List UInt8} {e:Int} (h:sdE c k b=e) (he:e≠0):sdC c k b=ch0∧sdR c k b=[]:=⟨if_neg (by rw[h]; exact he),if_neg (by rw[h]; exact he)⟩
def sf_csd:SFn:=⟨3,58,
 .seq (.reg [oO 3 (.box .roBox (.t 0)),
 oO 6 (.alloc [(.d (.bool false)),.nil,.nil,.nil,(.d (.int .i64 0)),(.d (.int .i64 0))]),
 oO 7 (.mv (.k (.c .nil))),
 oO 8 (.mv (kI 0))])
 (.seq (.seq (.reg [oO 12 (.load (.ag 6) (.t 3)),
 oO 13 (.call 14 [(.t 12)] none),
 oO 14 (.un .not (.t 13))])
 (.cond (.t 14) (.seq (.reg [oO 15 (.build [(.d (.bool false)),.nil,.nil,.nil,(.d (.int .i64 0)),(.d (.int .i64 0))] []),
 oN (.store (.ag 6) (.t 6) (.t 15)),
 oO 7 (.mv (.k (.c .nil))),
 oO 8 (.mv (kI 3))])
 (.ret))
 (.skip)))
 (.seq (.seq (.reg [oM 16 1,
 oO 17 (.bin .lss (.t 16) (kI 0)),
 oM 18 17,
 oG 19 (.mv (.t 1)) 18 false,
 oG 20 (.bin .geq (.t 19) (kI 256)) 18 false,
 oO 21 (.pick (.t 18) (.k (.c (.d (.bool true)))) (.t 20))])
 (.cond (.t 21) (.seq (.reg [oO 22 (.build [(.d (.bool false)),.nil,.nil,.nil,(.d (.int .i64 0)),(.d (.int .i64 0))] []),
 oN (.store (.ag 6) (.t 6) (.t 22)),
 oO 7 (.mv (.k (.c .nil))),
 oO 8 (.mv (kI 4))])
 (.ret))
 (.skip)))
 (.seq (.seq (.reg [oM 23 2,
 oO 24 (.len (.t 23)),
 oO 25 (.bin .gtr (.t 24) (kI 16384))])
 (.cond (.t 25) (.seq (.reg [oO 26 (.build [(.d (.bool false)),.nil,.nil,.nil,(.d (.int .i64 0)),(.d (.int .i64 0))] []),
 oN (.store (.ag 6) (.t 6) (.t 26)),
 oO 7 (.mv (.k (.c .nil))),
 oO 8 (.mv (kI 2))])
 (.ret))
 (.skip)))
 (.seq (.seq (.reg [oO 27 (.fieldAddr 4 (.t 3)),
 oO 28 (.load .sc (.t 27)),
 oO 29 (.bin .eql (.t 28) (kI 1099511627776))])
 (.cond (.t 29) (.seq (.reg [oO 30 (.build [(.d (.bool false)),.nil,.nil,.nil,(.d (.int .i64 0)),(.d (.int .i64 0))] []),
 oN (.store (.ag 6) (.t 6) (.t 30)),
 oO 7 (.mv (.k (.c .nil))),
 oO 8 (.mv (kI 7))])
 (.ret))
 (.skip)))
 (.seq (.reg [oM 31 1,
 oO 32 (.conv .u64 (.t 31)),
 oO 33 (.call 25 [(.t 32),(kI 1)] none),
 oM 34 2,
 oO 35 (.len (.t 34)),
 oO 36 (.bin .add (.t 35) (kI 16)),
 oO 37 (.conv .u64 (.t 36)),
 oO 38 (.call 25 [(.t 37),(kI 2)] none),
 oO 39 (.bldSl false 2 1 (.sl []) [(0,(.t 33)),(1,(.t 38))]),
 oO 40 (.call 24 [(.t 39)] none),
 oM 9 40])
 (.seq (.reg [oO 42 (.fieldAddr 2 (.t 3)),
 oO 43 (.load .sc (.t 42)),
 oO 44 (.fieldAddr 4 (.t 3)),
 oO 45 (.load .sc (.t 44)),
 oM 46 9,
 oO 47 (.call 27 [(.t 45),(.t 46)] none),
 oM 48 2,
 oO 49 (.call 26 [(.t 43),(.t 47),(.t 48)] none),
 oM 41 49,
 oO 50 (.extract (.t 41) 0),
 oO 51 (.extract (.t 41) 1),
 oM 10 50,
 oM 11 51])
 (.seq (.reg [oO 52 (.load (.ag 6) (.t 3)),
 oO 53 (.call 28 [(.t 52),(kI 1),(kI 0)] none),
 oM 54 9,
 oM 55 10,
 oO 56 (.bldSl false 2 1 (.sl []) [(0,(.t 54)),(1,(.t 55))]),
 oO 57 (.call 24 [(.t 56)] none),
 oN (.store (.ag 6) (.t 6) (.t 53)),
 oM 7 57,
 oO 8 (.mv (kI 0))])
 (.ret)))))))),
 [(6,(some (.ag 6))),(7,none),(8,none)]⟩
theorem cf_csd:compFn Tryd.prog { own:=[],comp:=[],frz:=[],nils:=[] } Tryd.f11=some sf_csd:=by kernel_rfl
theorem csd_c (G:Glob) (hF:G.at 0=some (.ra (firstK.map wD))) (hG:G.at 1=some (.ra (constK.map wD))) (c:Ch) (k:Int) (b:List UInt8) (hb:b.length≤9223372036854775807):Den Tryd.prog G 11 [chD c,.int .i64 k,.sl (b.map bD)] (.tup [.c (.d (chD (sdC c k b))),.c (.d (.sl ((sdR c k b).map bD))),.c (.d (.int .i64 (sdE c k b)))]):=by
  refine den_walk Tryd.func11 cf_csd rfl rfl ?_
  have c1:=cvd_c G hF hG c
  by_cases h:vdC c
  ·rw[decide_eq_true h] at c1
   by_cases k1:k<0
   ·have g1:(k<0)=True:=eq_true k1
    have e:sdE c k b=4:=by unfold sdE; rw[if_neg (not_not_intro h),if_pos (.inl k1)]
    obtain⟨q1,q2⟩:=sd_no e (by decide)
    rw[q1,q2,e]
    unfold chD ch0 at *
    simp only[sf_csd,putAll,wal,stV,seval,iteOmega,toNatUp,reduceCtorEq]
    refine sC (c1) ?_
    simp only[g1,wal,stV,seval,iteOmega,toNatUp,reduceCtorEq]
    exact qd3
   ·have g1:(k<0)=False:=eq_false k1
    by_cases k2:255<k
    ·have g2:(k≥256)=True:=eq_true (by omega)
     have e:sdE c k b=4:=by unfold sdE; rw[if_neg (not_not_intro h),if_pos (.inr k2)]
     obtain⟨q1,q2⟩:=sd_no e (by decide)
     rw[q1,q2,e]
     unfold chD ch0 at *
     simp only[sf_csd,putAll,wal,stV,seval,iteOmega,toNatUp,reduceCtorEq]
     refine sC (c1) ?_
     simp only[g1,g2,wal,stV,seval,iteOmega,toNatUp,reduceCtorEq]
     exact qd3
    ·have g2:(k≥256)=False:=eq_false (by omega)
     by_cases h3:16384<b.length
     ·have g3:((b.length:Int)>16384)=True:=eq_true (by omega)
      have e:sdE c k b=2:=by unfold sdE; rw[if_neg (not_not_intro h),if_neg (by omega),if_pos h3]
      obtain⟨q1,q2⟩:=sd_no e (by decide)
      rw[q1,q2,e]
      unfold chD ch0 at *
      simp only[sf_csd,putAll,wal,stV,seval,iteOmega,toNatUp,reduceCtorEq]
      refine sC (c1) ?_
      simp only[g1,g2,g3,wal,stV,seval,iteOmega,toNatUp,reduceCtorEq]
      exact qd3
     ·have g3:((b.length:Int)>16384)=False:=eq_false (by omega)
      by_cases h4:c.n=1099511627776
      ·have g4:(c.n=1099511627776)=True:=eq_true h4
       have e:sdE c k b=7:=by unfold sdE; rw[if_neg (not_not_intro h),if_neg (by omega),if_neg h3,if_pos h4]
       obtain⟨q1,q2⟩:=sd_no e (by decide)
       rw[q1,q2,e]
       unfold chD ch0 at *
       simp only[sf_csd,putAll,wal,stV,seval,iteOmega,toNatUp,reduceCtorEq]
       refine sC (c1) ?_
       simp only[g1,g2,g3,g4,wal,stV,seval,iteOmega,toNatUp,reduceCtorEq]
       exact qd3
      ·have g4:(c.n=1099511627776)=False:=eq_false h4
       have e:sdE c k b=0:=by unfold sdE; rw[if_neg (not_not_intro h),if_neg (by omega),if_neg h3,if_neg h4]
       rw[show sdC c k b=_ from if_pos e,show sdR c k b=_ from if_pos e,e]
       obtain⟨a,ha⟩:=Int.eq_ofNat_of_zero_le (show 0≤k by omega)
       have ha:k=(a:Int):=ha
       subst ha
       have c2:=putk_c G a 1 (by decide)
       have c3:=putk_c G (b.length+16) 2 (by decide)
       rw[show (1:Int).toNat=1 from rfl] at c2
       rw[show (2:Int).toNat=2 from rfl] at c3
       have c4:=join_c G [putL a 1,putL (b.length+16) 2] (by simp) (by simp[putL_length])
       rw[show [putL a 1,putL (b.length+16) 2].flatten=hdC (a:Int) b.length from by simp[hdC,put1]] at c4
       have c5:=cad_c G c.n (hdC (a:Int) b.length) (by have:=h.2.1; omega)
       have c6:=seal_c G c.sk (adX c.n (hdC (a:Int) b.length)) b (by rw[vd_sk h]; decide) (show (2:Nat)≤_ by decide) (fun x hx=>by
         rcases List.mem_cons.1 hx with rfl | hx
         ·rw[putL_length]; decide
         ·rw[List.mem_singleton.1 hx,hdC_len]; decide) (by omega)
       have c7:=cbh_c G c 1 0 (by rw[h.1]; decide) (by rw[vd_sk h]; decide) (by rw[vd_rk h]; decide) h.2.1 h.2.2.1 (by decide) (by decide)
       rw[Int.add_zero] at c7
       have hl:(sealV c.sk (adX c.n (hdC (a:Int) b.length)) b).length≤20000:=by
         unfold sealV
         split
         ·rw[List.length_append,tagM_len,strS_len]; omega
         ·exact Nat.zero_le _
       have c8:=join_c G [hdC (a:Int) b.length,sealV c.sk (adX c.n (hdC (a:Int) b.length)) b] (by simp) (by simp[hdC_len]; omega)
       rw[show [hdC (a:Int) b.length,sealV c.sk (adX c.n (hdC (a:Int) b.length)) b].flatten=hdC (a:Int) b.length++sealV c.sk (adX c.n (hdC (a:Int) b.length)) b from by simp] at c8
       simp only[List.map_cons,List.map_nil] at c4 c8
       generalize sealV c.sk (adX c.n (hdC (a:Int) b.length)) b=S at *
       generalize aeE c.sk (adX c.n (hdC (a:Int) b.length)) b.length=q at *
       generalize sls (adX c.n (hdC (a:Int) b.length))=A at *
       generalize hdC (a:Int) b.length=H at *
       generalize putL a 1=P1 at *
       generalize putL (b.length+16) 2=P2 at *
       unfold chD at *
       dsimp only at c7
       dsimp only
       simp only[sf_csd,putAll,wal,stV,seval,iteOmega,toNatUp,reduceCtorEq]
       refine sC (c1) ?_
       simp only[g1,g2,g3,g4,wal,stV,seval,iteOmega,toNatUp,reduceCtorEq]
       refine sD (c2) ?_
       refine sD (c3) ?_
       refine sD (c4) ?_
       refine sD (c5) ?_
       refine sD (c6) ?_
       refine sD (c7) ?_
       refine sD (c8) ?_
       exact qd3
  ·rw[decide_eq_false h] at c1
   have e:sdE c k b=3:=if_pos h
   obtain⟨q1,q2⟩:=sd_no e (by decide)
   rw[q1,q2,e]
   unfold chD ch0 at *
   simp only[sf_csd,putAll,wal,stV,seval,iteOmega,toNatUp,reduceCtorEq]
   refine sD (c1) ?_
   exact qd3
theorem rc_no {c:Ch} {r:List UInt8} {e:Int} (h:rcE c r=e) (he:e≠0):rcC c r=ch0∧rcK c r=0∧rcB c r=[]:=⟨if_neg (by rw[h]; exact he),if_neg (by rw[h]; exact he),if_neg (by rw[h]; exact he)⟩
theorem ps_len {r:List UInt8} (h:psE r=0):3≤r.length∧r.length≤16403:=by
  unfold psE at h
  by_cases h1:r.length<3
  ·rw[if_pos h1] at h; exact absurd h (by decide)
  ·rw[if_neg h1] at h
   by_cases h2:r.length-3<getN (cutN r 1 2)
   ·rw[if_pos h2] at h; exact absurd h (by decide)
   ·rw[if_neg h2] at h
    by_cases h3:getN (cutN r 1 2)<r.length-3∨16400<getN (cutN r 1 2)
    ·rw[if_pos h3] at h; exact absurd h (by decide)
    ·omega
theorem head1 {r:List UInt8} (h:3≤r.length):(r.take 3).take 1=[r.getD 0 0]:=by
  match r,h with
  | a::b::c::l,_=>rfl
def sf_crc:SFn:=⟨2,49,
 .seq (.reg [oO 2 (.box .roBox (.t 0)),
 oO 4 (.alloc [(.d (.bool false)),.nil,.nil,.nil,(.d (.int .i64 0)),(.d (.int .i64 0))]),
 oO 5 (.mv (kI 0)),
 oO 6 (.mv (.k (.c .nil))),
 oO 7 (.mv (kI 0))])
 (.seq (.seq (.reg [oO 10 (.load (.ag 6) (.t 2)),
 oO 11 (.call 14 [(.t 10)] none),
 oO 12 (.un .not (.t 11))])
 (.cond (.t 12) (.seq (.reg [oO 13 (.build [(.d (.bool false)),.nil,.nil,.nil,(.d (.int .i64 0)),(.d (.int .i64 0))] []),
 oN (.store (.ag 6) (.t 4) (.t 13)),
 oO 5 (.mv (kI 0)),
 oO 6 (.mv (.k (.c .nil))),
 oO 7 (.mv (kI 3))])
 (.ret))
 (.skip)))
 (.seq (.reg [oM 15 1,
 oO 16 (.call 29 [(.t 15)] none),
 oM 14 16,
 oO 17 (.extract (.t 14) 0),
 oO 18 (.extract (.t 14) 1),
 oO 19 (.extract (.t 14) 2),
 oM 8 17,
 oM 9 18,
 oM 7 19])
 (.seq (.seq (.reg [oM 20 7,
 oO 21 (.bin .neq (.t 20) (kI 0))])
 (.cond (.t 21) (.seq (.reg [oO 22 (.build [(.d (.bool false)),.nil,.nil,.nil,(.d (.int .i64 0)),(.d (.int .i64 0))] []),
 oM 23 7,
 oN (.store (.ag 6) (.t 4) (.t 22)),
 oO 5 (.mv (kI 0)),
 oO 6 (.mv (.k (.c .nil))),
 oM 7 23])
 (.ret))
 (.skip)))
 (.seq (.seq (.reg [oO 24 (.fieldAddr 5 (.t 2)),
 oO 25 (.load .sc (.t 24)),
 oO 26 (.bin .eql (.t 25) (kI 1099511627776))])
 (.cond (.t 26) (.seq (.reg [oO 27 (.build [(.d (.bool false)),.nil,.nil,.nil,(.d (.int .i64 0)),(.d (.int .i64 0))] []),
 oN (.store (.ag 6) (.t 4) (.t 27)),
 oO 5 (.mv (kI 0)),
 oO 6 (.mv (.k (.c .nil))),
 oO 7 (.mv (kI 7))])
 (.ret))
 (.skip)))
 (.seq (.reg [oO 29 (.fieldAddr 3 (.t 2)),
 oO 30 (.load .sc (.t 29)),
 oO 31 (.fieldAddr 5 (.t 2)),
 oO 32 (.load .sc (.t 31)),
 oM 33 8,
 oO 34 (.call 27 [(.t 32),(.t 33)] none),
 oM 35 9,
 oO 36 (.call 30 [(.t 30),(.t 34),(.t 35)] none),
 oM 28 36,
 oO 37 (.extract (.t 28) 0),
 oO 38 (.extract (.t 28) 1),
 oM 6 37,
 oM 7 38])
 (.seq (.seq (.reg [oM 39 7,
 oO 40 (.bin .neq (.t 39) (kI 0))])
 (.cond (.t 40) (.seq (.reg [oO 41 (.build [(.d (.bool false)),.nil,.nil,.nil,(.d (.int .i64 0)),(.d (.int .i64 0))] []),
 oN (.store (.ag 6) (.t 4) (.t 41)),
 oO 5 (.mv (kI 0)),
 oO 6 (.mv (.k (.c .nil))),
 oO 7 (.mv (kI 6))])
 (.ret))
 (.skip)))
 (.seq (.reg [oO 42 (.load (.ag 6) (.t 2)),
 oO 43 (.call 28 [(.t 42),(kI 0),(kI 1)] none),
 oM 44 8,
 oO 45 (.slice 1 (.t 44) none (some (kI 1)) none),
 oO 46 (.call 31 [(.t 45)] none),
 oO 47 (.conv .i64 (.t 46)),
 oM 48 6,
 oN (.store (.ag 6) (.t 4) (.t 43)),
 oM 5 47,
 oM 6 48,
 oO 7 (.mv (kI 0))])
 (.ret)))))))),
 [(4,(some (.ag 6))),(5,none),(6,none),(7,none)]⟩
theorem cf_crc:compFn Tryd.prog { own:=[],comp:=[],frz:=[],nils:=[] } Tryd.f12=some sf_crc:=by kernel_rfl
theorem crc_c (G:Glob) (hF:G.at 0=some (.ra (firstK.map wD))) (hG:G.at 1=some (.ra (constK.map wD))) (c:Ch) (r:List UInt8) (hr:r.length≤1099511627776):Den Tryd.prog G 12 [chD c,.sl (r.map bD)] (.tup [.c (.d (chD (rcC c r))),.c (.d (.int .i64 (rcK c r))),.c (.d (.sl ((rcB c r).map bD))),.c (.d (.int .i64 (rcE c r)))]):=by
  refine den_walk Tryd.func12 cf_crc rfl rfl ?_
  have c1:=cvd_c G hF hG c
  have c2:=cpt_c G r hr
  by_cases h:vdC c
  ·rw[decide_eq_true h] at c1
   by_cases h1:psE r=0
   ·rw[if_pos h1,if_pos h1,h1] at c2
    by_cases h4:c.m=1099511627776
    ·have g4:(c.m=1099511627776)=True:=eq_true h4
     have e:rcE c r=7:=by unfold rcE; rw[if_neg (not_not_intro h),if_neg (not_not_intro h1),if_pos h4]
     obtain⟨q1,q2,q3⟩:=rc_no e (by decide)
     rw[q1,q2,q3,e]
     unfold chD ch0 at *
     simp only[sf_crc,putAll,wal,stV,seval,iteOmega,toNatUp,reduceCtorEq]
     refine sD (c1) ?_
     refine sC (c2) ?_
     simp only[g4,wal,stV,seval,iteOmega,toNatUp,reduceCtorEq]
     exact qd4
    ·have g4:(c.m=1099511627776)=False:=eq_false h4
     obtain⟨l1,l2⟩:=ps_len h1
     have l3:(r.take 3).length=3:=by simp; omega
     have c3:=cad_c G c.m (r.take 3) (by have:=h.2.2.1; omega)
     have c4:=opn_c G c.rk (adX c.m (r.take 3)) (r.drop 3) (by rw[vd_rk h]; decide) (show (2:Nat)≤_ by decide) (fun x hx=>by
       rcases List.mem_cons.1 hx with rfl | hx
       ·rw[putL_length]; decide
       ·rw[List.mem_singleton.1 hx,l3]; decide) (by simp; omega)
     rw[show opnE c.rk (adX c.m (r.take 3)) (r.drop 3)=rcX c r from rfl] at c4
     by_cases x0:rcX c r=0
     ·have e:rcE c r=0:=by unfold rcE; rw[if_neg (not_not_intro h),if_neg (not_not_intro h1),if_neg h4,if_pos x0]
      rw[show rcC c r=_ from if_pos e,show rcK c r=_ from if_pos e,show rcB c r=_ from if_pos e,e]
      rw[x0] at c4
      have c5:=cbh_c G c 0 1 (by rw[h.1]; decide) (by rw[vd_sk h]; decide) (by rw[vd_rk h]; decide) h.2.1 h.2.2.1 (by decide) (by decide)
      rw[Int.add_zero] at c5
      have c6:=get_c G [r.getD 0 0] (show (1:Nat)≤_ by decide)
      have hb:=(r.getD 0 0).toNat_lt
      rw[show getN [r.getD 0 0]=(r.getD 0 0).toNat from by simp only[getN,List.foldl]; omega] at c6
      have t1:=head1 l1
      generalize r.getD 0 0=x at *
      generalize opnV c.rk (adX c.m (r.take 3)) (r.drop 3)=B at *
      generalize sls (adX c.m (r.take 3))=A at *
      generalize r.take 3=H at *
      generalize r.drop 3=S at *
      unfold chD at *
      dsimp only at c5
      dsimp only
      simp only[sf_crc,putAll,wal,stV,seval,iteOmega,toNatUp,reduceCtorEq]
      refine sD (c1) ?_
      refine sC (c2) ?_
      simp only[g4,wal,stV,seval,iteOmega,toNatUp,reduceCtorEq]
      refine sD (c3) ?_
      refine sD (c4) ?_
      refine sC (c5) ?_
      simp only[l3,t1,wal,stV,seval,iteOmega,toNatUp,reduceCtorEq]
      refine sD (c6) ?_
      exact qd4
     ·have gx:(rcX c r=0)=False:=eq_false x0
      have e:rcE c r=6:=by unfold rcE; rw[if_neg (not_not_intro h),if_neg (not_not_intro h1),if_neg h4,if_neg x0]
      obtain⟨q1,q2,q3⟩:=rc_no e (by decide)
      rw[q1,q2,q3,e]
      generalize rcX c r=X at *
      generalize opnV c.rk (adX c.m (r.take 3)) (r.drop 3)=B at *
      generalize sls (adX c.m (r.take 3))=A at *
      generalize r.take 3=H at *
      generalize r.drop 3=S at *
      unfold chD ch0 at *
      simp only[sf_crc,putAll,wal,stV,seval,iteOmega,toNatUp,reduceCtorEq]
      refine sD (c1) ?_
      refine sC (c2) ?_
      simp only[g4,wal,stV,seval,iteOmega,toNatUp,reduceCtorEq]
      refine sD (c3) ?_
      refine sC (c4) ?_
      simp only[gx,wal,stV,seval,iteOmega,toNatUp,reduceCtorEq]
      exact qd4
   ·have g1:(psE r=0)=False:=eq_false h1
    rw[if_neg h1,if_neg h1] at c2
    have e:rcE c r=psE r:=by unfold rcE; rw[if_neg (not_not_intro h),if_pos h1]
    obtain⟨q1,q2,q3⟩:=rc_no e h1
    rw[q1,q2,q3,e]
    generalize psE r=p at *
    unfold chD ch0 at *
    simp only[sf_crc,putAll,wal,stV,seval,iteOmega,toNatUp,reduceCtorEq]
    refine sD (c1) ?_
    refine sC (c2) ?_
    simp only[g1,wal,stV,seval,iteOmega,toNatUp,reduceCtorEq]
    exact qd4
  ·rw[decide_eq_false h] at c1
   have e:rcE c r=3:=if_pos h
   obtain⟨q1,q2,q3⟩:=rc_no e (by decide)
   rw[q1,q2,q3,e]
   unfold chD ch0 at *
   simp only[sf_crc,putAll,wal,stV,seval,iteOmega,toNatUp,reduceCtorEq]
   refine sD (c1) ?_
   exact qd4
end Go.Proofs.YtbkhllchjbjhgaaDoor
namespace Go.Proofs.YtbkhllchjbjhgaaDoor
open Go.RowKit IntWalk
set_option maxHeartbeats 800000
def sf_rwi:SFn:=⟨2,32,
 .seq (.reg [oO 4 (.alloc [(.d (.bool false)),.nil,.nil,.nil,(.d (.int .i64 0)),(.d (.int .i64 0))])])
 (.seq (.reg [oM 10 1,
 oO 11 (.bldSl true 10 1 (.int .u8 0) [(0,(.k (.c (.d (.int .u8 115))))),(1,(.k (.c (.d (.int .u8 101))))),(2,(.k (.c (.d (.int .u8 99))))),(3,(.k (.c (.d (.int .u8 116))))),(4,(.k (.c (.d (.int .u8 105))))),(5,(.k (.c (.d (.int .u8 109))))),(6,(.k (.c (.d (.int .u8 101))))),(7,(.k (.c (.d (.int .u8 32))))),(8,(.k (.c (.d (.int .u8 117))))),(9,(.k (.c (.d (.int .u8 112)))))]),
 oO 12 (.markF (.t 11)),
 oO 13 (.call 53 [(.t 10),(.t 12),(kI 32)] none),
 oM 9 13,
 oO 14 (.extract (.t 9) 0),
 oO 15 (.extract (.t 9) 1),
 oM 5 14,
 oM 6 15])
 (.seq (.reg [oM 17 1,
 oO 18 (.bldSl true 12 1 (.int .u8 0) [(0,(.k (.c (.d (.int .u8 115))))),(1,(.k (.c (.d (.int .u8 101))))),(2,(.k (.c (.d (.int .u8 99))))),(3,(.k (.c (.d (.int .u8 116))))),(4,(.k (.c (.d (.int .u8 105))))),(5,(.k (.c (.d (.int .u8 109))))),(6,(.k (.c (.d (.int .u8 101))))),(7,(.k (.c (.d (.int .u8 32))))),(8,(.k (.c (.d (.int .u8 100))))),(9,(.k (.c (.d (.int .u8 111))))),(10,(.k (.c (.d (.int .u8 119))))),(11,(.k (.c (.d (.int .u8 110)))))]),
 oO 19 (.markF (.t 18)),
 oO 20 (.call 53 [(.t 17),(.t 19),(kI 32)] none),
 oM 16 20,
 oO 21 (.extract (.t 16) 0),
 oO 22 (.extract (.t 16) 1),
 oM 7 21,
 oM 8 22])
 (.seq (.seq (.reg [oM 23 0])
 (.cond (.t 23) (.seq (.reg [oM 24 1,
 oM 25 5,
 oM 26 7,
 oO 27 (.build [(.d (.bool false)),.nil,.nil,.nil,(.d (.int .i64 0)),(.d (.int .i64 0))] [(0,1,(.k (.c (.d (.bool true))))),(1,1,(.t 24)),(2,1,(.t 25)),(3,1,(.t 26))]),
 oN (.store (.ag 6) (.t 4) (.t 27))])
 (.ret))
 (.skip)))
 (.seq (.reg [oM 28 1,
 oM 29 7,
 oM 30 5,
 oO 31 (.build [(.d (.bool false)),.nil,.nil,.nil,(.d (.int .i64 0)),(.d (.int .i64 0))] [(1,1,(.t 28)),(2,1,(.t 29)),(3,1,(.t 30))]),
 oN (.store (.ag 6) (.t 4) (.t 31))])
 (.ret))))),
 [(4,(some (.ag 6)))]⟩
theorem cf_rwi:compFn Tryd.prog { own:=[11,18],comp:=[],frz:=[12,19],nils:=[] } Tryd.f38=some sf_rwi:=by kernel_rfl
theorem rwi_c (G:Glob) (cl:Bool) (K:List UInt8) (hK:K.length≤140737488355328):Den Tryd.prog G 38 [.bool cl,.sl (K.map bD)] (.w (.c (.d (chD (chP cl K 0 0))))):=by
  refine den_walk Tryd.func38 cf_rwi rfl rfl ?_
  have c1:=rexp_c G K strUp hK (by decide) 32 (by decide) (by decide)
  have c2:=rexp_c G K strDn hK (by decide) 32 (by decide) (by decide)
  rw[show expL K strUp 32=chU K from expL_in K strUp (by decide),expE_in (by decide)] at c1
  rw[show expL K strDn 32=chV K from expL_in K strDn (by decide),expE_in (by decide)] at c2
  unfold chD chP
  dsimp only
  generalize chU K=U at *
  generalize chV K=W at *
  cases cl
  ·rw[cond_false,cond_false]
   simp only[sf_rwi,putAll,wal,stV,seval,iteOmega,toNatUp,reduceCtorEq]
   refine st_call c1 (by simp only[wal,stV,seval,iteOmega,toNatUp,reduceCtorEq] <;> rfl) (.inl rfl) ?_
   simp only[wal,stV,seval,iteOmega,toNatUp,reduceCtorEq]
   refine st_call c2 (by simp only[wal,stV,seval,iteOmega,toNatUp,reduceCtorEq] <;> rfl) (.inl rfl) ?_
   simp only[wal,stV,seval,iteOmega,toNatUp,reduceCtorEq]
   exact qd1
  ·rw[cond_true,cond_true]
   simp only[sf_rwi,putAll,wal,stV,seval,iteOmega,toNatUp,reduceCtorEq]
   refine st_call c1 (by simp only[wal,stV,seval,iteOmega,toNatUp,reduceCtorEq] <;> rfl) (.inl rfl) ?_
   simp only[wal,stV,seval,iteOmega,toNatUp,reduceCtorEq]
   refine st_call c2 (by simp only[wal,stV,seval,iteOmega,toNatUp,reduceCtorEq] <;> rfl) (.inl rfl) ?_
   simp only[wal,stV,seval,iteOmega,toNatUp,reduceCtorEq]
   exact qd1
def sf_rbg:SFn:=⟨3,23,
 .seq (.reg [oO 6 (.alloc [(.d (.bool false)),.nil,.nil,.nil,(.d (.int .i64 0)),(.d (.int .i64 0))]),
 oO 7 (.mv (kI 0))])
 (.seq (.seq (.reg [oM 8 1,
 oO 9 (.len (.t 8)),
 oO 10 (.bin .lss (.t 9) (kI 16)),
 oM 11 10,
 oG 12 (.mv (.t 1)) 11 false,
 oG 13 (.len (.t 12)) 11 false,
 oG 14 (.bin .gtr (.t 13) (kI 65535)) 11 false,
 oO 15 (.pick (.t 11) (.k (.c (.d (.bool true)))) (.t 14))])
 (.cond (.t 15) (.seq (.reg [oO 16 (.build [(.d (.bool false)),.nil,.nil,.nil,(.d (.int .i64 0)),(.d (.int .i64 0))] []),
 oN (.store (.ag 6) (.t 6) (.t 16)),
 oO 7 (.mv (kI 5))])
 (.ret))
 (.skip)))
 (.seq (.reg [oM 17 0,
 oM 18 2,
 oO 19 (.call 20 [(.t 18)] none),
 oM 20 1,
 oO 21 (.call 39 [(.t 19),(.t 20)] none),
 oO 22 (.call 38 [(.t 17),(.t 21)] none),
 oN (.store (.ag 6) (.t 6) (.t 22)),
 oO 7 (.mv (kI 0))])
 (.ret))),
 [(6,(some (.ag 6))),(7,none)]⟩
theorem cf_rbg:compFn Tryd.prog { own:=[],comp:=[],frz:=[],nils:=[] } Tryd.f18=some sf_rbg:=by kernel_rfl
theorem rbg_c (G:Glob) (cl:Bool) (s h:List UInt8) (hs:s.length≤9223372036854775807) (hh:h.length≤140737488355328):Den Tryd.prog G 18 [.bool cl,.sl (s.map bD),.sl (h.map bD)] (.tup [.c (.d (chD (bgC cl s h))),.c (.d (.int .i64 (bgE s)))]):=by
  refine den_walk Tryd.func18 cf_rbg rfl rfl ?_
  by_cases h1:s.length<16
  ·have e:bgE s=5:=if_pos (.inl h1)
   rw[show bgC cl s h=ch0 from if_neg (by rw[e]; decide),e]
   have g1:((s.length:Int)<16)=True:=eq_true (by omega)
   unfold chD ch0
   simp only[sf_rbg,putAll,wal,stV,seval,iteOmega,toNatUp,reduceCtorEq,g1]
   exact qd2
  ·have g1:((s.length:Int)<16)=False:=eq_false (by omega)
   by_cases h2:65535<s.length
   ·have e:bgE s=5:=if_pos (.inr h2)
    rw[show bgC cl s h=ch0 from if_neg (by rw[e]; decide),e]
    have g2:((s.length:Int)>65535)=True:=eq_true (by omega)
    unfold chD ch0
    simp only[sf_rbg,putAll,wal,stV,seval,iteOmega,toNatUp,reduceCtorEq,g1,g2]
    exact qd2
   ·have e:bgE s=0:=if_neg (by omega)
    rw[show bgC cl s h=chP cl (macK (sumK h) s) 0 0 from if_pos e,e]
    have g2:((s.length:Int)>65535)=False:=eq_false (by omega)
    have c1:=rsum_c G h hh
    have c2:=rext_c G (sumK h) s (by rw[sumK_len]; decide) (by omega)
    have c3:=rwi_c G cl (macK (sumK h) s) (by rw[macK_len]; decide)
    generalize chP cl (macK (sumK h) s) 0 0=C at *
    generalize macK (sumK h) s=M at *
    generalize sumK h=H at *
    unfold chD at *
    simp only[sf_rbg,putAll,wal,stV,seval,iteOmega,toNatUp,reduceCtorEq,g1,g2]
    refine sD (c1) ?_
    refine sD (c2) ?_
    refine sD (c3) ?_
    exact qd2
def weK (s:Int):List UInt8:=macK (sumK (bytesK s 20)) (bytesK s 32)
theorem weK_len (s:Int):(weK s).length=32:=macK_len _ _
def sf_wen:SFn:=⟨1,26,
 .seq (.reg [oO 2 (.alloc [(.d (.bool false)),.nil,.nil,.nil,(.d (.int .i64 0)),(.d (.int .i64 0))]),
 oO 3 (.alloc [(.d (.bool false)),.nil,.nil,.nil,(.d (.int .i64 0)),(.d (.int .i64 0))])])
 (.seq (.reg [oM 9 0,
 oO 10 (.call 19 [(.t 9)] none),
 oM 11 0,
 oO 12 (.call 9 [(.t 11),(kI 20)] none),
 oO 13 (.call 18 [(.k (.c (.d (.bool true)))),(.t 10),(.t 12)] none),
 oM 8 13,
 oO 14 (.extract (.t 8) 0),
 oO 15 (.extract (.t 8) 1),
 oO 4 (.alloc [(.d (.bool false)),.nil,.nil,.nil,(.d (.int .i64 0)),(.d (.int .i64 0))]),
 oN (.store (.ag 6) (.t 4) (.t 14)),
 oM 5 15])
 (.seq (.reg [oM 17 0,
 oO 18 (.call 19 [(.t 17)] none),
 oM 19 0,
 oO 20 (.call 9 [(.t 19),(kI 20)] none),
 oO 21 (.call 18 [(.k (.c (.d (.bool false)))),(.t 18),(.t 20)] none),
 oM 16 21,
 oO 22 (.extract (.t 16) 0),
 oO 23 (.extract (.t 16) 1),
 oO 6 (.alloc [(.d (.bool false)),.nil,.nil,.nil,(.d (.int .i64 0)),(.d (.int .i64 0))]),
 oN (.store (.ag 6) (.t 6) (.t 22)),
 oM 7 23])
 (.seq (.reg [oO 24 (.loadX (.ag 6) (.t 4) [(.t 2),(.t 3)]),
 oO 25 (.loadX (.ag 6) (.t 6) [(.t 2),(.t 3)]),
 oN (.store (.ag 6) (.t 2) (.t 24)),
 oN (.store (.ag 6) (.t 3) (.t 25))])
 (.ret)))),
 [(2,(some (.ag 6))),(3,(some (.ag 6)))]⟩
theorem cf_wen:compFn Tryd.prog { own:=[],comp:=[],frz:=[],nils:=[],lx:=[(24,[2,3]),(25,[2,3])] } Tryd.f6=some sf_wen:=by kernel_rfl
theorem wen_c (G:Glob) (s:Int):Den Tryd.prog G 6 [.int .i64 s] (.tup [.c (.d (chD (chP true (weK s) 0 0))),.c (.d (chD (chP false (weK s) 0 0)))]):=by
  refine den_walk Tryd.func6 cf_wen rfl rfl ?_
  have c1:=wkey_c G s
  have c2:=wbytes_c G s 20 (by decide)
  have l1:(bytesK s 32).length=32:=bytesK_len _ _
  have l2:(bytesK s 20).length=20:=bytesK_len _ _
  have e:bgE (bytesK s 32)=0:=if_neg (by omega)
  have c3:=rbg_c G true (bytesK s 32) (bytesK s 20) (by omega) (by omega)
  have c4:=rbg_c G false (bytesK s 32) (bytesK s 20) (by omega) (by omega)
  rw[show bgC true (bytesK s 32) (bytesK s 20)=chP true (weK s) 0 0 from if_pos e,e] at c3
  rw[show bgC false (bytesK s 32) (bytesK s 20)=chP false (weK s) 0 0 from if_pos e,e] at c4
  generalize bytesK s 32=B1 at *
  generalize bytesK s 20=B2 at *
  generalize chP true (weK s) 0 0=X at *
  generalize chP false (weK s) 0 0=Y at *
  unfold chD at *
  simp only[sf_wen,putAll,wal,stV,seval,iteOmega,toNatUp,reduceCtorEq]
  refine sD (c1) ?_
  refine sD (c2) ?_
  refine sD (c3) ?_
  refine sD (c1) ?_
  refine sD (c2) ?_
  refine sD (c4) ?_
  exact qd2
end Go.Proofs.YtbkhllchjbjhgaaDoor
namespace Go.Proofs.YtbkhllchjbjhgaaDoor
open Go.RowKit IntWalk
def chS (cl:Bool) (K:List UInt8):List UInt8:=(chP cl K 0 0).sk
def chR (cl:Bool) (K:List UInt8):List UInt8:=(chP cl K 0 0).rk
theorem chP_D (cl:Bool) (K:List UInt8) (n m:Int):chD (chP cl K n m)=.agg [.bool cl,.sl (K.map bD),.sl ((chS cl K).map bD),.sl ((chR cl K).map bD),.int .i64 n,.int .i64 m]:=rfl
def sf_known20:SFn:=⟨0,74,
 .seq (.reg [oO 0 (.mv (.k (.c (.d (.bool false)))))])
 (.seq (.reg [oO 11 (.make false 1 1 (.int .u8 0) (kI 16) (kI 16)),
 oO 12 (.call 17 [(.k (.c (.d (.bool true)))),(.t 11),(.k (.c .nil))] none),
 oM 10 12,
 oO 13 (.extract (.t 10) 0),
 oO 14 (.extract (.t 10) 1),
 oO 1 (.alloc [(.d (.bool false)),.nil,.nil,.nil,(.d (.int .i64 0)),(.d (.int .i64 0))]),
 oN (.store (.ag 6) (.t 1) (.t 13)),
 oM 2 14])
 (.seq (.reg [oO 16 (.make false 1 1 (.int .u8 0) (kI 16) (kI 16)),
 oO 17 (.call 17 [(.k (.c (.d (.bool false)))),(.t 16),(.k (.c .nil))] none),
 oM 15 17,
 oO 18 (.extract (.t 15) 0),
 oO 19 (.extract (.t 15) 1),
 oO 3 (.alloc [(.d (.bool false)),.nil,.nil,.nil,(.d (.int .i64 0)),(.d (.int .i64 0))]),
 oN (.store (.ag 6) (.t 3) (.t 18)),
 oM 4 19])
 (.seq (.reg [oO 21 (.load (.ag 6) (.t 1)),
 oO 22 (.bldSl true 2 1 (.int .u8 0) [(0,(.k (.c (.d (.int .u8 104))))),(1,(.k (.c (.d (.int .u8 105)))))]),
 oO 23 (.markF (.t 22)),
 oO 24 (.call 11 [(.t 21),(kI 9),(.t 23)] none),
 oM 20 24,
 oO 25 (.extract (.t 20) 0),
 oO 26 (.extract (.t 20) 1),
 oO 27 (.extract (.t 20) 2),
 oN (.store (.ag 6) (.t 1) (.t 25)),
 oM 5 26,
 oM 6 27])
 (.seq (.reg [oO 29 (.load (.ag 6) (.t 3)),
 oM 30 5,
 oO 31 (.call 12 [(.t 29),(.t 30)] none),
 oM 28 31,
 oO 32 (.extract (.t 28) 0),
 oO 33 (.extract (.t 28) 1),
 oO 34 (.extract (.t 28) 2),
 oO 35 (.extract (.t 28) 3),
 oN (.store (.ag 6) (.t 3) (.t 32)),
 oM 7 33,
 oM 8 34,
 oM 9 35])
 (.seq (.reg [oM 36 2,
 oO 37 (.bin .eql (.t 36) (kI 0)),
 oM 38 37,
 oG 39 (.mv (.t 4)) 38 true,
 oG 40 (.bin .eql (.t 39) (kI 0)) 38 true,
 oO 41 (.pick (.t 38) (.t 40) (.k (.c (.d (.bool false))))),
 oM 42 41,
 oG 43 (.mv (.t 6)) 42 true,
 oG 44 (.bin .eql (.t 43) (kI 0)) 42 true,
 oO 45 (.pick (.t 42) (.t 44) (.k (.c (.d (.bool false))))),
 oM 46 45,
 oG 47 (.mv (.t 9)) 46 true,
 oG 48 (.bin .eql (.t 47) (kI 0)) 46 true,
 oO 49 (.pick (.t 46) (.t 48) (.k (.c (.d (.bool false))))),
 oM 50 49,
 oG 51 (.mv (.t 7)) 50 true,
 oG 52 (.bin .eql (.t 51) (kI 9)) 50 true,
 oO 53 (.pick (.t 50) (.t 52) (.k (.c (.d (.bool false))))),
 oM 54 53,
 oG 55 (.mv (.t 8)) 54 true,
 oG 56 (.b2s (.t 55)) 54 true,
 oG 57 (.bin .eql (.t 56) (.k (.c (.d (.str ⟨#[104,105]⟩))))) 54 true,
 oO 58 (.pick (.t 54) (.t 57) (.k (.c (.d (.bool false))))),
 oM 59 58,
 oG 60 (.fieldAddr 4 (.t 1)) 59 true,
 oG 61 (.load .sc (.t 60)) 59 true,
 oG 62 (.bin .eql (.t 61) (kI 1)) 59 true,
 oO 63 (.pick (.t 59) (.t 62) (.k (.c (.d (.bool false))))),
 oM 64 63,
 oG 65 (.fieldAddr 5 (.t 3)) 64 true,
 oG 66 (.load .sc (.t 65)) 64 true,
 oG 67 (.bin .eql (.t 66) (kI 1)) 64 true,
 oO 68 (.pick (.t 64) (.t 67) (.k (.c (.d (.bool false))))),
 oM 69 68,
 oG 70 (.mv (.t 5)) 69 true,
 oG 71 (.len (.t 70)) 69 true,
 oG 72 (.bin .eql (.t 71) (kI 21)) 69 true,
 oO 73 (.pick (.t 69) (.t 72) (.k (.c (.d (.bool false))))),
 oM 0 73])
 (.ret)))))),
 [(0,none)]⟩
theorem cf_known20:compFn Tryd.prog { own:=[22],comp:=[],frz:=[11,16,23],nils:=[] } Tryd.f5=some sf_known20:=by kernel_rfl
set_option maxHeartbeats 1600000 in
theorem known20_c (G:Glob) (hF:G.at 0=some (.ra (firstK.map wD))) (hG:G.at 1=some (.ra (constK.map wD))):Den Tryd.prog G 5 [] (.w (.c (.d (.bool true)))):=by
  refine den_walk Tryd.func5 cf_known20 rfl rfl ?_
  have c1:=cbg_c G hF hG true (List.replicate 16 0) [] (by simp) (by simp)
  have c2:=cbg_c G hF hG false (List.replicate 16 0) [] (by simp) (by simp)
  have e:bgE (List.replicate 16 0)=0:=if_neg (by simp)
  rw[show bgC true (List.replicate 16 0) []=_ from if_pos e,e] at c1
  rw[show bgC false (List.replicate 16 0) []=_ from if_pos e,e] at c2
  obtain⟨R,⟨s1,s2,s3,s4⟩,r1,r2,r3,r4⟩:=snd_rcv (cl:=true) (K:=macK (sumK []) (List.replicate 16 0)) (b:=[104,105]) (n:=0) (m:=0) (k:=9) (macK_len _ _) (by decide) (by decide) (by decide) (by decide)
  have c3:=csd_c G hF hG (chP true (macK (sumK []) (List.replicate 16 0)) 0 0) 9 [104,105] (by decide)
  have s4:R.length=21:=s4
  rw[s1,s2,s3] at c3
  have c4:=crc_c G hF hG (chP (!true) (macK (sumK []) (List.replicate 16 0)) 0 0) R (by omega)
  rw[r1,r2,r3,r4,Bool.not_true] at c4
  obtain⟨B,hB⟩:∃ B:List UInt8,B=[104,105]:=⟨_,rfl⟩
  rw[← hB] at c4
  have hs:(⟨B.toArray⟩:ByteArray)=⟨#[104,105]⟩:=by rw[hB]
  clear hB
  generalize macK (sumK []) (List.replicate 16 0)=K at *
  clear r1 r2 r3 r4 s1 s2 s3 e
  rw[chP_D] at c1 c2
  rw[chP_D,chP_D] at c3 c4
  generalize chS true K=S1 at *
  generalize chR true K=S2 at *
  generalize chS false K=S3 at *
  generalize chR false K=S4 at *
  simp only[sf_known20,putAll,wal,stV,seval,iteOmega,toNatUp,reduceCtorEq]
  refine st_call c1 (by simp only[wal,stV,seval,iteOmega,toNatUp,reduceCtorEq,rep_b] <;> rfl) (.inl rfl) ?_
  simp only[wal,stV,seval,iteOmega,toNatUp,reduceCtorEq]
  refine st_call c2 (by simp only[wal,stV,seval,iteOmega,toNatUp,reduceCtorEq,rep_b] <;> rfl) (.inl rfl) ?_
  simp only[wal,stV,seval,iteOmega,toNatUp,reduceCtorEq]
  refine st_call c3 (by simp only[wal,stV,seval,iteOmega,toNatUp,reduceCtorEq] <;> rfl) (.inl rfl) ?_
  simp only[wal,stV,seval,iteOmega,toNatUp,reduceCtorEq]
  refine sC (c4) ?_
  simp only[s4,hs,ofBs_map,wal,stV,seval,iteOmega,toNatUp,reduceCtorEq]
  exact qd1
end Go.Proofs.YtbkhllchjbjhgaaDoor
