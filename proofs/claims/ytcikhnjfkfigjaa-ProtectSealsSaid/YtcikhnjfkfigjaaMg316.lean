/- Texts of one's own, merged: from: Layer 6 on data: tags,sealed bytes,opened ones; both codes. Own work. -/
import Derived.Shelf.Abstract
import Derived.Test.YtcikhnjfkfigjaaMg314
import Derived.Test.YtcikhnjfkfigjaaMg311
import Derived.Test.YtcikhnjfkfigjaaMg315
set_option linter.unusedVariables false
set_option linter.unusedSimpArgs false
namespace Go.Proofs.Ytcikhnjfkfigjaa
open Go.RowKit IntWalk
set_option maxHeartbeats 1600000
def ctrT (tag:List UInt8):List UInt8:=(tag.set 8 (andB (tag.getD 8 0) 127)).set 12 (andB (tag.getD 12 0) 127)
theorem ctrT_len (tag:List UInt8):(ctrT tag).length=tag.length:=by unfold ctrT; rw[List.length_set,List.length_set]
def tagM (key:List UInt8) (ad:List (List UInt8)) (b:List UInt8):List UInt8:=vecM (rkK (key.take 16)) (ad++[b])
theorem tagM_len (key:List UInt8) (ad:List (List UInt8)) (b:List UInt8):(tagM key ad b).length=16:=vecM_len _ _
def strS (key tag b:List UInt8):List UInt8:=strmC (rkK (key.drop 16)) (ctrT tag) b
theorem strS_len (key tag b:List UInt8):(strS key tag b).length=b.length:=strmC_len _ _ _
def longA (l:List (List UInt8)):Bool:=l.any fun x=>decide (65519<x.length)
def aeE (key:List UInt8) (ad:List (List UInt8)) (n:Int):Int:=if key.length≠32 then 5 else if 16<ad.length then 8 else if longA ad=true∨65519<n then 2 else 0
def tagV (key:List UInt8) (ad:List (List UInt8)) (b:List UInt8):List UInt8:=if aeE key ad b.length=0 then tagM key ad b else []
def sealV (key:List UInt8) (ad:List (List UInt8)) (b:List UInt8):List UInt8:=if aeE key ad b.length=0 then tagM key ad b++strS key (tagM key ad b) b else []
def opnE (key:List UInt8) (ad:List (List UInt8)) (s:List UInt8):Int :=
  if aeE key ad ((s.length:Int)-16)≠0 then aeE key ad ((s.length:Int)-16) else if s.length<16 then 1 else if s.take 16=tagM key ad (strS key (s.take 16) (s.drop 16)) then 0 else 6
def opnV (key:List UInt8) (ad:List (List UInt8)) (s:List UInt8):List UInt8:=if opnE key ad s=0 then strS key (s.take 16) (s.drop 16) else []
theorem longA_all {l:List (List UInt8)} (h:longA l=false):∀ x∈l,x.length≤65519:=by
  unfold longA at h
  rw[List.any_eq_false] at h
  intro x hx
  simpa using h x hx
theorem aeE_ok {key:List UInt8} {ad:List (List UInt8)} {n:Int} (h:aeE key ad n=0):key.length=32∧ad.length≤16∧longA ad=false∧n≤65519:=by
  unfold aeE at h
  split at h
  ·cases h
  ·split at h
   ·cases h
   ·split at h
    ·cases h
    ·rename_i h1 h2 h3
     cases hl:longA ad
     ·exact⟨by omega,by omega,rfl,by omega⟩
     ·exact absurd (.inl hl) h3
theorem aeE_val (key:List UInt8) (ad:List (List UInt8)) (n:Int):aeE key ad n=0∨aeE key ad n=5∨aeE key ad n=8∨aeE key ad n=2:=by
  unfold aeE
  split
  ·exact .inr (.inl rfl)
  ·split
   ·exact .inr (.inr (.inl rfl))
   ·split
    ·exact .inr (.inr (.inr rfl))
    ·exact .inl rfl
theorem vctV_ok {k:List UInt8} {l:List (List UInt8)} (h:k.length=16) (hn:l.length≤17) (hl:∀ x∈l,x.length≤65535):vctV k l=vecM (rkK k) l∧vctE k l=0:=by
  have:longL l=false:=by
    unfold longL
    rw[List.any_eq_false]
    intro x hx
    have:=hl x hx
    simpa using this
  refine⟨if_pos ⟨h,hn,this⟩,?_⟩
  unfold vctE
  rw[if_neg (by omega),if_neg (by omega),this,if_neg (by simp)]
theorem strmVE_ok {k c b:List UInt8} (h:k.length=16) (hc:c.length=16) (hb:b.length≤65535):strmV k c b=strmC (rkK k) c b∧strmE k c b=0:=by
  refine⟨if_pos ⟨h,hc,hb⟩,?_⟩
  unfold strmE
  rw[if_neg (by omega),if_neg (by omega),if_neg (by omega)]
theorem ad_all {ad:List (List UInt8)} {b:List UInt8} (h:longA ad=false) (hb:b.length≤65519):∀ x∈ad++[b],x.length≤65535:=by
  intro x hx
  rcases List.mem_append.1 hx with hx | hx
  ·have:=longA_all h x hx; omega
  ·simp only[List.mem_singleton] at hx; subst hx; omega
def sf_chkl:SFn:=⟨1,6,
 .seq (.reg [⟨some 2,.mv (.k (.c (.d (.bool false)))),none⟩])
 (.seq (.reg [⟨some 3,.mv (.t 0),none⟩,
 ⟨some 4,.len (.t 3),none⟩,
 ⟨some 5,.bin .gtr (.t 4) (.k (.c (.d (.int .i64 65519)))),none⟩,
 ⟨some 2,.mv (.t 5),none⟩])
 (.ret)),
 [(2,none)]⟩
theorem cf_chkl:compFn Try.prog { own:=[],comp:=[],frz:=[],nils:=[] } Try.f78=some sf_chkl:=by kernel_rfl
theorem chkl_c (G:Glob) (x:List UInt8) (hx:x.length≤9223372036854775807):DenF Try.prog G 78 [] [.sl (x.map bD)] (.w (.c (.d (.bool (decide (65519<x.length)))))):=by
  refine⟨enters_of Try.func78 (by kernel_rfl) rfl,?_⟩
  refine den_walk Try.func78 cf_chkl rfl rfl ?_
  by_cases h:65519<x.length
  ·have hd:decide (65519<x.length)=true:=decide_eq_true h
   rw[hd]
   simp only[sf_chkl,putAll,wx,wy,wz,stV,seval,iteOmega,toNatUp,reduceCtorEq]
   exact ret_d1 (by simp only[wx,wy,wz,stV,seval,iteOmega,toNatUp,reduceCtorEq])
  ·have hd:decide (65519<x.length)=false:=decide_eq_false h
   rw[hd]
   simp only[sf_chkl,putAll,wx,wy,wz,stV,seval,iteOmega,toNatUp,reduceCtorEq]
   exact ret_d1 (by simp only[wx,wy,wz,stV,seval,iteOmega,toNatUp,reduceCtorEq])
def sf_chk:SFn:=⟨3,21,
 .seq (.reg [⟨some 6,.mv (.k (.c (.d (.int .i64 0)))),none⟩])
 (.seq (.seq (.reg [⟨some 8,.mv (.t 0),none⟩,
 ⟨some 9,.len (.t 8),none⟩,
 ⟨some 10,.bin .neq (.t 9) (.k (.c (.d (.int .i64 32)))),none⟩])
 (.cond (.t 10) (.seq (.reg [⟨some 6,.mv (.k (.c (.d (.int .i64 5)))),none⟩])
 (.ret))
 (.skip)))
 (.seq (.seq (.reg [⟨some 11,.mv (.t 1),none⟩,
 ⟨some 12,.len (.t 11),none⟩,
 ⟨some 13,.bin .gtr (.t 12) (.k (.c (.d (.int .i64 16)))),none⟩])
 (.cond (.t 13) (.seq (.reg [⟨some 6,.mv (.k (.c (.d (.int .i64 8)))),none⟩])
 (.ret))
 (.skip)))
 (.seq (.reg [⟨some 7,.mv (.k (.c (.d (.fn 78 [])))),none⟩])
 (.seq (.seq (.reg [⟨some 14,.mv (.t 1),none⟩,
 ⟨some 15,.mv (.t 7),none⟩,
 ⟨some 16,.call 79 [(.t 14),(.t 15)] none,none⟩,
 ⟨some 17,.mv (.t 16),none⟩,
 ⟨some 18,.mv (.t 2),some (17,false)⟩,
 ⟨some 19,.bin .gtr (.t 18) (.k (.c (.d (.int .i64 65519)))),some (17,false)⟩,
 ⟨some 20,.pick (.t 17) (.k (.c (.d (.bool true)))) (.t 19),none⟩])
 (.cond (.t 20) (.seq (.reg [⟨some 6,.mv (.k (.c (.d (.int .i64 2)))),none⟩])
 (.ret))
 (.skip)))
 (.seq (.reg [⟨some 6,.mv (.k (.c (.d (.int .i64 0)))),none⟩])
 (.ret)))))),
 [(6,none)]⟩
theorem cf_chk:compFn Try.prog { own:=[],comp:=[],frz:=[],nils:=[] } Try.f67=some sf_chk:=by kernel_rfl
theorem chk_c (G:Glob) (key:List UInt8) (ad:List (List UInt8)) (n:Int) (hk:key.length≤9223372036854775807) (hl:ad.length≤9223372036854775807) (hb:∀ x∈ad,x.length≤9223372036854775807):Den Try.prog G 67 [.sl (key.map bD),sls ad,.int .i64 n] (.w (.c (.d (.int .i64 (aeE key ad n))))):=by
  refine den_walk Try.func67 cf_chk rfl rfl ?_
  have hc:=conf_c G ad 78 [] (fun x=>decide (65519<x.length)) hl (fun x hx=>chkl_c G x (hb x hx))
  have hL:(ad.any fun x=>decide (65519<x.length))=longA ad:=rfl
  rw[hL] at hc
  unfold aeE
  by_cases h:key.length=32
  ·rw[if_neg (by omega)]
   by_cases h2:16<ad.length
   ·rw[if_pos h2]
    simp only[sf_chk,putAll,wx,wy,wz,stV,seval,iteOmega,toNatUp,reduceCtorEq]
    exact ret_d1 (by simp only[wx,wy,wz,stV,seval,iteOmega,toNatUp,reduceCtorEq])
   ·rw[if_neg h2]
    cases hl:longA ad
    ·rw[hl] at hc
     by_cases h3:65519<n
     ·rw[if_pos (.inr h3)]
      simp only[sf_chk,putAll,wx,wy,wz,stV,seval,iteOmega,toNatUp,reduceCtorEq]
      refine st_call (hc) rfl (.inl rfl) ?_
      simp only[wx,wy,wz,stV,seval,iteOmega,toNatUp,reduceCtorEq]
      exact ret_d1 (by simp only[wx,wy,wz,stV,seval,iteOmega,toNatUp,reduceCtorEq])
     ·rw[if_neg (by simp; omega)]
      simp only[sf_chk,putAll,wx,wy,wz,stV,seval,iteOmega,toNatUp,reduceCtorEq]
      refine st_call (hc) rfl (.inl rfl) ?_
      simp only[wx,wy,wz,stV,seval,iteOmega,toNatUp,reduceCtorEq]
      exact ret_d1 (by simp only[wx,wy,wz,stV,seval,iteOmega,toNatUp,reduceCtorEq])
    ·rw[hl] at hc
     rw[if_pos (.inl rfl)]
     simp only[sf_chk,putAll,wx,wy,wz,stV,seval,iteOmega,toNatUp,reduceCtorEq]
     refine st_call (hc) rfl (.inl rfl) ?_
     simp only[wx,wy,wz,stV,seval,iteOmega,toNatUp,reduceCtorEq]
     exact ret_d1 (by simp only[wx,wy,wz,stV,seval,iteOmega,toNatUp,reduceCtorEq])
  ·rw[if_pos h]
   simp only[sf_chk,putAll,wx,wy,wz,stV,seval,iteOmega,toNatUp,reduceCtorEq]
   exact ret_d1 (by simp only[wx,wy,wz,stV,seval,iteOmega,toNatUp,reduceCtorEq])
def sf_tagd:SFn:=⟨3,23,
 .seq (.reg [⟨some 6,.mv (.k (.c .nil)),none⟩])
 (.seq (.reg [⟨some 10,.mv (.t 1),none⟩,
 ⟨some 11,.mv (.t 2),none⟩,
 ⟨some 12,.bldSl false 1 1 (.sl []) [(0,(.t 11))],none⟩,
 ⟨some 13,.bldSl false 2 1 (.sl []) [(0,(.t 10)),(1,(.t 12))],none⟩,
 ⟨some 14,.call 80 [(.t 13)] none,none⟩,
 ⟨some 7,.mv (.t 14),none⟩])
 (.seq (.reg [⟨some 16,.mv (.t 0),none⟩,
 ⟨some 17,.slice 1 (.t 16) none (some (.k (.c (.d (.int .i64 16))))) none,none⟩,
 ⟨some 18,.mv (.t 7),none⟩,
 ⟨some 19,.call 81 [(.t 17),(.t 18)] (some (0,1)),none⟩,
 ⟨some 15,.mv (.t 19),none⟩,
 ⟨some 20,.extract (.t 15) 0,none⟩,
 ⟨some 21,.extract (.t 15) 1,none⟩,
 ⟨some 8,.mv (.t 20),none⟩,
 ⟨some 9,.mv (.t 21),none⟩])
 (.seq (.reg [⟨some 22,.mv (.t 8),none⟩,
 ⟨some 6,.mv (.t 22),none⟩])
 (.ret)))),
 [(6,none)]⟩
theorem cf_tagd:compFn Try.prog { own:=[],comp:=[(19,0)],frz:=[],nils:=[] } Try.f68=some sf_tagd:=by kernel_rfl
theorem tagd_f (G:Glob) (key:List UInt8) (ad:List (List UInt8)) (b:List UInt8) (h:key.length=32) (hn:ad.length≤16) (hl:longA ad=false) (hb:b.length≤65519):Den Try.prog G 68 [.sl (key.map bD),sls ad,.sl (b.map bD)] (.w (.c (.fr 1 ((tagM key ad b).map bD)))):=by
  refine den_walk Try.func68 cf_tagd rfl rfl ?_
  have hf:[ad,[b]].flatten=ad++[b]:=by simp
  have hc:=conc_c G [ad,[b]] (by simp) (by rw[hf]; simp; omega)
  rw[hf] at hc
  have hk:(key.take 16).length=16:=by rw[List.length_take]; omega
  obtain⟨v1,v2⟩:=vctV_ok (l:=ad++[b]) hk (by simp; omega) (ad_all hl hb)
  have hv:=vctr_f G (key.take 16) (ad++[b]) (by omega) (by simp; omega) (fun x hx=>Nat.le_trans (ad_all hl hb x hx) (by decide))
  rw[v1,v2] at hv
  have ht:vecM (rkK (key.take 16)) (ad++[b])=tagM key ad b:=rfl
  rw[ht] at hv
  simp only[sf_tagd,putAll,wx,wy,wz,stV,seval,iteOmega,toNatUp,reduceCtorEq]
  refine st_call (hc) rfl (.inl rfl) ?_
  simp only[wx,wy,wz,stV,seval,iteOmega,toNatUp,reduceCtorEq]
  refine st_call (hv) rfl (.inl rfl) ?_
  simp only[wx,wy,wz,stV,seval,iteOmega,toNatUp,reduceCtorEq]
  exact ret_f1 (by simp only[wx,wy,wz,stV,seval,iteOmega,toNatUp,reduceCtorEq])
theorem ctr_get {tag:List UInt8} (h:tag.length=16) {i:Nat} (hi:i<16):tag[i]?=some (tag.getD i 0):=by
  rw[List.getD_eq_getElem?_getD,List.getElem?_eq_getElem (by omega)]; rfl
theorem ctr_two {tag:List UInt8} (h:tag.length=16) (x:UInt8):(tag.set 8 x)[12]?=some (tag.getD 12 0):=by
  rw[List.getElem?_set_ne (by decide),ctr_get h (by decide)]
def sf_ctr:SFn:=⟨1,18,
 .seq (.reg [⟨some 2,.mv (.k (.c .nil)),none⟩])
 (.seq (.reg [⟨some 4,.mv (.t 0),none⟩,
 ⟨some 5,.bldSl false 1 1 (.sl []) [(0,(.t 4))],none⟩,
 ⟨some 6,.call 40 [(.t 5)] (some (0,1)),none⟩,
 ⟨some 3,.mv (.t 6),none⟩])
 (.seq (.reg [⟨some 7,.mv (.t 3),none⟩,
 ⟨some 8,.idxSl 1 (.t 7) (.k (.c (.d (.int .i64 8)))),none⟩,
 ⟨some 9,.load .sc (.t 8),none⟩,
 ⟨some 10,.bin .and (.t 9) (.k (.c (.d (.int .u8 127)))),none⟩,
 ⟨some 11,.idxSl 1 (.t 7) (.k (.c (.d (.int .i64 8)))),none⟩,
 ⟨none,.store .sc (.t 11) (.t 10),none⟩])
 (.seq (.reg [⟨some 12,.mv (.t 3),none⟩,
 ⟨some 13,.idxSl 1 (.t 12) (.k (.c (.d (.int .i64 12)))),none⟩,
 ⟨some 14,.load .sc (.t 13),none⟩,
 ⟨some 15,.bin .and (.t 14) (.k (.c (.d (.int .u8 127)))),none⟩,
 ⟨some 16,.idxSl 1 (.t 12) (.k (.c (.d (.int .i64 12)))),none⟩,
 ⟨none,.store .sc (.t 16) (.t 15),none⟩])
 (.seq (.reg [⟨some 17,.mv (.t 3),none⟩,
 ⟨some 2,.mv (.t 17),none⟩])
 (.ret))))),
 [(2,none)]⟩
theorem cf_ctr:compFn Try.prog { own:=[6],comp:=[],frz:=[],nils:=[] } Try.f73=some sf_ctr:=by kernel_rfl
theorem ctr_f (G:Glob) (tag:List UInt8) (h:tag.length=16):Den Try.prog G 73 [.sl (tag.map bD)] (.w (.c (.fr 1 ((ctrT tag).map bD)))):=by
  refine den_walk Try.func73 cf_ctr rfl rfl ?_
  have hj:=join_c G [tag] (by simp) (by simp; omega)
  have hf:[tag].flatten=tag:=by simp
  rw[hf] at hj
  have g1:=ctr_get h (i:=8) (by decide)
  have g2:=ctr_get h (i:=12) (by decide)
  have g3:=ctr_two h (andB (tag.getD 8 0) 127)
  have x1:=bl_and (tag.getD 8 0) 127 127 rfl
  have x2:=bl_and (tag.getD 12 0) 127 127 rfl
  have hs:(tag.set 8 (andB (tag.getD 8 0) 127)).set 12 (andB (tag.getD 12 0) 127)=ctrT tag:=rfl
  simp only[sf_ctr,putAll,wx,wy,wz,stV,seval,iteOmega,toNatUp,reduceCtorEq]
  refine st_call (hj) rfl (.inl rfl) ?_
  simp only[get_map,g1,g2,g3,x1,x2,set_map,hs,wx,wy,wz,stV,seval,iteOmega,toNatUp,reduceCtorEq]
  exact ret_f1 (by simp only[wx,wy,wz,stV,seval,iteOmega,toNatUp,reduceCtorEq,ctrT_len])
theorem ctr_c (G:Glob) (tag:List UInt8) (h:tag.length=16):Den Try.prog G 73 [.sl (tag.map bD)] (.w (.c (.d (.sl ((ctrT tag).map bD))))):=den_ro (ctr_f G tag h)
def sf_strd:SFn:=⟨3,19,
 .seq (.reg [⟨some 6,.mv (.k (.c .nil)),none⟩])
 (.seq (.reg [⟨some 10,.mv (.t 0),none⟩,
 ⟨some 11,.slice 1 (.t 10) (some (.k (.c (.d (.int .i64 16))))) none none,none⟩,
 ⟨some 12,.mv (.t 1),none⟩,
 ⟨some 13,.call 73 [(.t 12)] none,none⟩,
 ⟨some 14,.mv (.t 2),none⟩,
 ⟨some 15,.call 72 [(.t 11),(.t 13),(.t 14)] (some (0,1)),none⟩,
 ⟨some 9,.mv (.t 15),none⟩,
 ⟨some 16,.extract (.t 9) 0,none⟩,
 ⟨some 17,.extract (.t 9) 1,none⟩,
 ⟨some 7,.mv (.t 16),none⟩,
 ⟨some 8,.mv (.t 17),none⟩])
 (.seq (.reg [⟨some 18,.mv (.t 7),none⟩,
 ⟨some 6,.mv (.t 18),none⟩])
 (.ret))),
 [(6,none)]⟩
theorem cf_strd:compFn Try.prog { own:=[],comp:=[(15,0)],frz:=[],nils:=[] } Try.f50=some sf_strd:=by kernel_rfl
theorem strd_f (G:Glob) (key tag b:List UInt8) (h:key.length=32) (ht:tag.length=16) (hb:b.length≤65535):Den Try.prog G 50 [.sl (key.map bD),.sl (tag.map bD),.sl (b.map bD)] (.w (.c (.fr 1 ((strS key tag b).map bD)))):=by
  refine den_walk Try.func50 cf_strd rfl rfl ?_
  have hk:(key.drop 16).length=16:=by rw[List.length_drop]; omega
  have hk2:(key.drop 16).take 16=key.drop 16:=List.take_of_length_le (by omega)
  obtain⟨v1,v2⟩:=strmVE_ok (c:=ctrT tag) (b:=b) hk (by rw[ctrT_len]; exact ht) hb
  have hv:=stm_f G (key.drop 16) (ctrT tag) b (by omega) (by rw[ctrT_len]; omega) (by omega)
  rw[v1,v2] at hv
  have hs:strmC (rkK (key.drop 16)) (ctrT tag) b=strS key tag b:=rfl
  rw[hs] at hv
  simp only[sf_strd,putAll,wx,wy,wz,stV,seval,iteOmega,toNatUp,reduceCtorEq,h]
  refine st_call (ctr_c G tag ht) rfl (.inl rfl) ?_
  simp only[hk2,wx,wy,wz,stV,seval,iteOmega,toNatUp,reduceCtorEq]
  refine st_call (hv) rfl (.inl rfl) ?_
  simp only[wx,wy,wz,stV,seval,iteOmega,toNatUp,reduceCtorEq]
  exact ret_f1 (by simp only[wx,wy,wz,stV,seval,iteOmega,toNatUp,reduceCtorEq])
theorem strd_c (G:Glob) (key tag b:List UInt8) (h:key.length=32) (ht:tag.length=16) (hb:b.length≤65535):Den Try.prog G 50 [.sl (key.map bD),.sl (tag.map bD),.sl (b.map bD)] (.w (.c (.d (.sl ((strS key tag b).map bD))))):=den_ro (strd_f G key tag b h ht hb)
def sf_tag:SFn:=⟨3,21,
 .seq (.reg [⟨some 6,.mv (.k (.c .nil)),none⟩,
 ⟨some 7,.mv (.k (.c (.d (.int .i64 0)))),none⟩])
 (.seq (.seq (.reg [⟨some 9,.mv (.t 0),none⟩,
 ⟨some 10,.mv (.t 1),none⟩,
 ⟨some 11,.mv (.t 2),none⟩,
 ⟨some 12,.len (.t 11),none⟩,
 ⟨some 13,.call 67 [(.t 9),(.t 10),(.t 12)] none,none⟩,
 ⟨some 8,.mv (.t 13),none⟩])
 (.seq (.reg [⟨some 14,.mv (.t 8),none⟩,
 ⟨some 15,.bin .neq (.t 14) (.k (.c (.d (.int .i64 0)))),none⟩])
 (.cond (.t 15) (.seq (.reg [⟨some 16,.mv (.t 8),none⟩,
 ⟨some 6,.mv (.k (.c .nil)),none⟩,
 ⟨some 7,.mv (.t 16),none⟩])
 (.ret))
 (.skip))))
 (.seq (.reg [⟨some 17,.mv (.t 0),none⟩,
 ⟨some 18,.mv (.t 1),none⟩,
 ⟨some 19,.mv (.t 2),none⟩,
 ⟨some 20,.call 68 [(.t 17),(.t 18),(.t 19)] (some (0,1)),none⟩,
 ⟨some 6,.mv (.t 20),none⟩,
 ⟨some 7,.mv (.k (.c (.d (.int .i64 0)))),none⟩])
 (.ret))),
 [(6,none),(7,none)]⟩
theorem cf_tag:compFn Try.prog { own:=[20],comp:=[],frz:=[],nils:=[] } Try.f49=some sf_tag:=by kernel_rfl
theorem tag_f (G:Glob) (key:List UInt8) (ad:List (List UInt8)) (b:List UInt8) (hk:key.length≤9223372036854775807) (hl:ad.length≤9223372036854775807) (hx:∀ x∈ad,x.length≤9223372036854775807) (hb:b.length≤9223372036854775807):Den Try.prog G 49 [.sl (key.map bD),sls ad,.sl (b.map bD)] (.tup [.c (.fr 1 ((tagV key ad b).map bD)),.c (.d (.int .i64 (aeE key ad b.length)))]):=by
  refine den_walk Try.func49 cf_tag rfl rfl ?_
  have hc:=chk_c G key ad (b.length:Int) hk hl hx
  by_cases he:aeE key ad (b.length:Int)=0
  ·have hv:tagV key ad b=tagM key ad b:=if_pos he
   obtain⟨k1,k2,k3,k4⟩:=aeE_ok he
   rw[he] at hc ⊢
   rw[hv]
   simp only[sf_tag,putAll,wx,wy,wz,stV,seval,iteOmega,toNatUp,reduceCtorEq]
   refine st_call (hc) rfl (.inl rfl) ?_
   simp only[wx,wy,wz,stV,seval,iteOmega,toNatUp,reduceCtorEq]
   refine st_call (tagd_f G key ad b k1 k2 k3 (by omega)) rfl (.inl rfl) ?_
   simp only[wx,wy,wz,stV,seval,iteOmega,toNatUp,reduceCtorEq]
   exact ret_f2 (by simp only[wx,wy,wz,stV,seval,iteOmega,toNatUp,reduceCtorEq]) (by simp only[wx,wy,wz,stV,seval,iteOmega,toNatUp,reduceCtorEq])
  ·have hv:tagV key ad b=[]:=if_neg he
   rw[hv]
   have hne:aeE key ad (b.length:Int)=0↔False:=⟨he,False.elim⟩
   rcases aeE_val key ad b.length with e | e | e | e
   ·exact absurd e he
   all_goals
     rw[e] at hc ⊢
     simp only[sf_tag,putAll,wx,wy,wz,stV,seval,iteOmega,toNatUp,reduceCtorEq]
     refine st_call hc rfl (.inl rfl) ?_
     simp only[wx,wy,wz,stV,seval,iteOmega,toNatUp,reduceCtorEq]
     exact ret_f2 (by simp only[wx,wy,wz,stV,seval,iteOmega,toNatUp,reduceCtorEq]) (by simp only[wx,wy,wz,stV,seval,iteOmega,toNatUp,reduceCtorEq])
theorem tag_c (G:Glob) (key:List UInt8) (ad:List (List UInt8)) (b:List UInt8) (hk:key.length≤9223372036854775807) (hl:ad.length≤9223372036854775807) (hx:∀ x∈ad,x.length≤9223372036854775807) (hb:b.length≤9223372036854775807):Den Try.prog G 49 [.sl (key.map bD),sls ad,.sl (b.map bD)] (.tup [.c (.d (.sl ((tagV key ad b).map bD))),.c (.d (.int .i64 (aeE key ad b.length)))]):=den_ro2 (tag_f G key ad b hk hl hx hb)
def sf_seal:SFn:=⟨3,27,
 .seq (.reg [⟨some 6,.mv (.k (.c .nil)),none⟩,
 ⟨some 7,.mv (.k (.c (.d (.int .i64 0)))),none⟩])
 (.seq (.reg [⟨some 11,.mv (.t 0),none⟩,
 ⟨some 12,.mv (.t 1),none⟩,
 ⟨some 13,.mv (.t 2),none⟩,
 ⟨some 14,.call 49 [(.t 11),(.t 12),(.t 13)] none,none⟩,
 ⟨some 10,.mv (.t 14),none⟩,
 ⟨some 15,.extract (.t 10) 0,none⟩,
 ⟨some 16,.extract (.t 10) 1,none⟩,
 ⟨some 8,.mv (.t 15),none⟩,
 ⟨some 9,.mv (.t 16),none⟩])
 (.seq (.seq (.reg [⟨some 17,.mv (.t 9),none⟩,
 ⟨some 18,.bin .neq (.t 17) (.k (.c (.d (.int .i64 0)))),none⟩])
 (.cond (.t 18) (.seq (.reg [⟨some 19,.mv (.t 9),none⟩,
 ⟨some 6,.mv (.k (.c .nil)),none⟩,
 ⟨some 7,.mv (.t 19),none⟩])
 (.ret))
 (.skip)))
 (.seq (.reg [⟨some 20,.mv (.t 8),none⟩,
 ⟨some 21,.mv (.t 0),none⟩,
 ⟨some 22,.mv (.t 8),none⟩,
 ⟨some 23,.mv (.t 2),none⟩,
 ⟨some 24,.call 50 [(.t 21),(.t 22),(.t 23)] none,none⟩,
 ⟨some 25,.bldSl false 2 1 (.sl []) [(0,(.t 20)),(1,(.t 24))],none⟩,
 ⟨some 26,.call 40 [(.t 25)] (some (0,1)),none⟩,
 ⟨some 6,.mv (.t 26),none⟩,
 ⟨some 7,.mv (.k (.c (.d (.int .i64 0)))),none⟩])
 (.ret)))),
 [(6,none),(7,none)]⟩
theorem cf_seal:compFn Try.prog { own:=[26],comp:=[],frz:=[],nils:=[] } Try.f24=some sf_seal:=by kernel_rfl
theorem seal_f (G:Glob) (key:List UInt8) (ad:List (List UInt8)) (b:List UInt8) (hk:key.length≤9223372036854775807) (hl:ad.length≤9223372036854775807) (hx:∀ x∈ad,x.length≤9223372036854775807) (hb:b.length≤9223372036854775807):Den Try.prog G 24 [.sl (key.map bD),sls ad,.sl (b.map bD)] (.tup [.c (.fr 1 ((sealV key ad b).map bD)),.c (.d (.int .i64 (aeE key ad b.length)))]):=by
  refine den_walk Try.func24 cf_seal rfl rfl ?_
  have hc:=tag_c G key ad b hk hl hx hb
  by_cases he:aeE key ad (b.length:Int)=0
  ·have hv:tagV key ad b=tagM key ad b:=if_pos he
   have hv2:sealV key ad b=tagM key ad b++strS key (tagM key ad b) b:=if_pos he
   obtain⟨k1,k2,k3,k4⟩:=aeE_ok he
   have hj:=join_c G [tagM key ad b,strS key (tagM key ad b) b] (by simp) (by simp[tagM_len,strS_len]; omega)
   have hf:[tagM key ad b,strS key (tagM key ad b) b].flatten=tagM key ad b++strS key (tagM key ad b) b:=by simp
   rw[hf] at hj
   rw[he,hv] at hc
   rw[he,hv2]
   simp only[sf_seal,putAll,wx,wy,wz,stV,seval,iteOmega,toNatUp,reduceCtorEq]
   refine st_call (hc) rfl (.inl rfl) ?_
   simp only[wx,wy,wz,stV,seval,iteOmega,toNatUp,reduceCtorEq]
   refine st_call (strd_c G key (tagM key ad b) b k1 (tagM_len _ _ _) (by omega)) rfl (.inl rfl) ?_
   simp only[wx,wy,wz,stV,seval,iteOmega,toNatUp,reduceCtorEq]
   refine st_call (hj) rfl (.inl rfl) ?_
   simp only[wx,wy,wz,stV,seval,iteOmega,toNatUp,reduceCtorEq]
   exact ret_f2 (by simp only[wx,wy,wz,stV,seval,iteOmega,toNatUp,reduceCtorEq]) (by simp only[wx,wy,wz,stV,seval,iteOmega,toNatUp,reduceCtorEq])
  ·have hv:tagV key ad b=[]:=if_neg he
   have hv2:sealV key ad b=[]:=if_neg he
   rw[hv] at hc
   rw[hv2]
   rcases aeE_val key ad b.length with e | e | e | e
   ·exact absurd e he
   all_goals
     rw[e] at hc ⊢
     simp only[sf_seal,putAll,wx,wy,wz,stV,seval,iteOmega,toNatUp,reduceCtorEq]
     refine st_call hc rfl (.inl rfl) ?_
     simp only[wx,wy,wz,stV,seval,iteOmega,toNatUp,reduceCtorEq]
     exact ret_f2 (by simp only[wx,wy,wz,stV,seval,iteOmega,toNatUp,reduceCtorEq]) (by simp only[wx,wy,wz,stV,seval,iteOmega,toNatUp,reduceCtorEq])
theorem seal_c (G:Glob) (key:List UInt8) (ad:List (List UInt8)) (b:List UInt8) (hk:key.length≤9223372036854775807) (hl:ad.length≤9223372036854775807) (hx:∀ x∈ad,x.length≤9223372036854775807) (hb:b.length≤9223372036854775807):Den Try.prog G 24 [.sl (key.map bD),sls ad,.sl (b.map bD)] (.tup [.c (.d (.sl ((sealV key ad b).map bD))),.c (.d (.int .i64 (aeE key ad b.length)))]):=den_ro2 (seal_f G key ad b hk hl hx hb)
theorem opn_err {key:List UInt8} {ad:List (List UInt8)} {s:List UInt8} (h:aeE key ad ((s.length:Int)-16)≠0):opnE key ad s=aeE key ad ((s.length:Int)-16)∧opnV key ad s=[]:=by
  have:opnE key ad s=aeE key ad ((s.length:Int)-16):=if_pos h
  refine⟨this,?_⟩
  unfold opnV
  rw[if_neg (by rw[this]; exact h)]
theorem opn_short {key:List UInt8} {ad:List (List UInt8)} {s:List UInt8} (h:aeE key ad ((s.length:Int)-16)=0) (hs:s.length<16):opnE key ad s=1∧opnV key ad s=[]:=by
  have:opnE key ad s=1:=by unfold opnE; rw[if_neg (by simp[h]),if_pos hs]
  refine⟨this,?_⟩
  unfold opnV
  rw[if_neg (by rw[this]; decide)]
theorem opn_ok {key:List UInt8} {ad:List (List UInt8)} {s:List UInt8} (h:aeE key ad ((s.length:Int)-16)=0) (hs:¬ s.length<16) (ht:s.take 16=tagM key ad (strS key (s.take 16) (s.drop 16))):opnE key ad s=0∧opnV key ad s=strS key (s.take 16) (s.drop 16):=by
  have:opnE key ad s=0:=by unfold opnE; rw[if_neg (by simp[h]),if_neg hs,if_pos ht]
  exact⟨this,if_pos this⟩
theorem opn_auth {key:List UInt8} {ad:List (List UInt8)} {s:List UInt8} (h:aeE key ad ((s.length:Int)-16)=0) (hs:¬ s.length<16) (ht:s.take 16≠tagM key ad (strS key (s.take 16) (s.drop 16))):opnE key ad s=6∧opnV key ad s=[]:=by
  have:opnE key ad s=6:=by unfold opnE; rw[if_neg (by simp[h]),if_neg hs,if_neg ht]
  refine⟨this,?_⟩
  unfold opnV
  rw[if_neg (by rw[this]; decide)]
def sf_opn:SFn:=⟨3,38,
 .seq (.reg [⟨some 6,.mv (.k (.c .nil)),none⟩,
 ⟨some 7,.mv (.k (.c (.d (.int .i64 0)))),none⟩])
 (.seq (.seq (.reg [⟨some 11,.mv (.t 0),none⟩,
 ⟨some 12,.mv (.t 1),none⟩,
 ⟨some 13,.mv (.t 2),none⟩,
 ⟨some 14,.len (.t 13),none⟩,
 ⟨some 15,.bin .sub (.t 14) (.k (.c (.d (.int .i64 16)))),none⟩,
 ⟨some 16,.call 67 [(.t 11),(.t 12),(.t 15)] none,none⟩,
 ⟨some 8,.mv (.t 16),none⟩])
 (.seq (.reg [⟨some 17,.mv (.t 8),none⟩,
 ⟨some 18,.bin .neq (.t 17) (.k (.c (.d (.int .i64 0)))),none⟩])
 (.cond (.t 18) (.seq (.reg [⟨some 19,.mv (.t 8),none⟩,
 ⟨some 6,.mv (.k (.c .nil)),none⟩,
 ⟨some 7,.mv (.t 19),none⟩])
 (.ret))
 (.skip))))
 (.seq (.seq (.reg [⟨some 20,.mv (.t 2),none⟩,
 ⟨some 21,.len (.t 20),none⟩,
 ⟨some 22,.bin .lss (.t 21) (.k (.c (.d (.int .i64 16)))),none⟩])
 (.cond (.t 22) (.seq (.reg [⟨some 6,.mv (.k (.c .nil)),none⟩,
 ⟨some 7,.mv (.k (.c (.d (.int .i64 1)))),none⟩])
 (.ret))
 (.skip)))
 (.seq (.reg [⟨some 23,.mv (.t 2),none⟩,
 ⟨some 24,.slice 1 (.t 23) none (some (.k (.c (.d (.int .i64 16))))) none,none⟩,
 ⟨some 9,.mv (.t 24),none⟩])
 (.seq (.reg [⟨some 25,.mv (.t 0),none⟩,
 ⟨some 26,.mv (.t 9),none⟩,
 ⟨some 27,.mv (.t 2),none⟩,
 ⟨some 28,.slice 1 (.t 27) (some (.k (.c (.d (.int .i64 16))))) none none,none⟩,
 ⟨some 29,.call 50 [(.t 25),(.t 26),(.t 28)] (some (0,1)),none⟩,
 ⟨some 10,.mv (.t 29),none⟩])
 (.seq (.seq (.reg [⟨some 30,.mv (.t 9),none⟩,
 ⟨some 31,.mv (.t 0),none⟩,
 ⟨some 32,.mv (.t 1),none⟩,
 ⟨some 33,.mv (.t 10),none⟩,
 ⟨some 34,.call 68 [(.t 31),(.t 32),(.t 33)] none,none⟩,
 ⟨some 35,.call 64 [(.t 30),(.t 34)] none,none⟩,
 ⟨some 36,.un .not (.t 35),none⟩])
 (.cond (.t 36) (.seq (.reg [⟨some 6,.mv (.k (.c .nil)),none⟩,
 ⟨some 7,.mv (.k (.c (.d (.int .i64 6)))),none⟩])
 (.ret))
 (.skip)))
 (.seq (.reg [⟨some 37,.mv (.t 10),none⟩,
 ⟨some 6,.mv (.t 37),none⟩,
 ⟨some 7,.mv (.k (.c (.d (.int .i64 0)))),none⟩])
 (.ret))))))),
 [(6,none),(7,none)]⟩
theorem cf_opn:compFn Try.prog { own:=[29],comp:=[],frz:=[],nils:=[] } Try.f44=some sf_opn:=by kernel_rfl
theorem opn_f (G:Glob) (key:List UInt8) (ad:List (List UInt8)) (s:List UInt8) (hk:key.length≤9223372036854775807) (hl:ad.length≤9223372036854775807) (hx:∀ x∈ad,x.length≤9223372036854775807) (hb:s.length≤9223372036854775807):Den Try.prog G 44 [.sl (key.map bD),sls ad,.sl (s.map bD)] (.tup [.c (.fr 1 ((opnV key ad s).map bD)),.c (.d (.int .i64 (opnE key ad s)))]):=by
  refine den_walk Try.func44 cf_opn rfl rfl ?_
  have hc:=chk_c G key ad ((s.length:Int)-16) hk hl hx
  by_cases he:aeE key ad ((s.length:Int)-16)=0
  ·obtain⟨k1,k2,k3,k4⟩:=aeE_ok he
   rw[he] at hc
   by_cases hs:s.length<16
   ·obtain⟨e1,e2⟩:=opn_short he hs
    rw[e1,e2]
    simp only[sf_opn,putAll,wx,wy,wz,stV,seval,iteOmega,toNatUp,reduceCtorEq]
    refine st_call (hc) rfl (.inl rfl) ?_
    simp only[wx,wy,wz,stV,seval,iteOmega,toNatUp,reduceCtorEq]
    exact ret_f2 (by simp only[wx,wy,wz,stV,seval,iteOmega,toNatUp,reduceCtorEq]) (by simp only[wx,wy,wz,stV,seval,iteOmega,toNatUp,reduceCtorEq])
   ·have ht:(s.take 16).length=16:=by rw[List.length_take]; omega
    have hd:(s.drop 16).length=s.length-16:=List.length_drop
    have hd2:(s.drop 16).take (s.length-16)=s.drop 16:=List.take_of_length_le (by omega)
    have c1:=strd_f G key (s.take 16) (s.drop 16) k1 ht (by omega)
    have c2:=tagd_f G key ad (strS key (s.take 16) (s.drop 16)) k1 k2 k3 (by rw[strS_len]; omega)
    have c3:=same_c G (s.take 16) (tagM key ad (strS key (s.take 16) (s.drop 16)))
    by_cases hq:s.take 16=tagM key ad (strS key (s.take 16) (s.drop 16))
    ·obtain⟨e1,e2⟩:=opn_ok he hs hq
     have hb:(s.take 16==tagM key ad (strS key (s.take 16) (s.drop 16)))=true:=beq_iff_eq.2 hq
     rw[hb] at c3
     rw[e1,e2]
     simp only[sf_opn,putAll,wx,wy,wz,stV,seval,iteOmega,toNatUp,reduceCtorEq]
     refine st_call (hc) rfl (.inl rfl) ?_
     simp only[hd2,wx,wy,wz,stV,seval,iteOmega,toNatUp,reduceCtorEq]
     refine st_call (c1) rfl (.inl rfl) ?_
     simp only[wx,wy,wz,stV,seval,iteOmega,toNatUp,reduceCtorEq]
     refine st_call (c2) (by simp only[wx,wy,wz,stV,seval,iteOmega,toNatUp,reduceCtorEq]) (.inr (fl_b _ _)) ?_
     simp only[wx,wy,wz,stV,seval,iteOmega,toNatUp,reduceCtorEq]
     refine st_call (c3) rfl (.inl rfl) ?_
     simp only[wx,wy,wz,stV,seval,iteOmega,toNatUp,reduceCtorEq]
     exact ret_f2 (by simp only[wx,wy,wz,stV,seval,iteOmega,toNatUp,reduceCtorEq]) (by simp only[wx,wy,wz,stV,seval,iteOmega,toNatUp,reduceCtorEq])
    ·obtain⟨e1,e2⟩:=opn_auth he hs hq
     have hb:(s.take 16==tagM key ad (strS key (s.take 16) (s.drop 16)))=false:=by simpa using hq
     rw[hb] at c3
     rw[e1,e2]
     simp only[sf_opn,putAll,wx,wy,wz,stV,seval,iteOmega,toNatUp,reduceCtorEq]
     refine st_call (hc) rfl (.inl rfl) ?_
     simp only[hd2,wx,wy,wz,stV,seval,iteOmega,toNatUp,reduceCtorEq]
     refine st_call (c1) rfl (.inl rfl) ?_
     simp only[wx,wy,wz,stV,seval,iteOmega,toNatUp,reduceCtorEq]
     refine st_call (c2) (by simp only[wx,wy,wz,stV,seval,iteOmega,toNatUp,reduceCtorEq]) (.inr (fl_b _ _)) ?_
     simp only[wx,wy,wz,stV,seval,iteOmega,toNatUp,reduceCtorEq]
     refine st_call (c3) rfl (.inl rfl) ?_
     simp only[wx,wy,wz,stV,seval,iteOmega,toNatUp,reduceCtorEq]
     exact ret_f2 (by simp only[wx,wy,wz,stV,seval,iteOmega,toNatUp,reduceCtorEq]) (by simp only[wx,wy,wz,stV,seval,iteOmega,toNatUp,reduceCtorEq])
  ·obtain⟨e1,e2⟩:=opn_err he
   rw[e1,e2]
   rcases aeE_val key ad ((s.length:Int)-16) with e | e | e | e
   ·exact absurd e he
   all_goals
     rw[e] at hc ⊢
     simp only[sf_opn,putAll,wx,wy,wz,stV,seval,iteOmega,toNatUp,reduceCtorEq]
     refine st_call hc rfl (.inl rfl) ?_
     simp only[wx,wy,wz,stV,seval,iteOmega,toNatUp,reduceCtorEq]
     exact ret_f2 (by simp only[wx,wy,wz,stV,seval,iteOmega,toNatUp,reduceCtorEq]) (by simp only[wx,wy,wz,stV,seval,iteOmega,toNatUp,reduceCtorEq])
theorem opn_c (G:Glob) (key:List UInt8) (ad:List (List UInt8)) (s:List UInt8) (hk:key.length≤9223372036854775807) (hl:ad.length≤9223372036854775807) (hx:∀ x∈ad,x.length≤9223372036854775807) (hb:s.length≤9223372036854775807):Den Try.prog G 44 [.sl (key.map bD),sls ad,.sl (s.map bD)] (.tup [.c (.d (.sl ((opnV key ad s).map bD))),.c (.d (.int .i64 (opnE key ad s)))]):=den_ro2 (opn_f G key ad s hk hl hx hb)
end Go.Proofs.Ytcikhnjfkfigjaa
namespace Go.Proofs.Ytcikhnjfkfigjaa
open Go.RowKit
theorem aeE_zero {key:List UInt8} {ad:List (List UInt8)} {n:Int} (h:key.length=32) (h2:ad.length≤16) (h3:∀ x∈ad,x.length≤65519) (h4:n≤65519):aeE key ad n=0:=by
  have:longA ad=false:=by
    unfold longA
    rw[List.any_eq_false]
    intro x hx
    have:=h3 x hx
    simpa using this
  unfold aeE
  rw[if_neg (by omega),if_neg (by omega),if_neg (by rw[this]; simp; omega)]
theorem strS_twice (key tag b:List UInt8):strS key tag (strS key tag b)=b:=strmC_twice _ _ _
theorem sealV_ok {key b:List UInt8} {ad:List (List UInt8)} (h:aeE key ad b.length=0):sealV key ad b=tagM key ad b++strS key (tagM key ad b) b:=if_pos h
theorem seal_take {key b:List UInt8} {ad:List (List UInt8)} (T:List UInt8):(tagM key ad b++T).take 16=tagM key ad b:=by
  rw[List.take_append_of_le_length (by rw[tagM_len]; exact Nat.le_refl _),List.take_of_length_le (by rw[tagM_len]; exact Nat.le_refl _)]
theorem seal_drop {key b:List UInt8} {ad:List (List UInt8)} (T:List UInt8):(tagM key ad b++T).drop 16=T:=by
  have:=List.drop_left (l₁:=tagM key ad b) (l₂:=T)
  rw[tagM_len] at this
  exact this
theorem opn_seal {key b:List UInt8} {ad:List (List UInt8)} (h:aeE key ad b.length=0):opnE key ad (tagM key ad b++strS key (tagM key ad b) b)=0∧opnV key ad (tagM key ad b++strS key (tagM key ad b) b)=b:=by
  have hl:(tagM key ad b++strS key (tagM key ad b) b).length=16+b.length:=by rw[List.length_append,tagM_len,strS_len]
  have he:aeE key ad (((tagM key ad b++strS key (tagM key ad b) b).length:Int)-16)=0:=by rw[hl,show ((16+b.length:Nat):Int)-16=(b.length:Int) by omega]; exact h
  obtain⟨e1,e2⟩:=opn_ok he (by omega) (by rw[seal_take,seal_drop,strS_twice])
  refine⟨e1,?_⟩
  rw[e2,seal_take,seal_drop,strS_twice]
end Go.Proofs.Ytcikhnjfkfigjaa
