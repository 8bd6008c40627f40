/- Texts of one's own, merged: from: Layer 4 on data: the stream,in the reference. Own work. -/
import Derived.Test.YtcikhnjfkfigjaaGreatMg110
import Derived.Test.YtcikhnjfkfigjaaGreatMg17
set_option linter.unusedVariables false
set_option linter.unusedSimpArgs false
namespace Go.Proofs.YtcikhnjfkfigjaaGreat
open Go.RowKit
theorem padC_get (rk c:List UInt8) {n k:Nat} (hk:k<16):∀ {m:Nat},n<m→(padC rk c m)[16*n+k]?=(encK rk (ctrC c n))[k]?
  | 0,h=>by omega
  | m+1,h=>by
    rw[padC]
    by_cases e:n=m
    ·subst e
     rw[List.getElem?_append_right (by rw[padC_len]; omega),padC_len,Nat.add_sub_cancel_left]
    ·rw[List.getElem?_append_left (by rw[padC_len]; omega)]
     exact padC_get rk c hk (by omega)
theorem strm_get (rk c b:List UInt8) {n k:Nat} (hk:k<16) (h:16*n+k<b.length):(strmC rk c b)[16*n+k]?=some (xorB (b.getD (16*n+k) 0) ((encK rk (ctrC c n)).getD k 0)):=by
  unfold strmC xorL
  rw[List.getElem?_zipWith,padC_get rk c hk (by omega),get_lt h,get_lt (by rw[encK_len]; exact hk)]
def oT (rk c b:List UInt8) (j:Nat):List UInt8:=(strmC rk c b).take j
theorem oT_len (rk c b:List UInt8) (j:Nat):(oT rk c b j).length=min j b.length:=by unfold oT; rw[List.length_take,strmC_len]
theorem oT_full (rk c b:List UInt8) {j:Nat} (h:b.length≤j):oT rk c b j=strmC rk c b:=List.take_of_length_le (by rw[strmC_len]; exact h)
theorem oT_step (rk c b:List UInt8) {n k:Nat} (hk:k<16) (h:16*n+k<b.length):oT rk c b (16*n+k)++[xorB (b.getD (16*n+k) 0) ((encK rk (ctrC c n)).getD k 0)]=oT rk c b (16*n+k+1):=by
  unfold oT; rw[List.take_add_one,strm_get rk c b hk h]; rfl
theorem ctrC_16 {c:List UInt8} (h:c.length=16) (n:Nat):(ctrC c n).length=16:=by rw[ctrC_len]; exact h
theorem nexV_ctr {c:List UInt8} (h:c.length=16) (n:Nat):nexV (ctrC c n)=ctrC c (n+1):=by unfold nexV; rw[if_pos (ctrC_16 h n)]; rfl
def strmE (key c b:List UInt8):Int:=if key.length≠16 then 5 else if c.length≠16 then 3 else if 65535<b.length then 2 else 0
def strmV (key c b:List UInt8):List UInt8:=if key.length=16∧c.length=16∧b.length≤65535 then strmC (rkK key) c b else []
theorem strmE_key {key:List UInt8} (c b:List UInt8) (h:key.length≠16):strmE key c b=5:=if_pos h
theorem strmE_ctr {key c:List UInt8} (b:List UInt8) (h:key.length=16) (h2:c.length≠16):strmE key c b=3:=by unfold strmE; rw[if_neg (by simp[h]),if_pos h2]
theorem strmE_long {key c b:List UInt8} (h:key.length=16) (h2:c.length=16) (h3:65535<b.length):strmE key c b=2:=by unfold strmE; rw[if_neg (by simp[h]),if_neg (by simp[h2]),if_pos h3]
theorem strmE_ok {key c b:List UInt8} (h:key.length=16) (h2:c.length=16) (h3:b.length≤65535):strmE key c b=0:=by unfold strmE; rw[if_neg (by simp[h]),if_neg (by simp[h2]),if_neg (by omega)]
theorem strmV_ok {key c b:List UInt8} (h:key.length=16) (h2:c.length=16) (h3:b.length≤65535):strmV key c b=strmC (rkK key) c b:=if_pos ⟨h,h2,h3⟩
theorem strmV_no {key c b:List UInt8} (h:¬ (key.length=16∧c.length=16∧b.length≤65535)):strmV key c b=[]:=if_neg h
theorem oT0 (rk c b:List UInt8):oT rk c b 0=[]:=List.take_zero
def rst1 (key c b:List UInt8) (n:Nat):St:=⟨ofL [(1,.w (.c (.d (.sl ((ctrC c n).map bD))))),(2,.w (.c (.d (.sl (b.map bD))))),(8,.w (.c (.ptr 2 1 0 0))),(9,.w (.c (.own 1 1 0 (oT (rkK key) c b (16*n)).length))),(10,.w (.c (.d (.int .i64 ((16*n:Nat):Int)))))],hL [(1,.row 1 ((oT (rkK key) c b (16*n)).map bD)),(2,.box ((macM4 key).map bC))],uL [1,2]⟩
def rst0 (key c b:List UInt8) (n k:Nat):St:=⟨ofL [(1,.w (.c (.d (.sl ((ctrC c n).map bD))))),(2,.w (.c (.d (.sl (b.map bD))))),(8,.w (.c (.ptr 2 1 0 0))),(9,.w (.c (.own 1 1 0 (oT (rkK key) c b (16*n+k)).length))),(10,.w (.c (.d (.int .i64 ((16*n:Nat):Int))))),(11,.w (.c (.d (.sl ((encK (rkK key) (ctrC c n)).map bD))))),(12,.w (.c (.d (.int .i64 (k:Int)))))],hL [(1,.row 1 ((oT (rkK key) c b (16*n+k)).map bD)),(2,.box ((macM4 key).map bC))],uL [1,2]⟩
def lp_rstm_0:SCode :=
 .seq (.seq (.reg [⟨(some 34),.mv (.t 12),none⟩,
 ⟨(some 35),.bin .lss (.t 34) (.k (.c (.d (.int .i64 16)))),none⟩,
 ⟨(some 36),.mv (.t 35),none⟩,
 ⟨(some 37),.mv (.t 10),(some (36,true))⟩,
 ⟨(some 38),.mv (.t 12),(some (36,true))⟩,
 ⟨(some 39),.bin .add (.t 37) (.t 38),(some (36,true))⟩,
 ⟨(some 40),.mv (.t 2),(some (36,true))⟩,
 ⟨(some 41),.len (.t 40),(some (36,true))⟩,
 ⟨(some 42),.bin .lss (.t 39) (.t 41),(some (36,true))⟩,
 ⟨(some 43),.pick (.t 36) (.t 42) (.k (.c (.d (.bool false)))),none⟩])
 (.cond (.t 43) (.skip)
 (.exit 2)))
 (.seq (.block 3 (.reg [⟨(some 46),.mv (.t 9),none⟩,
 ⟨(some 47),.mv (.t 2),none⟩,
 ⟨(some 48),.mv (.t 10),none⟩,
 ⟨(some 49),.mv (.t 12),none⟩,
 ⟨(some 50),.bin .add (.t 48) (.t 49),none⟩,
 ⟨(some 51),.idxSl 1 (.t 47) (.t 50),none⟩,
 ⟨(some 52),.load .sc (.t 51),none⟩,
 ⟨(some 53),.mv (.t 11),none⟩,
 ⟨(some 54),.mv (.t 12),none⟩,
 ⟨(some 55),.idxSl 1 (.t 53) (.t 54),none⟩,
 ⟨(some 56),.load .sc (.t 55),none⟩,
 ⟨(some 57),.bin .xor (.t 52) (.t 56),none⟩,
 ⟨(some 58),.bldSl false 1 1 (.int .u8 0) [(0,(.t 57))],none⟩,
 ⟨(some 59),.app false 1 1 (.t 46) (.t 58),none⟩,
 ⟨(some 9),.mv (.t 59),none⟩]))
 (.reg [⟨(some 44),.mv (.t 12),none⟩,
 ⟨(some 45),.bin .add (.t 44) (.k (.c (.d (.int .i64 1)))),none⟩,
 ⟨(some 12),.mv (.t 45),none⟩]))
def lp_rstm_1:SCode :=
 .seq (.seq (.reg [⟨(some 25),.mv (.t 10),none⟩,
 ⟨(some 26),.mv (.t 2),none⟩,
 ⟨(some 27),.len (.t 26),none⟩,
 ⟨(some 28),.bin .lss (.t 25) (.t 27),none⟩])
 (.cond (.t 28) (.skip)
 (.exit 0)))
 (.seq (.block 1 (.seq (.reg [⟨(some 31),.load (.ag 688) (.t 8),none⟩,
 ⟨(some 32),.mv (.t 1),none⟩,
 ⟨(some 33),.call 94 [(.t 31),(.t 32)] none,none⟩,
 ⟨(some 11),.mv (.t 33),none⟩])
 (.seq (.seq (.reg [⟨(some 12),.mv (.k (.c (.d (.int .i64 0)))),none⟩])
 (.block 2 (.loop lp_rstm_0)))
 (.reg [⟨(some 60),.mv (.t 1),none⟩,
 ⟨(some 61),.call 95 [(.t 60)] none,none⟩,
 ⟨(some 1),.mv (.t 61),none⟩]))))
 (.reg [⟨(some 29),.mv (.t 10),none⟩,
 ⟨(some 30),.bin .add (.t 29) (.k (.c (.d (.int .i64 16)))),none⟩,
 ⟨(some 10),.mv (.t 30),none⟩]))
def sf_rstm:SFn:=⟨3,63,
 .seq (.reg [⟨(some 6),.mv (.k (.c .nil)),none⟩,
 ⟨(some 7),.mv (.k (.c (.d (.int .i64 0)))),none⟩])
 (.seq (.seq (.reg [⟨(some 13),.mv (.t 0),none⟩,
 ⟨(some 14),.len (.t 13),none⟩,
 ⟨(some 15),.bin .neq (.t 14) (.k (.c (.d (.int .i64 16)))),none⟩])
 (.cond (.t 15) (.seq (.reg [⟨(some 6),.mv (.k (.c .nil)),none⟩,
 ⟨(some 7),.mv (.k (.c (.d (.int .i64 5)))),none⟩])
 (.ret))
 (.skip)))
 (.seq (.seq (.reg [⟨(some 16),.mv (.t 1),none⟩,
 ⟨(some 17),.len (.t 16),none⟩,
 ⟨(some 18),.bin .neq (.t 17) (.k (.c (.d (.int .i64 16)))),none⟩])
 (.cond (.t 18) (.seq (.reg [⟨(some 6),.mv (.k (.c .nil)),none⟩,
 ⟨(some 7),.mv (.k (.c (.d (.int .i64 3)))),none⟩])
 (.ret))
 (.skip)))
 (.seq (.seq (.reg [⟨(some 19),.mv (.t 2),none⟩,
 ⟨(some 20),.len (.t 19),none⟩,
 ⟨(some 21),.bin .gtr (.t 20) (.k (.c (.d (.int .i64 65535)))),none⟩])
 (.cond (.t 21) (.seq (.reg [⟨(some 6),.mv (.k (.c .nil)),none⟩,
 ⟨(some 7),.mv (.k (.c (.d (.int .i64 2)))),none⟩])
 (.ret))
 (.skip)))
 (.seq (.reg [⟨(some 22),.mv (.t 0),none⟩,
 ⟨(some 23),.call 93 [(.t 22)] none,none⟩,
 ⟨(some 8),.alloc (repL 688 (.d (.int .u8 0))),none⟩,
 ⟨none,.store (.ag 688) (.t 8) (.t 23),none⟩])
 (.seq (.reg [⟨(some 24),.bldSl true 0 1 (.int .u8 0) [],none⟩,
 ⟨(some 9),.mv (.t 24),none⟩])
 (.seq (.seq (.reg [⟨(some 10),.mv (.k (.c (.d (.int .i64 0)))),none⟩])
 (.block 0 (.loop lp_rstm_1)))
 (.seq (.reg [⟨(some 62),.mv (.t 9),none⟩,
 ⟨(some 6),.mv (.t 62),none⟩,
 ⟨(some 7),.mv (.k (.c (.d (.int .i64 0)))),none⟩])
 (.ret)))))))),
 [(6,none),(7,none)]⟩
theorem cf_rstm:compFn Tryz.prog { own:=[24],comp:=[],frz:=[],nils:=[] } Tryz.f65=some sf_rstm:=by kernel_rfl
set_option maxRecDepth 20000 in
set_option maxHeartbeats 3200000 in
theorem rstm_f (G:Glob) (key c b:List UInt8) (hk:key.length≤9223372036854775807) (hc:c.length≤9223372036854775807) (hb:b.length≤9223372036854775807):Den Tryz.prog G 65 [.sl (key.map bD),.sl (c.map bD),.sl (b.map bD)] (.tup [.c (.fr 1 ((strmV key c b).map bD)),.c (.d (.int .i64 (strmE key c b)))]):=by
  refine den_walk Tryz.func65 cf_rstm rfl rfl ?_
  by_cases h:key.length=16
  ·by_cases h2:c.length=16
   ·by_cases h3:b.length≤65535
    ·have hM:=macM4_len h
     have r4:List.drop 688 (repL 688 (0:UInt8))=[]:=List.drop_eq_nil_of_le (by rw[repL_len]; omega)
     rw[strmE_ok h h2 h3,strmV_ok h h2 h3]
     simp only[sf_rstm,putAll,wx,wy,wz,stV,seval,IntWalk.iteOmega,IntWalk.toNatUp,reduceCtorEq,h,h2,repL_bC]
     refine st_call (prep_c G key h) rfl (.inl rfl) ?_
     simp only[len_map,hM,repL_len,map_C,drop_map,app_map,r4,List.append_nil,wx,wy,wz,stV,seval,IntWalk.iteOmega,IntWalk.toNatUp,reduceCtorEq]
     refine loop_st (rst1 key c b) (fun n=>(b.length+15) / 16-n) (fun n=>16*n<b.length+16) 0 (by omega) ?_ ?_
     ·refine ent_l (fun i=>if i=1 then 192 else 64) ?_ ?_ rfl (by simp[V.ids,W.ids,C.ids,Ob.ids,ids_bC]) <;> simp only[wx,wex,wez,stV,seval,IntWalk.iteOmega,IntWalk.toNatUp,reduceCtorEq,ren_bC,ids_bC,Nat.mul_zero,oT0,List.length_nil,List.map_nil] <;> rfl
     ·intro n hn
      have hT:=oT_len (rkK key) c b (16*n)
      by_cases hlt:16*n<b.length
      ·have t1:(macM4 key).take 688=macM4 key:=List.take_of_length_le (by omega)
       simp only[lp_rstm_1,rst1,wx,wy,wz,stV,seval,IntWalk.iteOmega,IntWalk.toNatUp,reduceCtorEq,len_map,hM,take_map,t1,allD_bs]
       refine st_call (renc_c G key (ctrC c n) h (ctrC_16 h2 n)) rfl (.inl rfl) ?_
       simp only[wx,wy,wz,stV,seval,IntWalk.iteOmega,IntWalk.toNatUp,reduceCtorEq]
       have hen:blockC key (ctrC c n)=encK (rkK key) (ctrC c n):=rfl
       rw[hen]
       refine loop_st (rst0 key c b n) (fun k=>16-k) (fun k=>k≤16∧16*n+k≤b.length) 0 ⟨by omega,by omega⟩ ?_ ?_
       ·refine ent_l (fun i=>i) ?_ ?_ rfl (by simp[V.ids,W.ids,C.ids,Ob.ids,ids_bC]) <;> simp only[wx,wex,wez,stV,seval,IntWalk.iteOmega,IntWalk.toNatUp,reduceCtorEq,ren_bC,ids_bC,Nat.add_zero]
       ·rintro k ⟨hk16,hkb⟩
        have hTk:=oT_len (rkK key) c b (16*n+k)
        have hTk1:=oT_len (rkK key) c b (16*n+k+1)
        by_cases hgo:k<16∧16*n+k<b.length
        ·obtain⟨hk1,hk2⟩:=hgo
         have g1:b[16*n+k]?=some (b.getD (16*n+k) 0):=get_lt hk2
         have hel:=encK_len (rkK key) (ctrC c n)
         have g2:(encK (rkK key) (ctrC c n))[k]?=some ((encK (rkK key) (ctrC c n)).getD k 0):=get_lt (by omega)
         have x1:=binV_xorB (b.getD (16*n+k) 0) ((encK (rkK key) (ctrC c n)).getD k 0)
         have ho:=oT_step (rkK key) c b hk1 hk2
         simp only[lp_rstm_0,rst0,wx,wy,wz,stV,seval,IntWalk.iteOmega,IntWalk.toNatUp,reduceCtorEq,get_map,g1,g2,x1,hel,srcV]
         refine lop_next (k+1) (by omega) ⟨by omega,by omega⟩ (ent_l (fun i=>if i=1 then 472 else i) ?_ ?_ rfl (by simp[V.ids,W.ids,C.ids,Ob.ids,ids_bC])) <;> simp only[wx,wex,wez,stV,seval,IntWalk.iteOmega,IntWalk.toNatUp,reduceCtorEq,ren_bC,ids_bC]
         ·rw[show 16*n+(k+1)=16*n+k+1 from rfl,hTk,hTk1,show min (16*n+k) b.length+1=min (16*n+k+1) b.length by omega]
         ·rw[← Nat.add_assoc,← ho,List.map_append]; rfl
        ·have e:oT (rkK key) c b (16*n+k)=oT (rkK key) c b (16*(n+1)):=by
           by_cases h16:k=16
           ·rw[h16,show 16*n+16=16*(n+1) by omega]
           ·rw[oT_full _ _ _ (by omega),oT_full _ _ _ (by omega)]
         have hx:=rnex_c G (ctrC c n) (by rw[ctrC_16 h2]; omega)
         rw[nexV_ctr h2] at hx
         by_cases h16:k<16
         ·have hnl:¬ 16*n+k<b.length:=by omega
          simp only[lp_rstm_0,rst0,e,wx,wy,wz,stV,seval,IntWalk.iteOmega,IntWalk.toNatUp,reduceCtorEq]
          refine st_call (hx) rfl (.inl rfl) ?_
          simp only[wx,wy,wz,stV,seval,IntWalk.iteOmega,IntWalk.toNatUp,reduceCtorEq]
          refine lop_next (n+1) (by omega) (by omega) (ent_l (fun i=>i) ?_ ?_ rfl (by simp[V.ids,W.ids,C.ids,Ob.ids,ids_bC])) <;> simp only[wx,wex,wez,stV,seval,IntWalk.iteOmega,IntWalk.toNatUp,reduceCtorEq,ren_bC,ids_bC]
          rw[show (16*(n:Int)+16)=16*((n:Int)+1) by omega]
         ·simp only[lp_rstm_0,rst0,e,wx,wy,wz,stV,seval,IntWalk.iteOmega,IntWalk.toNatUp,reduceCtorEq]
          refine st_call (hx) rfl (.inl rfl) ?_
          simp only[wx,wy,wz,stV,seval,IntWalk.iteOmega,IntWalk.toNatUp,reduceCtorEq]
          refine lop_next (n+1) (by omega) (by omega) (ent_l (fun i=>i) ?_ ?_ rfl (by simp[V.ids,W.ids,C.ids,Ob.ids,ids_bC])) <;> simp only[wx,wex,wez,stV,seval,IntWalk.iteOmega,IntWalk.toNatUp,reduceCtorEq,ren_bC,ids_bC]
          rw[show (16*(n:Int)+16)=16*((n:Int)+1) by omega]
      ·have e:=oT_full (rkK key) c b (j:=16*n) (by omega)
       have hl:=strmC_len (rkK key) c b
       simp only[lp_rstm_1,rst1,e,wx,wy,wz,stV,seval,IntWalk.iteOmega,IntWalk.toNatUp,reduceCtorEq,hl]
       have ht:(strmC (rkK key) c b).take b.length=strmC (rkK key) c b:=List.take_of_length_le (by omega)
       exact ret_f2 (by simp only[wx,wy,wz,stV,seval,IntWalk.iteOmega,IntWalk.toNatUp,reduceCtorEq,len_map,hl,take_map,ht]) (by simp only[wx,wy,wz,stV,seval,IntWalk.iteOmega,IntWalk.toNatUp,reduceCtorEq])
    ·rw[strmE_long h h2 (by omega),strmV_no (by omega)]
     simp only[sf_rstm,putAll,wx,wy,wz,stV,seval,IntWalk.iteOmega,IntWalk.toNatUp,reduceCtorEq,h,h2]
     exact ret_f2 (by simp only[wx,wy,wz,stV,seval,IntWalk.iteOmega,IntWalk.toNatUp,reduceCtorEq]) (by simp only[wx,wy,wz,stV,seval,IntWalk.iteOmega,IntWalk.toNatUp,reduceCtorEq])
   ·rw[strmE_ctr b h h2,strmV_no (by omega)]
    simp only[sf_rstm,putAll,wx,wy,wz,stV,seval,IntWalk.iteOmega,IntWalk.toNatUp,reduceCtorEq,h]
    exact ret_f2 (by simp only[wx,wy,wz,stV,seval,IntWalk.iteOmega,IntWalk.toNatUp,reduceCtorEq]) (by simp only[wx,wy,wz,stV,seval,IntWalk.iteOmega,IntWalk.toNatUp,reduceCtorEq])
  ·rw[strmE_key c b h,strmV_no (by omega)]
   simp only[sf_rstm,putAll,wx,wy,wz,stV,seval,IntWalk.iteOmega,IntWalk.toNatUp,reduceCtorEq]
   exact ret_f2 (by simp only[wx,wy,wz,stV,seval,IntWalk.iteOmega,IntWalk.toNatUp,reduceCtorEq]) (by simp only[wx,wy,wz,stV,seval,IntWalk.iteOmega,IntWalk.toNatUp,reduceCtorEq])
theorem rstm_c (G:Glob) (key c b:List UInt8) (hk:key.length≤9223372036854775807) (hc:c.length≤9223372036854775807) (hb:b.length≤9223372036854775807):Den Tryz.prog G 65 [.sl (key.map bD),.sl (c.map bD),.sl (b.map bD)] (.tup [.c (.d (.sl ((strmV key c b).map bD))),.c (.d (.int .i64 (strmE key c b)))]):=den_ro2 (rstm_f G key c b hk hc hb)
end Go.Proofs.YtcikhnjfkfigjaaGreat
set_option linter.unusedVariables false
set_option linter.unusedSimpArgs false
namespace Go.Proofs.YtcikhnjfkfigjaaGreat
open Go.RowKit
end Go.Proofs.YtcikhnjfkfigjaaGreat
set_option linter.unusedVariables false
set_option linter.unusedSimpArgs false
namespace Go.Proofs.YtcikhnjfkfigjaaGreat
open Go.RowKit
theorem fl_by (s:Nat) (l:List UInt8) (k:IntKind) (n:Int):V.flat (.tup [.c (.fr s (l.map bD)),.c (.d (.int k n))])=true:=by
  have:=fl_b s l
  simp only[V.flat,W.flat,List.all_cons,List.all_nil,Bool.and_true] at this ⊢
  rw[this]; rfl
def sf_beq:SFn:=⟨2,10,
 .seq (.reg [⟨(some 4),.mv (.k (.c (.d (.bool false)))),none⟩])
 (.seq (.reg [⟨(some 5),.mv (.t 0),none⟩,
 ⟨(some 6),.b2s (.t 5),none⟩,
 ⟨(some 7),.mv (.t 1),none⟩,
 ⟨(some 8),.b2s (.t 7),none⟩,
 ⟨(some 9),.bin .eql (.t 6) (.t 8),none⟩,
 ⟨(some 4),.mv (.t 9),none⟩])
 (.ret)),
 [(4,none)]⟩
theorem cf_beq:compFn Tryz.prog { own:=[],comp:=[],frz:=[],nils:=[] } Tryz.f99=some sf_beq:=by kernel_rfl
theorem beq_c (G:Glob) (l m:List UInt8):Den Tryz.prog G 99 [.sl (l.map bD),.sl (m.map bD)] (.w (.c (.d (.bool (l==m))))):=by
  refine den_walk Tryz.func99 cf_beq rfl rfl ?_
  simp only[sf_beq,putAll,wx,stV,seval,IntWalk.iteOmega,IntWalk.toNatUp,reduceCtorEq,ofBs_map,binS_same]
  exact ret_d (by simp only[wx,stV,seval,IntWalk.iteOmega,IntWalk.toNatUp,reduceCtorEq])
def sf_same:SFn:=⟨2,8,
 .seq (.reg [⟨(some 4),.mv (.k (.c (.d (.bool false)))),none⟩])
 (.seq (.reg [⟨(some 5),.mv (.t 0),none⟩,
 ⟨(some 6),.mv (.t 1),none⟩,
 ⟨(some 7),.call 99 [(.t 5),(.t 6)] none,none⟩,
 ⟨(some 4),.mv (.t 7),none⟩])
 (.ret)),
 [(4,none)]⟩
theorem cf_same:compFn Tryz.prog { own:=[],comp:=[],frz:=[],nils:=[] } Tryz.f77=some sf_same:=by kernel_rfl
theorem same_c (G:Glob) (l m:List UInt8):Den Tryz.prog G 77 [.sl (l.map bD),.sl (m.map bD)] (.w (.c (.d (.bool (l==m))))):=by
  refine den_walk Tryz.func77 cf_same rfl rfl ?_
  simp only[sf_same,putAll,wx,wy,wz,stV,seval,IntWalk.iteOmega,IntWalk.toNatUp,reduceCtorEq]
  refine st_call (beq_c G l m) rfl (.inl rfl) ?_
  simp only[wx,wy,wz,stV,seval,IntWalk.iteOmega,IntWalk.toNatUp,reduceCtorEq]
  exact ret_d1 (by simp only[wx,wy,wz,stV,seval,IntWalk.iteOmega,IntWalk.toNatUp,reduceCtorEq])
end Go.Proofs.YtcikhnjfkfigjaaGreat
set_option linter.unusedVariables false
set_option linter.unusedSimpArgs false
namespace Go.Proofs.YtcikhnjfkfigjaaGreat
open Go.RowKit
theorem putL_snoc (v k:Nat):putL v (k+1)=putL (v / 256) k++[UInt8.ofNat v]:=by
  unfold putL
  rw[List.range_succ,List.map_append]
  congr 1
  ·apply List.map_congr_left
   intro i hi
   have hi':i<k:=List.mem_range.1 hi
   rw[show k+1-1-i=(k-1-i)+1 by omega,Nat.pow_succ,Nat.mul_comm,← Nat.div_div_eq_div_mul]
  ·simp
theorem getN_one (a:List UInt8) (x:UInt8):getN (a++[x])=(getN a*256+x.toNat)%18446744073709551616:=by simp[getN]
theorem pow_le8 {k:Nat} (h:k≤8):256^k≤18446744073709551616:=Nat.le_trans (Nat.pow_le_pow_right (by decide) h) (by decide)
theorem get_put (k:Nat) (h:k≤8):∀ v,getN (putL v k)=v%256^k:=by
  induction k with
  | zero=>intro v; rw[Nat.pow_zero,Nat.mod_one]; rfl
  | succ k ih =>
    intro v
    have hp:=pow_le8 h
    have hv:v%256^(k+1)<256^(k+1):=Nat.mod_lt _ (Nat.pow_pos (by decide))
    have e:v%256^(k+1)=v%256+256*(v / 256%256^k):=by rw[Nat.pow_succ',Nat.mod_mul]
    rw[putL_snoc,getN_one,ih (by omega),UInt8.toNat_ofNat',Nat.mod_eq_of_lt (by omega)]
    omega
theorem getN_lt_pow:∀ (k:Nat) (l:List UInt8),l.length=k→k≤8→getN l<256^k∧putL (getN l) k=l:=by
  intro k
  induction k with
  | zero=>intro l h _; rw[List.eq_nil_of_length_eq_zero h]; exact⟨by decide,rfl⟩
  | succ k ih =>
    intro l h h8
    rcases List.eq_nil_or_concat l with rfl | ⟨a,x,rfl⟩
    ·simp at h
    ·rw[List.concat_eq_append] at *
     obtain⟨a1,a2⟩:=ih a (by simpa using h) (by omega)
     have hx:x.toNat<256:=x.toNat_lt
     have hp:=pow_le8 h8
     have e:getN (a++[x])=getN a*256+x.toNat:=by
       rw[getN_one,Nat.mod_eq_of_lt]
       rw[Nat.pow_succ] at hp; omega
     refine⟨by rw[e,Nat.pow_succ]; omega,?_⟩
     rw[e,putL_snoc,show (getN a*256+x.toNat) / 256=getN a by omega,a2]
     congr 2
     rw[← UInt8.toNat_inj,UInt8.toNat_ofNat']
     omega
structure Hd where
  lp:Int
  vr:Int
  md:Int
  st:Int
  pl:Int
  pr:Int
  rd:Nat
  rp:Nat
  ri:Nat
  rf:Nat
  og:Nat
  rc:Nat
  tr:Nat
def Hd.z:Hd:=⟨0,0,0,0,0,0,0,0,0,0,0,0,0⟩
def hdR (h:Hd):Prop:=0≤h.lp∧h.lp≤3∧(h.vr=3∨h.vr=4)∧0≤h.md∧h.md≤7∧0≤h.st∧h.st≤255∧-128≤h.pl∧h.pl≤127∧-128≤h.pr∧h.pr≤127
instance (h:Hd):Decidable (hdR h):=by unfold hdR; infer_instance
def hdOk (h:Hd):Bool:=decide (hdR h)
def hdF (h:Hd):Prop:=h.rd<4294967296∧h.rp<4294967296∧h.ri<4294967296∧h.rf<18446744073709551616∧h.og<18446744073709551616∧h.rc<18446744073709551616∧h.tr<18446744073709551616
def byZ (v:Int):UInt8:=UInt8.ofNat (v%256).toNat
def sgB8 (b:UInt8):Int:=if b.toNat>127 then (b.toNat:Int)-256 else (b.toNat:Int)
def hdT (h:Hd):List UInt8:=putL h.rd 4++(putL h.rp 4++(putL h.ri 4++(putL h.rf 8++(putL h.og 8++(putL h.rc 8++putL h.tr 8)))))
def hdB (h:Hd):List UInt8:=[byZ (h.lp*64+h.vr*8+h.md),byZ h.st,byZ h.pl,byZ h.pr]++hdT h
theorem hdT_len (h:Hd):(hdT h).length=44:=by simp[hdT,putL_length]
theorem hdB_len (h:Hd):(hdB h).length=48:=by unfold hdB; rw[List.length_append,hdT_len]; rfl
def cutN (l:List UInt8) (a n:Nat):List UInt8:=(l.drop a).take n
def hdG (l:List UInt8):Hd:=⟨((l.getD 0 0).toNat / 64:Nat),((l.getD 0 0).toNat / 8%8:Nat),((l.getD 0 0).toNat%8:Nat),((l.getD 1 0).toNat:Nat),sgB8 (l.getD 2 0),sgB8 (l.getD 3 0),
  getN (cutN l 4 4),getN (cutN l 8 4),getN (cutN l 12 4),getN (cutN l 16 8),getN (cutN l 24 8),getN (cutN l 32 8),getN (cutN l 40 8)⟩
theorem cutN_len {l:List UInt8} {a n:Nat} (h:a+n≤l.length):(cutN l a n).length=n:=by
  unfold cutN; rw[List.length_take,List.length_drop]; omega
theorem cutN_hit (p q r:List UInt8):cutN (p++(q++r)) p.length q.length=q:=by
  unfold cutN; rw[List.drop_left,List.take_left]
theorem byZ_nat (v:Int):((byZ v).toNat:Int)=v%256:=by
  unfold byZ
  rw[UInt8.toNat_ofNat']; omega
theorem sgB8_by {v:Int} (h1:-128≤v) (h2:v≤127):sgB8 (byZ v)=v:=by
  have:=byZ_nat v
  unfold sgB8
  split <;> omega
theorem sgB8_in (b:UInt8):-128≤sgB8 b∧sgB8 b≤127:=by
  have:=b.toNat_lt
  unfold sgB8
  split <;> omega
theorem hd_part (h:Hd) (r:List UInt8):hdB h++r=([byZ (h.lp*64+h.vr*8+h.md),byZ h.st,byZ h.pl,byZ h.pr]:List UInt8)++(putL h.rd 4++(putL h.rp 4++(putL h.ri 4++(putL h.rf 8++(putL h.og 8++(putL h.rc 8++(putL h.tr 8++r))))))):=by
  unfold hdB hdT
  simp only[List.append_assoc]
theorem hd_cuts (h:Hd) (r:List UInt8):cutN (hdB h++r) 4 4=putL h.rd 4∧cutN (hdB h++r) 8 4=putL h.rp 4∧cutN (hdB h++r) 12 4=putL h.ri 4∧cutN (hdB h++r) 16 8=putL h.rf 8∧cutN (hdB h++r) 24 8=putL h.og 8∧cutN (hdB h++r) 32 8=putL h.rc 8∧cutN (hdB h++r) 40 8=putL h.tr 8:=by
  have key:∀ (p q s:List UInt8) (a n:Nat),hdB h++r=p++(q++s)→p.length=a→q.length=n→cutN (hdB h++r) a n=q:=by
    intro p q s a n e ha hn
    rw[e,← ha,← hn]; exact cutN_hit p q s
  have e:=hd_part h r
  generalize ([byZ (h.lp*64+h.vr*8+h.md),byZ h.st,byZ h.pl,byZ h.pr]:List UInt8)=F at *
  have hF:F.length=4:=by
    have:=hdB_len h
    have e':=congrArg List.length e
    simp only[List.length_append,putL_length,this] at e'
    omega
  refine⟨key F _ _ _ _ e hF (putL_length _ _),key (F++putL h.rd 4) _ _ _ _ (by rw[e]; simp only[List.append_assoc] <;> rfl) ?_ (putL_length _ _),key (F++putL h.rd 4++putL h.rp 4) _ _ _ _ (by rw[e]; simp only[List.append_assoc] <;> rfl) ?_ (putL_length _ _),
    key (F++putL h.rd 4++putL h.rp 4++putL h.ri 4) _ _ _ _ (by rw[e]; simp only[List.append_assoc] <;> rfl) ?_ (putL_length _ _),key (F++putL h.rd 4++putL h.rp 4++putL h.ri 4++putL h.rf 8) _ _ _ _ (by rw[e]; simp only[List.append_assoc] <;> rfl) ?_ (putL_length _ _),
    key (F++putL h.rd 4++putL h.rp 4++putL h.ri 4++putL h.rf 8++putL h.og 8) _ _ _ _ (by rw[e]; simp only[List.append_assoc] <;> rfl) ?_ (putL_length _ _),key (F++putL h.rd 4++putL h.rp 4++putL h.ri 4++putL h.rf 8++putL h.og 8++putL h.rc 8) _ r _ _ (by rw[e]; simp only[List.append_assoc] <;> rfl) ?_ (putL_length _ _)⟩ <;>
    simp only[List.length_append,putL_length,hF]
theorem hd_back {h:Hd} (ok:hdR h) (fit:hdF h) (r:List UInt8):hdG (hdB h++r)=h:=by
  obtain⟨c1,c2,c3,c4,c5,c6,c7⟩:=hd_cuts h r
  obtain⟨f1,f2,f3,f4,f5,f6,f7⟩:=fit
  obtain⟨o1,o2,o3,o4,o5,o6,o7,o8,o9,o10,o11⟩:=ok
  have g0:(hdB h++r).getD 0 0=byZ (h.lp*64+h.vr*8+h.md):=rfl
  have g1:(hdB h++r).getD 1 0=byZ h.st:=rfl
  have g2:(hdB h++r).getD 2 0=byZ h.pl:=rfl
  have g3:(hdB h++r).getD 3 0=byZ h.pr:=rfl
  unfold hdG
  rw[c1,c2,c3,c4,c5,c6,c7,g0,g1,g2,g3,get_put 4 (by decide),get_put 4 (by decide),get_put 4 (by decide),get_put 8 (by decide),get_put 8 (by decide),get_put 8 (by decide),get_put 8 (by decide),sgB8_by o8 o9,sgB8_by o10 o11]
  have n0:=byZ_nat (h.lp*64+h.vr*8+h.md)
  have n1:=byZ_nat h.st
  obtain⟨lp,vr,md,st,pl,pr,rd,rp,ri,rf,og,rc,tr⟩:=h
  simp only at *
  congr 1 <;> omega
end Go.Proofs.YtcikhnjfkfigjaaGreat
set_option linter.unusedVariables false
set_option linter.unusedSimpArgs false
namespace Go.Proofs.YtcikhnjfkfigjaaGreat
open Go.RowKit
theorem putk_c (G:Glob) (v:Nat) (k:Int) (hk:0≤k∧k≤64):Den Tryz.prog G 62 [.int .u64 (v:Int),.int .i64 k] (.w (.c (.fr 1 ((putL v k.toNat).map bD)))):=by
  have c:=put_c G v k
  rw[show putN v k=putL v k.toNat from if_pos hk] at c
  exact c
theorem rputk_c (G:Glob) (v:Nat) (k:Int) (hk:0≤k∧k≤64):Den Tryz.prog G 51 [.int .u64 (v:Int),.int .i64 k] (.w (.c (.fr 1 ((putL v k.toNat).map bD)))):=by
  have c:=rput_c G v k
  rw[show putN v k=putL v k.toNat from if_pos hk] at c
  exact c
end Go.Proofs.YtcikhnjfkfigjaaGreat
set_option linter.unusedVariables false
set_option linter.unusedSimpArgs false
namespace Go.Proofs.YtcikhnjfkfigjaaGreat
open Go.RowKit
def sf_cut:SFn:=⟨2,25,
 .seq (.reg [⟨(some 4),.mv (.k (.c .nil)),none⟩,
 ⟨(some 5),.mv (.k (.c .nil)),none⟩,
 ⟨(some 6),.mv (.k (.c (.d (.bool false)))),none⟩])
 (.seq (.seq (.reg [⟨(some 7),.mv (.t 1),none⟩,
 ⟨(some 8),.bin .lss (.t 7) (.k (.c (.d (.int .i64 0)))),none⟩,
 ⟨(some 9),.mv (.t 8),none⟩,
 ⟨(some 10),.mv (.t 1),(some (9,false))⟩,
 ⟨(some 11),.mv (.t 0),(some (9,false))⟩,
 ⟨(some 12),.len (.t 11),(some (9,false))⟩,
 ⟨(some 13),.bin .gtr (.t 10) (.t 12),(some (9,false))⟩,
 ⟨(some 14),.pick (.t 9) (.k (.c (.d (.bool true)))) (.t 13),none⟩])
 (.cond (.t 14) (.seq (.reg [⟨(some 4),.mv (.k (.c .nil)),none⟩,
 ⟨(some 5),.mv (.k (.c .nil)),none⟩,
 ⟨(some 6),.mv (.k (.c (.d (.bool false)))),none⟩])
 (.ret))
 (.skip)))
 (.seq (.reg [⟨(some 15),.mv (.t 0),none⟩,
 ⟨(some 16),.mv (.t 1),none⟩,
 ⟨(some 17),.slice 1 (.t 15) none (some (.t 16)) none,none⟩,
 ⟨(some 18),.bldSl false 1 1 (.sl []) [(0,(.t 17))],none⟩,
 ⟨(some 19),.call 34 [(.t 18)] none,none⟩,
 ⟨(some 20),.mv (.t 0),none⟩,
 ⟨(some 21),.mv (.t 1),none⟩,
 ⟨(some 22),.slice 1 (.t 20) (some (.t 21)) none none,none⟩,
 ⟨(some 23),.bldSl false 1 1 (.sl []) [(0,(.t 22))],none⟩,
 ⟨(some 24),.call 34 [(.t 23)] none,none⟩,
 ⟨(some 4),.mv (.t 19),none⟩,
 ⟨(some 5),.mv (.t 24),none⟩,
 ⟨(some 6),.mv (.k (.c (.d (.bool true)))),none⟩])
 (.ret))),
 [(4,none),(5,none),(6,none)]⟩
theorem cf_cut:compFn Tryz.prog { own:=[],comp:=[],frz:=[],nils:=[] } Tryz.f76=some sf_cut:=by kernel_rfl
set_option maxHeartbeats 800000 in
theorem cut_in (G:Glob) (b:List UInt8) (n:Nat) (h:n≤b.length) (hb:b.length≤1099511627776):Den Tryz.prog G 76 [.sl (b.map bD),.int .i64 (n:Int)] (.tup [.c (.d (.sl ((b.take n).map bD))),.c (.d (.sl ((b.drop n).map bD))),.c (.d (.bool true))]):=by
  refine den_walk Tryz.func76 cf_cut rfl rfl ?_
  have c1:=join_c G [b.take n] (by simp) (by simp; omega)
  have c2:=join_c G [b.drop n] (by simp) (by simp; omega)
  simp only[List.map_cons,List.map_nil,List.flatten_cons,List.flatten_nil,List.append_nil] at c1 c2
  have et:(b.drop n).take (b.length-n)=b.drop n:=List.take_of_length_le (by simp)
  have g:((n:Int)>(b.length:Int))=False:=eq_false (by omega)
  simp only[sf_cut,putAll,wx,wy,wz,stV,seval,IntWalk.iteOmega,IntWalk.toNatUp,reduceCtorEq,g]
  refine st_call (c1) rfl (.inl rfl) ?_
  simp only[et,wx,wy,wz,stV,seval,IntWalk.iteOmega,IntWalk.toNatUp,reduceCtorEq]
  refine st_call (c2) rfl (.inl rfl) ?_
  simp only[et,wx,wy,wz,stV,seval,IntWalk.iteOmega,IntWalk.toNatUp,reduceCtorEq]
  exact ret_d3 (by simp only[wx,wy,wz,stV,seval,IntWalk.iteOmega,IntWalk.toNatUp,reduceCtorEq]) (by simp only[wx,wy,wz,stV,seval,IntWalk.iteOmega,IntWalk.toNatUp,reduceCtorEq]) (by simp only[wx,wy,wz,stV,seval,IntWalk.iteOmega,IntWalk.toNatUp,reduceCtorEq])
theorem cut_no (G:Glob) (b:List UInt8) (n:Int) (h:n<0∨(b.length:Int)<n):Den Tryz.prog G 76 [.sl (b.map bD),.int .i64 n] (.tup [.c (.d (.sl [])),.c (.d (.sl [])),.c (.d (.bool false))]):=by
  refine den_walk Tryz.func76 cf_cut rfl rfl ?_
  rcases Int.lt_or_le n 0 with h1 | h1
  ·simp only[sf_cut,putAll,wx,wy,wz,stV,seval,IntWalk.iteOmega,IntWalk.toNatUp,reduceCtorEq]
   exact ret_d3 (by simp only[wx,wy,wz,stV,seval,IntWalk.iteOmega,IntWalk.toNatUp,reduceCtorEq] <;> rfl) (by simp only[wx,wy,wz,stV,seval,IntWalk.iteOmega,IntWalk.toNatUp,reduceCtorEq] <;> rfl) (by simp only[wx,wy,wz,stV,seval,IntWalk.iteOmega,IntWalk.toNatUp,reduceCtorEq])
  ·have g:(n>(b.length:Int))=True:=eq_true (by omega)
   simp only[sf_cut,putAll,wx,wy,wz,stV,seval,IntWalk.iteOmega,IntWalk.toNatUp,reduceCtorEq,g]
   exact ret_d3 (by simp only[wx,wy,wz,stV,seval,IntWalk.iteOmega,IntWalk.toNatUp,reduceCtorEq] <;> rfl) (by simp only[wx,wy,wz,stV,seval,IntWalk.iteOmega,IntWalk.toNatUp,reduceCtorEq] <;> rfl) (by simp only[wx,wy,wz,stV,seval,IntWalk.iteOmega,IntWalk.toNatUp,reduceCtorEq])
end Go.Proofs.YtcikhnjfkfigjaaGreat
set_option linter.unusedVariables false
set_option linter.unusedSimpArgs false
namespace Go.Proofs.YtcikhnjfkfigjaaGreat
open Go.RowKit
def rgetSt (l:List UInt8) (i:Nat):St:=⟨ofL [(0,.w (.c (.d (.sl (l.map bD))))),(3,.w (.c (.d (.int .u64 (getN (l.take i)))))),(4,.w (.c (.d (.int .i64 (i:Int)))))],hL [],uL []⟩
def lp_rget_0:SCode :=
 .seq (.seq (.reg [⟨(some 5),.mv (.t 4),none⟩,
 ⟨(some 6),.mv (.t 0),none⟩,
 ⟨(some 7),.len (.t 6),none⟩,
 ⟨(some 8),.bin .lss (.t 5) (.t 7),none⟩])
 (.cond (.t 8) (.skip)
 (.exit 0)))
 (.seq (.block 1 (.reg [⟨(some 11),.mv (.t 3),none⟩,
 ⟨(some 12),.bin .shl (.t 11) (.k (.c (.d (.int .u64 8)))),none⟩,
 ⟨(some 13),.mv (.t 0),none⟩,
 ⟨(some 14),.mv (.t 4),none⟩,
 ⟨(some 15),.idxSl 1 (.t 13) (.t 14),none⟩,
 ⟨(some 16),.load .sc (.t 15),none⟩,
 ⟨(some 17),.conv .u64 (.t 16),none⟩,
 ⟨(some 18),.bin .or (.t 12) (.t 17),none⟩,
 ⟨(some 3),.mv (.t 18),none⟩]))
 (.reg [⟨(some 9),.mv (.t 4),none⟩,
 ⟨(some 10),.bin .add (.t 9) (.k (.c (.d (.int .i64 1)))),none⟩,
 ⟨(some 4),.mv (.t 10),none⟩]))
def sf_rget:SFn:=⟨1,20,
 .seq (.reg [⟨(some 2),.mv (.k (.c (.d (.int .u64 0)))),none⟩])
 (.seq (.reg [⟨(some 3),.mv (.k (.c (.d (.int .u64 0)))),none⟩])
 (.seq (.seq (.reg [⟨(some 4),.mv (.k (.c (.d (.int .i64 0)))),none⟩])
 (.block 0 (.loop lp_rget_0)))
 (.seq (.reg [⟨(some 19),.mv (.t 3),none⟩,
 ⟨(some 2),.mv (.t 19),none⟩])
 (.ret)))),
 [(2,none)]⟩
theorem cf_rget:compFn Tryz.prog { own:=[],comp:=[],frz:=[],nils:=[] } Tryz.f74=some sf_rget:=by kernel_rfl
set_option maxHeartbeats 400000 in
theorem rget_c (G:Glob) (l:List UInt8) (hl:l.length≤9223372036854775807):Den Tryz.prog G 74 [.sl (l.map bD)] (.w (.c (.d (.int .u64 (getN l))))):=by
  refine den_walk Tryz.func74 cf_rget rfl rfl ?_
  simp only[sf_rget,putAll,wx,wy,wz,stV,seval,IntWalk.iteOmega,IntWalk.toNatUp,reduceCtorEq]
  refine loop_st (rgetSt l) (fun i=>l.length-i) (fun i=>i≤l.length) 0 (Nat.zero_le _) ?_ ?_
  ·refine ent_l (fun i=>i) ?_ ?_ rfl rfl <;> simp only[wx,wex,wez,stV,seval,IntWalk.iteOmega,IntWalk.toNatUp,reduceCtorEq] <;> rfl
  ·intro i hi
   by_cases hlt:i<l.length
   ·have hb:=l[i].toNat_lt
    have e2:l[i]?=some l[i]:=List.getElem?_eq_getElem hlt
    have e3:IntKind.u64.wrap (l[i].toNat:Int)=(l[i].toNat:Int):=u64_in _ (by omega) (by omega)
    have e4:IntKind.i64.wrap ((i:Int)+1)=((i+1:Nat):Int):=by rw[IntWalk.i64_in _ (by omega)]; rfl
    have e5:=getN_take l i hlt
    simp only[lp_rget_0,rgetSt,wx,stV,seval,IntWalk.iteOmega,IntWalk.toNatUp,reduceCtorEq,get_map,e2,IntKind.bits,e3,e4]
    refine lop_next (i+1) (by omega) (by omega) (ent_l id ?_ ?_ rfl rfl) <;> simp only[wx,wex,stV,seval,IntWalk.iteOmega,IntWalk.toNatUp,reduceCtorEq,← e5]
   ·have:l.take i=l:=List.take_of_length_le (by omega)
    simp only[lp_rget_0,rgetSt,wx,stV,seval,IntWalk.iteOmega,IntWalk.toNatUp,reduceCtorEq,this]
    exact ret_d (by simp only[wx,stV,seval,IntWalk.iteOmega,IntWalk.toNatUp,reduceCtorEq])
end Go.Proofs.YtcikhnjfkfigjaaGreat
