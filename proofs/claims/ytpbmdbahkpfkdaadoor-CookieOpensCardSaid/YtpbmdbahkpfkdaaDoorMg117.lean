/- Texts of one's own, merged: from: Layer 19,without code: rings of keys (as fields: an ID and a key),cookies,and what the functions return. Own work. -/
import Derived.Test.YtpbmdbahkpfkdaaDoorMg110
import Derived.Test.YtpbmdbahkpfkdaaDoorMg113
import Derived.Test.YtpbmdbahkpfkdaaDoorMg116
set_option linter.unusedVariables false
set_option linter.unusedSimpArgs false
namespace Go.Proofs.YtpbmdbahkpfkdaaDoor
open Go.RowKit
def rgD (l:List Fd):D:=.agg [.sl (l.map fdD)]
def idsD (l:List Fd):Prop:=∀ i j,i<j→j<l.length→(l.getD i default).ty≠(l.getD j default).ty
def rgR (l:List Fd):Prop:=1≤l.length∧l.length≤4∧(∀ f∈l,0≤f.ty∧f.ty≤4294967295∧f.da.length=32)∧(l.map Fd.ty).Nodup
instance (l:List Fd):Decidable (rgR l):=by unfold rgR; infer_instance
theorem nodup_ids {l:List Fd}:(l.map Fd.ty).Nodup↔idsD l:=by
  unfold idsD
  rw[List.nodup_iff_pairwise_ne,List.pairwise_iff_getElem]
  constructor
  ·intro h i j hij hj
   have:=h i j (by simp; omega) (by simp; omega) hij
   simpa [List.getD_eq_getElem?_getD,List.getElem?_eq_getElem hj,List.getElem?_eq_getElem (show i<l.length by omega)] using this
  ·intro h i j hi hj hij
   have hi':i<l.length:=by simpa using hi
   have hj':j<l.length:=by simpa using hj
   have:=h i j hij hj'
   simpa [List.getD_eq_getElem?_getD,List.getElem?_eq_getElem hj',List.getElem?_eq_getElem hi'] using this
def strStart:List UInt8:=[115,101,99,116,105,109,101,32,115,116,97,114,116]
def strNext:List UInt8:=[115,101,99,116,105,109,101,32,110,101,120,116]
def keyS (seed:List UInt8):List UInt8:=expK seed strStart 32
def keyX (key:List UInt8):List UInt8:=expK key strNext 32
theorem keyS_len (s:List UInt8):(keyS s).length=32:=expK_len _ _ _
theorem keyX_len (s:List UInt8):(keyX s).length=32:=expK_len _ _ _
def sgtE (id:Int) (seed:List UInt8):Int:=if id<0∨4294967295<id then 4 else if seed.length≠32 then 5 else 0
def sgtL (id:Int) (seed:List UInt8):List Fd:=if sgtE id seed=0 then [⟨id,keyS seed⟩] else []
def nxI (l:List Fd):Int:=((l.getD 0 default).ty+1)%4294967296
def nxF (l:List Fd):Fd:=⟨nxI l,keyX (l.getD 0 default).da⟩
def clash (l:List Fd):Bool:=(l.take 3).any fun f=>decide (f.ty=nxI l)
def roE (l:List Fd):Int:=if rgR l then (if clash l=true then 7 else 0) else 3
def roL (l:List Fd):List Fd:=if roE l=0 then nxF l::l.take 3 else []
def ckP (algo:Int) (up down:List UInt8):List UInt8:=putL algo.toNat 2++([0,0]++(up++down))
def ckI (m:Fd):List UInt8:=putL m.ty.toNat 4
def ckB (m:Fd) (algo:Int) (up down nonce:List UInt8):List UInt8:=ckI m++(nonce++sealV m.da [ckI m,nonce] (ckP algo up down))
def mkE (l:List Fd) (algo:Int) (up down nonce:List UInt8):Int :=
  if rgR l then (if algo<0∨65535<algo then 4 else if up.length≠32∨down.length≠32 then 5 else if nonce.length≠16 then 3 else 0) else 3
def mkB (l:List Fd) (algo:Int) (up down nonce:List UInt8):List UInt8:=if mkE l algo up down nonce=0 then ckB (l.getD 0 default) algo up down nonce else []
def ciE (c:List UInt8):Int:=if c.length≠104 then 3 else 0
def ciN (c:List UInt8):Nat:=if c.length≠104 then 0 else getN (cutN c 0 4)
def ckW (l:List Fd) (id:Int):Option Nat:=l.findIdx? fun f=>decide (f.ty=id)
def coX (m:Fd) (c:List UInt8):Int:=opnE m.da [cutN c 0 4,cutN c 4 16] (c.drop 20)
def coV (m:Fd) (c:List UInt8):List UInt8:=opnV m.da [cutN c 0 4,cutN c 4 16] (c.drop 20)
def coOk (m:Fd) (c:List UInt8):Prop:=coX m c=0∧(coV m c).getD 2 0=0∧(coV m c).getD 3 0=0
instance (m:Fd) (c:List UInt8):Decidable (coOk m c):=by unfold coOk; infer_instance
def coE (l:List Fd) (c:List UInt8):Int :=
  if rgR l then (if c.length≠104 then 3 else match ckW l (ciN c) with | none=>5 | some i=>if coOk (l.getD i default) c then 0 else 6) else 3
structure Opn where
  al:Int
  up:List UInt8
  dn:List UInt8
  ag:Int
def coR (l:List Fd) (c:List UInt8):Opn :=
  if coE l c=0 then (let i:=(ckW l (ciN c)).getD 0; let b:=coV (l.getD i default) c; ⟨(getN (cutN b 0 2):Int),cutN b 4 32,cutN b 36 32,(i:Int)⟩) else ⟨0,[],[],0⟩
theorem coV_len {m:Fd} {c:List UInt8} (hc:c.length=104) (h:coX m c=0):(coV m c).length=68:=by
  unfold coV opnV
  unfold coX at h
  rw[if_pos h,strS_len]
  simp[hc]
theorem ckP_len (algo:Int) {up down:List UInt8} (h1:up.length=32) (h2:down.length=32):(ckP algo up down).length=68:=by
  simp[ckP,putL_length,h1,h2]
theorem ck_opens {m:Fd} {algo:Int} {up down nonce:List UInt8} (hk:m.da.length=32) (i0:0≤m.ty) (i1:m.ty≤4294967295) (a0:0≤algo) (a1:algo≤65535) (h1:up.length=32) (h2:down.length=32) (hn:nonce.length=16) :
    (ckB m algo up down nonce).length=104∧(ciN (ckB m algo up down nonce):Int)=m.ty∧coOk m (ckB m algo up down nonce) ∧
      (getN (cutN (coV m (ckB m algo up down nonce)) 0 2):Int)=algo∧cutN (coV m (ckB m algo up down nonce)) 4 32=up∧cutN (coV m (ckB m algo up down nonce)) 36 32=down:=by
  have hp:=ckP_len algo h1 h2
  have hi:(ckI m).length=4:=putL_length _ _
  have ha:aeE m.da [ckI m,nonce] ((ckP algo up down).length:Int)=0:=aeE_zero hk (by simp) (fun x hx=>by simp at hx; rcases hx with rfl | rfl <;> omega) (by omega)
  have hs:(sealV m.da [ckI m,nonce] (ckP algo up down)).length=84:=by rw[sealV_ok ha,List.length_append,tagM_len,strS_len,hp]
  have hl:(ckB m algo up down nonce).length=104:=by
    unfold ckB
    simp only[List.length_append,hi,hn,hs]
  have c1:cutN (ckB m algo up down nonce) 0 4=ckI m:=by
    unfold ckB cutN
    rw[List.drop_zero]
    exact List.take_left' hi
  have c2:cutN (ckB m algo up down nonce) 4 16=nonce:=by
    have:=cutN_hit (ckI m) nonce (sealV m.da [ckI m,nonce] (ckP algo up down))
    rw[hi,hn] at this
    exact this
  have c3:(ckB m algo up down nonce).drop 20=sealV m.da [ckI m,nonce] (ckP algo up down):=by
    unfold ckB
    rw[← List.append_assoc]
    exact List.drop_left' (by simp[hi,hn])
  obtain⟨o1,o2⟩:=opn_seal ha
  rw[← sealV_ok ha] at o1 o2
  have x1:coX m (ckB m algo up down nonce)=0:=by unfold coX; rw[c1,c2,c3]; exact o1
  have x2:coV m (ckB m algo up down nonce)=ckP algo up down:=by unfold coV; rw[c1,c2,c3]; exact o2
  have p2:ckP algo up down=putL algo.toNat 2++([0,0]++(up++down)):=rfl
  refine⟨hl,?_,⟨x1,?_,?_⟩,?_,?_,?_⟩
  ·unfold ciN
   rw[if_neg (by omega),c1]
   unfold ckI
   rw[get_put 4 (by decide)]
   omega
  ·rw[x2,p2,List.getD_eq_getElem?_getD,List.getElem?_append_right (by simp[putL_length])]
   simp[putL_length]
  ·rw[x2,p2,List.getD_eq_getElem?_getD,List.getElem?_append_right (by simp[putL_length])]
   simp[putL_length]
  ·rw[x2,p2]
   have:=cutN_hit [] (putL algo.toNat 2) ([0,0]++(up++down))
   rw[List.nil_append,putL_length] at this
   rw[show ([]:List UInt8).length=0 from rfl] at this
   rw[this,get_put 2 (by decide)]
   omega
  ·rw[x2,p2]
   have:=cutN_hit (putL algo.toNat 2++[0,0]) up down
   rw[List.append_assoc,List.length_append,putL_length,h1] at this
   exact this
  ·rw[x2,p2]
   have:=cutN_hit (putL algo.toNat 2++([0,0]++up)) down []
   rw[List.append_nil,List.append_assoc,List.append_assoc,List.length_append,List.length_append,putL_length,h1,h2] at this
   exact this
def rgK (seed:List UInt8):Nat→List UInt8
  | 0=>keyS seed
  | n+1=>keyX (rgK seed n)
theorem rgK_len (seed:List UInt8) (n:Nat):(rgK seed n).length=32:=by
  cases n
  ·exact keyS_len _
  ·exact keyX_len _
def rgN (s:Nat) (seed:List UInt8) (t:Nat):List Fd:=(List.range (min 4 (t+1))).map fun i=>⟨((s+(t-i):Nat):Int),rgK seed (t-i)⟩
theorem rgN_len (s:Nat) (seed:List UInt8) (t:Nat):(rgN s seed t).length=min 4 (t+1):=by simp[rgN]
theorem rgN_at {s:Nat} {seed:List UInt8} {t i:Nat} (h:i<min 4 (t+1)):(rgN s seed t).getD i default=⟨((s+(t-i):Nat):Int),rgK seed (t-i)⟩:=by
  unfold rgN
  rw[List.getD_eq_getElem?_getD,List.getElem?_map,List.getElem?_range h]
  rfl
theorem rgN_ok {s:Nat} {seed:List UInt8} {t:Nat} (h:s+t≤4294967295):rgR (rgN s seed t):=by
  have hl:=rgN_len s seed t
  refine⟨by omega,by omega,?_,?_⟩
  ·intro f hf
   obtain⟨i,hi,rfl⟩:=List.mem_map.1 hf
   exact⟨by show (0:Int)≤((s+(t-i):Nat):Int); omega,by show ((s+(t-i):Nat):Int)≤4294967295; omega,rgK_len _ _⟩
  ·rw[nodup_ids]
   intro i j hij hj
   rw[hl] at hj
   rw[rgN_at (by omega),rgN_at (by omega)]
   show ((s+(t-i):Nat):Int)≠((s+(t-j):Nat):Int)
   omega
theorem rgN_start (s:Nat) (seed:List UInt8) (h:s≤4294967295) (hs:seed.length=32):sgtE s seed=0∧sgtL s seed=rgN s seed 0:=by
  have e:sgtE s seed=0:=by unfold sgtE; rw[if_neg (by omega),if_neg (by omega)]
  exact⟨e,by unfold sgtL; rw[if_pos e]; rfl⟩
theorem rgN_next {s:Nat} {seed:List UInt8} {t:Nat} (h:s+t<4294967295):roE (rgN s seed t)=0∧roL (rgN s seed t)=rgN s seed (t+1):=by
  have hl:=rgN_len s seed t
  have h0:=rgN_at (s:=s) (seed:=seed) (t:=t) (i:=0) (by omega)
  have hn:nxI (rgN s seed t)=((s+(t+1):Nat):Int):=by
    unfold nxI
    rw[h0]
    show (((s+(t-0):Nat):Int)+1)%4294967296=_
    omega
  have hc:clash (rgN s seed t)=false:=by
    unfold clash
    rw[List.any_eq_false]
    intro f hf
    obtain⟨i,hi,rfl⟩:=List.mem_map.1 (List.mem_of_mem_take hf)
    rw[hn,decide_eq_false (by show ((s+(t-i):Nat):Int)≠((s+(t+1):Nat):Int); omega)]
    decide
  have e:roE (rgN s seed t)=0:=by unfold roE; rw[if_pos (rgN_ok (by omega)),if_neg (by rw[hc]; decide)]
  refine⟨e,?_⟩
  unfold roL
  rw[if_pos e]
  have hx:nxF (rgN s seed t)=⟨((s+(t+1):Nat):Int),rgK seed (t+1)⟩:=by
    unfold nxF
    rw[hn,h0]
    rfl
  rw[hx]
  refine List.ext_getElem (by simp[rgN_len]; omega) fun i i1 i2=>?_
  have hi:i<min 4 (t+1+1):=by rw[rgN_len] at i2; exact i2
  cases i with
  | zero=>simp[rgN]
  | succ i =>
    rw[List.getElem_cons_succ,List.getElem_take]
    simp only[rgN,List.getElem_map,List.getElem_range]
    rw[show t+1-(i+1)=t-i by omega]
theorem rgN_find {s:Nat} {seed:List UInt8} {t k:Nat} (hk:k≤t):ckW (rgN s seed t) ((s+k:Nat):Int)=if t-k<4 then some (t-k) else none:=by
  unfold ckW
  have hl:=rgN_len s seed t
  have hat:∀ i (hi:i<(rgN s seed t).length),(rgN s seed t)[i].ty=((s+(t-i):Nat):Int):=fun i hi=>by simp[rgN]
  split
  ·rename_i h
   rw[List.findIdx?_eq_some_iff_getElem]
   refine⟨by omega,?_,fun j hj=>?_⟩
   ·rw[hat]; exact decide_eq_true (by omega)
   ·rw[hat,decide_eq_false (by omega)]; decide
  ·rename_i h
   rw[List.findIdx?_eq_none_iff]
   intro f hf
   obtain⟨i,hi,rfl⟩:=List.getElem_of_mem hf
   rw[hat]
   exact decide_eq_false (by omega)
end Go.Proofs.YtpbmdbahkpfkdaaDoor
namespace Go.Proofs.YtpbmdbahkpfkdaaDoor
open Go.RowKit IntWalk
set_option maxHeartbeats 3200000
def mstOk (f:Fd):Prop:=0≤f.ty∧f.ty≤4294967295∧f.da.length=32
theorem rgR_of {l:List Fd} (h1:1≤l.length) (h2:l.length≤4) (h3:∀ i,i<l.length→mstOk (l.getD i default)∧∀ k,k<i→(l.getD k default).ty≠(l.getD i default).ty):rgR l:=by
  refine⟨h1,h2,fun f hf=>?_,nodup_ids.2 fun i j hij hj=>(h3 j hj).2 i hij⟩
  obtain⟨i,hi,rfl⟩:=List.getElem_of_mem hf
  have:=(h3 i hi).1
  rw[List.getD_eq_getElem?_getD,List.getElem?_eq_getElem hi] at this
  exact this
theorem rgR_at {l:List Fd} (h:rgR l) {i:Nat} (hi:i<l.length):mstOk (l.getD i default)∧∀ k,k<i→(l.getD k default).ty≠(l.getD i default).ty :=
  ⟨h.2.2.1 _ (getF_mem hi),fun k hk=>nodup_ids.1 h.2.2.2 k i hk hi⟩
def rvS1 (l:List Fd) (i:Nat):St:=⟨ofL [(1,.w (.c (.rp [.sl (l.map fdD)]))),(3,.w (.c (.d (.int .i64 (i:Int)))))],hL [],uL []⟩
def rvS2 (l:List Fd) (i k:Nat):St:=⟨ofL [(1,.w (.c (.rp [.sl (l.map fdD)]))),(3,.w (.c (.d (.int .i64 (i:Int))))),(4,.w (.c (.d (.int .i64 (k:Int)))))],hL [],uL []⟩
def lp_rvld_0:SCode :=
 .seq (.seq (.reg [oM 48 4,
 oM 49 3,
 oO 50 (.bin .lss (.t 48) (.t 49))])
 (.cond (.t 50) (.skip)
 (.exit 2)))
 (.seq (.block 3 (.seq (.reg [oO 53 (.fieldAddr 0 (.t 1)),
 oO 54 (.load .sc (.t 53)),
 oM 55 4,
 oO 56 (.idxSl 2 (.t 54) (.t 55)),
 oO 57 (.fieldAddr 0 (.t 56)),
 oO 58 (.load .sc (.t 57)),
 oO 59 (.fieldAddr 0 (.t 1)),
 oO 60 (.load .sc (.t 59)),
 oM 61 3,
 oO 62 (.idxSl 2 (.t 60) (.t 61)),
 oO 63 (.fieldAddr 0 (.t 62)),
 oO 64 (.load .sc (.t 63)),
 oO 65 (.bin .eql (.t 58) (.t 64))])
 (.cond (.t 65) (.seq (.reg [oO 2 (.mv (.k (.c (.d (.bool false)))))])
 (.ret))
 (.skip))))
 (.reg [oM 51 4,
 oO 52 (.bin .add (.t 51) (kI 1)),
 oM 4 52]))
def lp_rvld_1:SCode :=
 .seq (.seq (.reg [oM 15 3,
 oO 16 (.fieldAddr 0 (.t 1)),
 oO 17 (.load .sc (.t 16)),
 oO 18 (.len (.t 17)),
 oO 19 (.bin .lss (.t 15) (.t 18))])
 (.cond (.t 19) (.skip)
 (.exit 0)))
 (.seq (.block 1 (.seq (.seq (.reg [oO 22 (.fieldAddr 0 (.t 1)),
 oO 23 (.load .sc (.t 22)),
 oM 24 3,
 oO 25 (.idxSl 2 (.t 23) (.t 24)),
 oO 26 (.fieldAddr 0 (.t 25)),
 oO 27 (.load .sc (.t 26)),
 oO 28 (.bin .lss (.t 27) (kI 0)),
 oM 29 28,
 oG 30 (.fieldAddr 0 (.t 1)) 29 false,
 oG 31 (.load .sc (.t 30)) 29 false,
 oG 32 (.mv (.t 3)) 29 false,
 oG 33 (.idxSl 2 (.t 31) (.t 32)) 29 false,
 oG 34 (.fieldAddr 0 (.t 33)) 29 false,
 oG 35 (.load .sc (.t 34)) 29 false,
 oG 36 (.bin .gtr (.t 35) (kI 4294967295)) 29 false,
 oO 37 (.pick (.t 29) (.k (.c (.d (.bool true)))) (.t 36)),
 oM 38 37,
 oG 39 (.fieldAddr 0 (.t 1)) 38 false,
 oG 40 (.load .sc (.t 39)) 38 false,
 oG 41 (.mv (.t 3)) 38 false,
 oG 42 (.idxSl 2 (.t 40) (.t 41)) 38 false,
 oG 43 (.fieldAddr 1 (.t 42)) 38 false,
 oG 44 (.load .sc (.t 43)) 38 false,
 oG 45 (.len (.t 44)) 38 false,
 oG 46 (.bin .neq (.t 45) (kI 32)) 38 false,
 oO 47 (.pick (.t 38) (.k (.c (.d (.bool true)))) (.t 46))])
 (.cond (.t 47) (.seq (.reg [oO 2 (.mv (.k (.c (.d (.bool false)))))])
 (.ret))
 (.skip)))
 (.seq (.reg [oO 4 (.mv (kI 0))])
 (.block 2 (.loop lp_rvld_0)))))
 (.reg [oM 20 3,
 oO 21 (.bin .add (.t 20) (kI 1)),
 oM 3 21]))
def sf_rvld:SFn:=⟨1,66,
 .seq (.reg [oO 1 (.box .roBox (.t 0)),
 oO 2 (.mv (.k (.c (.d (.bool false)))))])
 (.seq (.seq (.reg [oO 5 (.fieldAddr 0 (.t 1)),
 oO 6 (.load .sc (.t 5)),
 oO 7 (.len (.t 6)),
 oO 8 (.bin .lss (.t 7) (kI 1)),
 oM 9 8,
 oG 10 (.fieldAddr 0 (.t 1)) 9 false,
 oG 11 (.load .sc (.t 10)) 9 false,
 oG 12 (.len (.t 11)) 9 false,
 oG 13 (.bin .gtr (.t 12) (kI 4)) 9 false,
 oO 14 (.pick (.t 9) (.k (.c (.d (.bool true)))) (.t 13))])
 (.cond (.t 14) (.seq (.reg [oO 2 (.mv (.k (.c (.d (.bool false)))))])
 (.ret))
 (.skip)))
 (.seq (.seq (.reg [oO 3 (.mv (kI 0))])
 (.block 0 (.loop lp_rvld_1)))
 (.seq (.reg [oO 2 (.mv (.k (.c (.d (.bool true)))))])
 (.ret)))),
 [(2,none)]⟩
theorem cf_rvld:compFn Tryd.prog { own:=[],comp:=[],frz:=[],nils:=[] } Tryd.f37=some sf_rvld:=by kernel_rfl
theorem rvld_c (G:Glob) (l:List Fd) (hl:l.length≤9223372036854775807):Den Tryd.prog G 37 [rgD l] (.w (.c (.d (.bool (decide (rgR l)))))):=by
  refine den_walk Tryd.func37 cf_rvld rfl rfl ?_
  unfold rgD
  rcases Nat.lt_or_ge l.length 1 with h1 | h1
  ·have hno:¬ rgR l:=fun h=>by have:=h.1; omega
   rw[decide_eq_false hno]
   simp only[sf_rvld,putAll,wal,stV,seval,iteOmega,toNatUp,reduceCtorEq]
   exact qd1
  ·rcases Nat.lt_or_ge 4 l.length with h4 | h4
   ·have hno:¬ rgR l:=fun h=>by have:=h.2.1; omega
    have g4:((l.length:Int)>4)=True:=eq_true (by omega)
    rw[decide_eq_false hno]
    simp only[sf_rvld,putAll,wal,stV,seval,iteOmega,toNatUp,reduceCtorEq,g4]
    exact qd1
   ·have g4:((l.length:Int)>4)=False:=eq_false (by omega)
    simp only[sf_rvld,putAll,wal,stV,seval,iteOmega,toNatUp,reduceCtorEq,g4]
    refine loop_st (rvS1 l) (fun i=>l.length-i) (fun i=>i≤l.length∧∀ j,j<i→mstOk (l.getD j default)∧∀ k,k<j→(l.getD k default).ty≠(l.getD j default).ty) 0 ⟨Nat.zero_le _,fun j hj=>by omega⟩ ?_ ?_
    ·refine ent_l (fun i=>0) ?_ ?_ rfl rfl <;> simp only[wx,wex,wez,stV,seval,iteOmega,toNatUp,reduceCtorEq]
    ·rintro i ⟨hi,hok⟩
     by_cases hlt:i<l.length
     ·have g:=getF hlt
      have hno:¬ mstOk (l.getD i default)→¬ rgR l:=fun h hr=>h (rgR_at hr hlt).1
      have hno2:∀ k,k<i→(l.getD k default).ty=(l.getD i default).ty→¬ rgR l:=fun k hk e hr=>(rgR_at hr hlt).2 k hk e
      have hgo:mstOk (l.getD i default)→(∀ k,k<i→(l.getD k default).ty≠(l.getD i default).ty)→∀ j,j<i+1→mstOk (l.getD j default)∧∀ k,k<j→(l.getD k default).ty≠(l.getD j default).ty:=fun a b j hj=>by
        rcases Nat.lt_or_ge j i with h | h
        ·exact hok j h
        ·obtain rfl:j=i:=by omega
         exact⟨a,b⟩
      by_cases hm:mstOk (l.getD i default)
      ·obtain⟨m1,m2,m3⟩:=hm
       have g1:((l.getD i default).ty>4294967295)=False:=eq_false (by omega)
       have hgo:=hgo ⟨m1,m2,m3⟩
       have est:rvS1 l i=⟨ofL [(1,.w (.c (.rp [.sl (l.map fdD)]))),(3,.w (.c (.d (.int .i64 (i:Int)))))],hL [],uL []⟩:=rfl
       rw[est]
       clear hok hno est
       generalize hx:l.getD i default=x at *
       simp only[lp_rvld_1,wal,stV,seval,iteOmega,toNatUp,reduceCtorEq,get_map,g,fdD,g1,m3]
       refine loop_st (rvS2 l i) (fun k=>i-k) (fun k=>k≤i∧∀ m,m<k→(l.getD m default).ty≠x.ty) 0 ⟨Nat.zero_le _,fun m hm=>by omega⟩ ?_ ?_
       ·refine ent_l (fun i=>0) ?_ ?_ rfl rfl <;> simp only[wx,wex,wez,stV,seval,iteOmega,toNatUp,reduceCtorEq] <;> try rfl
       ·rintro k ⟨hk,hd⟩
        by_cases hki:k<i
        ·have gk:=getF (l:=l) (i:=k) (by omega)
         have hne:=hno2 k hki
         by_cases he:(l.getD k default).ty=x.ty
         ·rw[decide_eq_false (hne he)]
          have ge:((l.getD k default).ty=x.ty)=True:=eq_true he
          clear hd hgo hno2 hne
          generalize l.getD k default=y at *
          simp only[lp_rvld_0,rvS2,wal,stV,seval,iteOmega,toNatUp,reduceCtorEq,get_map,g,gk,fdD,ge]
          exact qd1
         ·have ge:((l.getD k default).ty=x.ty)=False:=eq_false he
          have hd':∀ m,m<k+1→(l.getD m default).ty≠x.ty:=fun m hm=>by
            rcases Nat.lt_or_ge m k with h | h
            ·exact hd m h
            ·obtain rfl:m=k:=by omega
             exact he
          clear hd hgo hno2 hne
          generalize l.getD k default=y at *
          simp only[lp_rvld_0,rvS2,wal,stV,seval,iteOmega,toNatUp,reduceCtorEq,get_map,g,gk,fdD,ge]
          refine lop_next (k+1) (by omega) ⟨by omega,hd'⟩ (ent_l (fun _=>0) ?_ ?_ rfl rfl) <;> simp only[wx,wex,wez,stV,seval,iteOmega,toNatUp,reduceCtorEq] <;> try rfl
        ·obtain rfl:k=i:=by omega
         have hgo:=hgo hd
         clear hno2 hd
         simp only[lp_rvld_0,rvS2,wal,stV,seval,iteOmega,toNatUp,reduceCtorEq]
         refine lop_next (k+1) (by omega) ⟨by omega,hgo⟩ (ent_l (fun _=>0) ?_ ?_ rfl rfl) <;> simp only[wx,wex,wez,stV,seval,iteOmega,toNatUp,reduceCtorEq] <;> try rfl
      ·rw[decide_eq_false (hno hm)]
       clear hok hno hno2 hgo
       generalize hx:l.getD i default=x at *
       unfold mstOk at hm
       rcases Int.lt_or_le x.ty 0 with m1 | m1
       ·have g1:(x.ty<0)=True:=eq_true m1
        simp only[lp_rvld_1,rvS1,wal,stV,seval,iteOmega,toNatUp,reduceCtorEq,get_map,g,fdD,g1]
        exact qd1
       ·have g0:(x.ty<0)=False:=eq_false (by omega)
        rcases Int.lt_or_le 4294967295 x.ty with m2 | m2
        ·have g1:(x.ty>4294967295)=True:=eq_true m2
         simp only[lp_rvld_1,rvS1,wal,stV,seval,iteOmega,toNatUp,reduceCtorEq,get_map,g,fdD,g0,g1]
         exact qd1
        ·have g1:(x.ty>4294967295)=False:=eq_false (by omega)
         have g2:((x.da.length:Int)=32)=False:=eq_false (by omega)
         simp only[lp_rvld_1,rvS1,wal,stV,seval,iteOmega,toNatUp,reduceCtorEq,get_map,g,fdD,g0,g1,g2]
         exact qd1
     ·have hr:rgR l:=rgR_of h1 h4 fun j hj=>hok j (by omega)
      rw[decide_eq_true hr]
      clear hok hr
      simp only[lp_rvld_1,rvS1,wal,stV,seval,iteOmega,toNatUp,reduceCtorEq]
      exact qd1
def sf_spr:SFn:=⟨2,17,
 .seq (.reg [oO 2 (.box .roBox (.t 0)),
 oO 3 (.box .roBox (.t 1)),
 oO 4 (.mv (.k (.c (.d (.bool false)))))])
 (.seq (.reg [oO 5 (.fieldAddr 0 (.t 2)),
 oO 6 (.load .sc (.t 5)),
 oO 7 (.fieldAddr 0 (.t 3)),
 oO 8 (.load .sc (.t 7)),
 oO 9 (.call 20 [(.t 6),(.t 8)] none),
 oM 10 9,
 oG 11 (.fieldAddr 1 (.t 2)) 10 true,
 oG 12 (.load .sc (.t 11)) 10 true,
 oG 13 (.fieldAddr 1 (.t 3)) 10 true,
 oG 14 (.load .sc (.t 13)) 10 true,
 oG 15 (.call 20 [(.t 12),(.t 14)] none) 10 true,
 oO 16 (.pick (.t 10) (.t 15) (.k (.c (.d (.bool false))))),
 oM 4 16])
 (.ret)),
 [(4,none)]⟩
theorem cf_spr:compFn Tryd.prog { own:=[],comp:=[],frz:=[],nils:=[] } Tryd.f14=some sf_spr:=by kernel_rfl
theorem spr_c (G:Glob) (a b:List UInt8):Den Tryd.prog G 14 [.agg [.sl (a.map bD),.sl (b.map bD)],.agg [.sl (a.map bD),.sl (b.map bD)]] (.w (.c (.d (.bool true)))):=by
  refine den_walk Tryd.func14 cf_spr rfl rfl ?_
  have c1:=rsame_c G a a
  have c2:=rsame_c G b b
  rw[beq_self_eq_true] at c1 c2
  simp only[sf_spr,putAll,wal,stV,seval,iteOmega,toNatUp,reduceCtorEq]
  refine sD (c1) ?_
  refine sD (c2) ?_
  exact qd1
end Go.Proofs.YtpbmdbahkpfkdaaDoor
namespace Go.Proofs.YtpbmdbahkpfkdaaDoor
open Go.RowKit
def hdR' (s:Nat) (seed:List UInt8) (t:Nat):Fd:=⟨((s+t:Nat):Int),rgK seed t⟩
theorem rgN_head (s:Nat) (seed:List UInt8) (t:Nat):(rgN s seed t).getD 0 default=hdR' s seed t:=rgN_at (by omega)
theorem mk_ok {s t:Nat} {seed:List UInt8} {algo:Int} {up dn n:List UInt8} (h:s+t≤4294967295) (a0:0≤algo) (a1:algo≤65535) (h1:up.length=32) (h2:dn.length=32) (hn:n.length=16) :
    mkE (rgN s seed t) algo up dn n=0∧mkB (rgN s seed t) algo up dn n=ckB (hdR' s seed t) algo up dn n:=by
  have e:mkE (rgN s seed t) algo up dn n=0:=by
    unfold mkE
    rw[if_pos (rgN_ok h),if_neg (by omega),if_neg (by omega),if_neg (by omega)]
  refine⟨e,?_⟩
  unfold mkB
  rw[if_pos e,rgN_head]
theorem ck_len {s k:Nat} {seed:List UInt8} {algo:Int} {up dn n:List UInt8} (h:s+k≤4294967295) (a0:0≤algo) (a1:algo≤65535) (h1:up.length=32) (h2:dn.length=32) (hn:n.length=16):(ckB (hdR' s seed k) algo up dn n).length=104 :=
  (ck_opens (m:=hdR' s seed k) (rgK_len _ _) (by show (0:Int)≤((s+k:Nat):Int); omega) (by show ((s+k:Nat):Int)≤4294967295; omega) a0 a1 h1 h2 hn).1
theorem open_at {s t k:Nat} {seed:List UInt8} {algo:Int} {up dn n:List UInt8} (h:s+t≤4294967295) (hk:k≤t) (a0:0≤algo) (a1:algo≤65535) (h1:up.length=32) (h2:dn.length=32) (hn:n.length=16) :
    (ciE (ckB (hdR' s seed k) algo up dn n)=0∧(ciN (ckB (hdR' s seed k) algo up dn n):Int)=((s+k:Nat):Int)) ∧
      (t-k<4→coE (rgN s seed t) (ckB (hdR' s seed k) algo up dn n)=0∧coR (rgN s seed t) (ckB (hdR' s seed k) algo up dn n)=⟨algo,up,dn,((t-k:Nat):Int)⟩) ∧
      (4≤t-k→coE (rgN s seed t) (ckB (hdR' s seed k) algo up dn n)=5∧coR (rgN s seed t) (ckB (hdR' s seed k) algo up dn n)=⟨0,[],[],0⟩):=by
  obtain⟨q1,q2,q3,q4,q5,q6⟩:=ck_opens (m:=hdR' s seed k) (rgK_len _ _) (by show (0:Int)≤((s+k:Nat):Int); omega) (by show ((s+k:Nat):Int)≤4294967295; omega) a0 a1 h1 h2 hn
  have q2:(ciN (ckB (hdR' s seed k) algo up dn n):Int)=((s+k:Nat):Int):=q2
  have hr:=rgN_ok (s:=s) (seed:=seed) (t:=t) h
  have hf:=rgN_find (s:=s) (seed:=seed) hk
  refine⟨⟨if_neg (by omega),q2⟩,fun hlt=>?_,fun hge=>?_⟩
  ·rw[if_pos hlt] at hf
   have hg:(rgN s seed t).getD (t-k) default=hdR' s seed k:=by
     rw[rgN_at (by omega)]
     unfold hdR'
     rw[show t-(t-k)=k by omega]
   have e:coE (rgN s seed t) (ckB (hdR' s seed k) algo up dn n)=0:=by
     unfold coE
     rw[if_pos hr,if_neg (by omega),q2,hf]
     show (if coOk ((rgN s seed t).getD (t-k) default) _ then (0:Int) else 6)=0
     rw[hg,if_pos q3]
   refine⟨e,?_⟩
   unfold coR
   rw[if_pos e,q2,hf]
   show Opn.mk (getN (cutN (coV ((rgN s seed t).getD (t-k) default) _) 0 2):Int) _ _ ((t-k:Nat):Int)=_
   rw[hg,q4]
   show Opn.mk _ (cutN (coV ((rgN s seed t).getD (t-k) default) _) 4 32) (cutN (coV ((rgN s seed t).getD (t-k) default) _) 36 32) _=_
   rw[hg,q5,q6]
  ·rw[if_neg (by omega)] at hf
   have e:coE (rgN s seed t) (ckB (hdR' s seed k) algo up dn n)=5:=by
     unfold coE
     rw[if_pos hr,if_neg (by omega),q2,hf]
   refine⟨e,?_⟩
   unfold coR
   rw[if_neg (by rw[e]; decide)]
end Go.Proofs.YtpbmdbahkpfkdaaDoor
