/- Texts of one's own, merged: from: Layer 1 on data: Put,Get,Same,Join,Hex: what they return. Own work. -/
import Derived.Test.YtbkhllchjbjhgaaGreatDoorProg
import Derived.Test.YtbkhllchjbjhgaaGreatDoorMg27
set_option linter.unusedVariables false
set_option linter.unusedSimpArgs false
namespace Go.Proofs.YtbkhllchjbjhgaaGreatDoor
open Go.RowKit IntWalk
set_option maxHeartbeats 400000
theorem stO_bs {l:List UInt8} {i:Nat} {x:D} (hi:i<l.length) (hx:x.one=true):stO .sc (.c (.d x)) i 0 (.row 1 (l.map bD))=some (.row 1 ((l.map bD).set i x)):=by
  simp[stO,get_map,List.getElem?_eq_getElem hi,bD,pureW,hx]
theorem stO_ws {l:List UInt32} {i:Nat} {x:D} (hi:i<l.length) (hx:x.one=true):stO .sc (.c (.d x)) i 0 (.row 1 (l.map wD))=some (.row 1 ((l.map wD).set i x)):=by
  simp[stO,get_map,List.getElem?_eq_getElem hi,wD,pureW,hx]
theorem set_bs (l:List UInt8) (i:Nat) (x:UInt8):(l.map bD).set i (bD x)=(l.set i x).map bD:=set_map bD l i x
theorem set_ws (l:List UInt32) (i:Nat) (x:UInt32):(l.map wD).set i (wD x)=(l.set i x).map wD:=set_map wD l i x
theorem rep_b (n:Nat):List.replicate n (D.int .u8 0)=(List.replicate n (0:UInt8)).map bD:=by simp[bD]
def putL (v n:Nat):List UInt8:=(List.range n).map fun i=>UInt8.ofNat (v / 256^(n-1-i))
def putS (v n m:Nat):List UInt8:=List.replicate m 0++(putL v n).drop m
def putN (v:Nat) (n:Int):List UInt8:=if 0≤n∧n≤64 then putL v n.toNat else []
theorem putL_length (v n:Nat):(putL v n).length=n:=by simp[putL]
theorem putS_length (v n m:Nat) (h:m≤n):(putS v n m).length=n:=by simp[putS,putL_length]; omega
theorem putS_zero (v n:Nat):putS v n 0=putL v n:=by simp[putS]
theorem putS_full (v n:Nat):putS v n n=List.replicate n 0:=by simp[putS,putL_length]
theorem putS_step (v n i:Nat) (h:i+1≤n):putS v n i=(putS v n (i+1)).set i (UInt8.ofNat (v / 256^(n-(i+1)))):=by
  apply List.ext_getElem?
  intro j
  rw[List.getElem?_set]
  have hl:i<(putL v n).length:=by rw[putL_length]; omega
  by_cases hj:i=j
  ·subst hj
   rw[if_pos rfl,if_pos (by rw[putS_length _ _ _ h]; omega)]
   simp only[putS,List.getElem?_append,List.length_replicate,Nat.lt_irrefl,if_false,Nat.sub_self,List.getElem?_drop,Nat.add_zero]
   rw[List.getElem?_eq_getElem hl]
   simp[putL,Nat.sub_sub,Nat.add_comm 1 i]
  ·rw[if_neg hj]
   simp only[putS,List.getElem?_append,List.length_replicate,List.getElem?_replicate,List.getElem?_drop]
   by_cases h1:j<i
   ·rw[if_pos h1,if_pos h1,if_pos (by omega),if_pos (by omega)]
   ·rw[if_neg h1,if_neg (by omega)]
    congr 1; omega
theorem byte_of (v:Nat):D.int .u8 (IntKind.u8.wrap (v:Int))=bD (UInt8.ofNat v):=by
  rw[IntKind.wrap_u8]
  simp[bD]
def putSt (v n m:Nat):St:=⟨ofL [(0,.w (.c (.d (.int .u64 ((v / 256^(n-m):Nat):Int))))),(5,.w (.c (.own 1 1 0 n))),(6,.w (.c (.d (.int .i64 ((m:Int)-1)))))],hL [(1,.row 1 ((putS v n m).map bD))],uL [1]⟩
def lp_put_0:SCode :=
 .seq (.seq (.reg [oM 17 6,
 oO 18 (.bin .geq (.t 17) (kI 0))])
 (.cond (.t 18) (.skip)
 (.exit 0)))
 (.seq (.block 1 (.seq (.reg [oM 21 5,
 oM 22 6,
 oM 23 0,
 oO 24 (.conv .u8 (.t 23)),
 oO 25 (.idxSl 1 (.t 21) (.t 22)),
 oN (.store .sc (.t 25) (.t 24))])
 (.reg [oM 26 0,
 oO 27 (.bin .shr (.t 26) (.k (.c (.d (.int .u64 8))))),
 oM 0 27])))
 (.reg [oM 19 6,
 oO 20 (.bin .sub (.t 19) (kI 1)),
 oM 6 20]))
def sf_put:SFn:=⟨2,29,
 .seq (.reg [oO 4 (.mv (.k (.c .nil)))])
 (.seq (.seq (.reg [oM 7 1,
 oO 8 (.bin .lss (.t 7) (kI 0)),
 oM 9 8,
 oG 10 (.mv (.t 1)) 9 false,
 oG 11 (.bin .gtr (.t 10) (kI 64)) 9 false,
 oO 12 (.pick (.t 9) (.k (.c (.d (.bool true)))) (.t 11))])
 (.cond (.t 12) (.seq (.reg [oO 4 (.mv (.k (.c .nil)))])
 (.ret))
 (.skip)))
 (.seq (.reg [oM 13 1,
 oO 14 (.make true 1 1 (.int .u8 0) (.t 13) (.t 13)),
 oM 5 14])
 (.seq (.seq (.reg [oM 15 1,
 oO 16 (.bin .sub (.t 15) (kI 1)),
 oM 6 16])
 (.block 0 (.loop lp_put_0)))
 (.seq (.reg [oM 28 5,
 oM 4 28])
 (.ret))))),
 [(4,none)]⟩
theorem cf_put:compFn Tryz.prog { own:=[],comp:=[],frz:=[],nils:=[] } Tryz.f32=some sf_put:=by kernel_rfl
theorem put_in (G:Glob) (v n:Nat) (hn:n≤64):Den Tryz.prog G 32 [.int .u64 v,.int .i64 n] (.w (.c (.fr 1 ((putL v n).map bD)))):=by
  refine den_walk Tryz.func32 cf_put rfl rfl ?_
  have e1:IntKind.i64.wrap ((n:Int)-1)=(n:Int)-1:=IntWalk.i64_in _ (by omega)
  simp only[sf_put,putAll,wx,stV,seval,iteOmega,toNatUp,reduceCtorEq,e1]
  refine loop_st (putSt v n) (fun m=>m) (fun m=>m≤n) n (Nat.le_refl _) ?_ ?_
  ·refine ent_l (fun _=>112) ?_ ?_ rfl rfl <;> simp only[wx,wex,stV,seval,iteOmega,toNatUp,reduceCtorEq,putS_full,rep_b,Nat.sub_self,Nat.pow_zero,Nat.div_one]
  ·intro m hm
   rcases Nat.eq_zero_or_pos m with rfl | hpos
   ·simp only[lp_put_0,putSt,wx,stV,seval,iteOmega,toNatUp,reduceCtorEq,putS_zero]
    refine ret_own (id:=1) (n:=n) (s:=1) ?_ ?_ ?_ <;> simp only[wx,stV,seval,iteOmega,toNatUp,reduceCtorEq,putL_length]
   ·obtain⟨i,rfl⟩:∃ i,m=i+1:=⟨m-1,by omega⟩
    have e2:((i+1:Nat):Int)-1=(i:Int):=by omega
    have hlt:i<(putS v n (i+1)).length:=by rw[putS_length _ _ _ hm]; omega
    have e3:IntKind.i64.wrap ((i:Int)-1)=(i:Int)-1:=IntWalk.i64_in _ (by omega)
    simp only[lp_put_0,putSt,wx,stV,seval,iteOmega,toNatUp,reduceCtorEq,e2,e3,Nat.zero_add,Nat.add_zero,byte_of,stO_bs hlt (one_b _),set_bs,← putS_step _ _ _ hm,IntKind.bits]
    refine lop_next i (by omega) (by omega) (ent_l id ?_ ?_ rfl rfl) <;> simp only[wx,wex,stV,seval,iteOmega,toNatUp,reduceCtorEq]
    have e4:v / 256^(n-(i+1)) / 256=v / 256^(n-i):=by
      rw[show n-i=n-(i+1)+1 by omega,Nat.pow_succ,← Nat.div_div_eq_div_mul]
    simpa using congrArg (Nat.cast:Nat→Int) e4
theorem put_c (G:Glob) (v:Nat) (n:Int):Den Tryz.prog G 32 [.int .u64 v,.int .i64 n] (.w (.c (.fr 1 ((putN v n).map bD)))):=by
  unfold putN
  by_cases h:0≤n∧n≤64
  ·rw[if_pos h]
   obtain⟨n,rfl⟩:=Int.eq_ofNat_of_zero_le h.1
   exact put_in G v n (by omega)
  ·rw[if_neg h]
   refine den_walk Tryz.func32 cf_put rfl rfl ?_
   by_cases h0:n<0
   ·simp only[sf_put,putAll,wx,stV,seval,iteOmega,toNatUp,reduceCtorEq]
    exact ret_nil (by simp[wx,stV,seval,iteOmega,toNatUp,reduceCtorEq])
   ·have h1:64<n:=by omega
    simp only[sf_put,putAll,wx,stV,seval,iteOmega,toNatUp,reduceCtorEq]
    exact ret_nil (by simp[wx,stV,seval,iteOmega,toNatUp,reduceCtorEq])
def lp_rput_0:SCode :=
 .seq (.seq (.reg [oM 17 6,
 oO 18 (.bin .geq (.t 17) (kI 0))])
 (.cond (.t 18) (.skip)
 (.exit 0)))
 (.seq (.block 1 (.seq (.reg [oM 21 5,
 oM 22 6,
 oM 23 0,
 oO 24 (.conv .u8 (.t 23)),
 oO 25 (.idxSl 1 (.t 21) (.t 22)),
 oN (.store .sc (.t 25) (.t 24))])
 (.reg [oM 26 0,
 oO 27 (.bin .shr (.t 26) (.k (.c (.d (.int .u64 8))))),
 oM 0 27])))
 (.reg [oM 19 6,
 oO 20 (.bin .sub (.t 19) (kI 1)),
 oM 6 20]))
def sf_rput:SFn:=⟨2,29,
 .seq (.reg [oO 4 (.mv (.k (.c .nil)))])
 (.seq (.seq (.reg [oM 7 1,
 oO 8 (.bin .lss (.t 7) (kI 0)),
 oM 9 8,
 oG 10 (.mv (.t 1)) 9 false,
 oG 11 (.bin .gtr (.t 10) (kI 64)) 9 false,
 oO 12 (.pick (.t 9) (.k (.c (.d (.bool true)))) (.t 11))])
 (.cond (.t 12) (.seq (.reg [oO 4 (.mv (.k (.c .nil)))])
 (.ret))
 (.skip)))
 (.seq (.reg [oM 13 1,
 oO 14 (.make true 1 1 (.int .u8 0) (.t 13) (.t 13)),
 oM 5 14])
 (.seq (.seq (.reg [oM 15 1,
 oO 16 (.bin .sub (.t 15) (kI 1)),
 oM 6 16])
 (.block 0 (.loop lp_rput_0)))
 (.seq (.reg [oM 28 5,
 oM 4 28])
 (.ret))))),
 [(4,none)]⟩
theorem cf_rput:compFn Tryz.prog { own:=[],comp:=[],frz:=[],nils:=[] } Tryz.f37=some sf_rput:=by kernel_rfl
theorem rput_in (G:Glob) (v n:Nat) (hn:n≤64):Den Tryz.prog G 37 [.int .u64 v,.int .i64 n] (.w (.c (.fr 1 ((putL v n).map bD)))):=by
  refine den_walk Tryz.func37 cf_rput rfl rfl ?_
  have e1:IntKind.i64.wrap ((n:Int)-1)=(n:Int)-1:=IntWalk.i64_in _ (by omega)
  simp only[sf_rput,putAll,wx,stV,seval,iteOmega,toNatUp,reduceCtorEq,e1]
  refine loop_st (putSt v n) (fun m=>m) (fun m=>m≤n) n (Nat.le_refl _) ?_ ?_
  ·refine ent_l (fun _=>112) ?_ ?_ rfl rfl <;> simp only[wx,wex,stV,seval,iteOmega,toNatUp,reduceCtorEq,putS_full,rep_b,Nat.sub_self,Nat.pow_zero,Nat.div_one]
  ·intro m hm
   rcases Nat.eq_zero_or_pos m with rfl | hpos
   ·simp only[lp_rput_0,putSt,wx,stV,seval,iteOmega,toNatUp,reduceCtorEq,putS_zero]
    refine ret_own (id:=1) (n:=n) (s:=1) ?_ ?_ ?_ <;> simp only[wx,stV,seval,iteOmega,toNatUp,reduceCtorEq,putL_length]
   ·obtain⟨i,rfl⟩:∃ i,m=i+1:=⟨m-1,by omega⟩
    have e2:((i+1:Nat):Int)-1=(i:Int):=by omega
    have hlt:i<(putS v n (i+1)).length:=by rw[putS_length _ _ _ hm]; omega
    have e3:IntKind.i64.wrap ((i:Int)-1)=(i:Int)-1:=IntWalk.i64_in _ (by omega)
    simp only[lp_rput_0,putSt,wx,stV,seval,iteOmega,toNatUp,reduceCtorEq,e2,e3,Nat.zero_add,Nat.add_zero,byte_of,stO_bs hlt (one_b _),set_bs,← putS_step _ _ _ hm,IntKind.bits]
    refine lop_next i (by omega) (by omega) (ent_l id ?_ ?_ rfl rfl) <;> simp only[wx,wex,stV,seval,iteOmega,toNatUp,reduceCtorEq]
    have e4:v / 256^(n-(i+1)) / 256=v / 256^(n-i):=by
      rw[show n-i=n-(i+1)+1 by omega,Nat.pow_succ,← Nat.div_div_eq_div_mul]
    simpa using congrArg (Nat.cast:Nat→Int) e4
theorem rput_c (G:Glob) (v:Nat) (n:Int):Den Tryz.prog G 37 [.int .u64 v,.int .i64 n] (.w (.c (.fr 1 ((putN v n).map bD)))):=by
  unfold putN
  by_cases h:0≤n∧n≤64
  ·rw[if_pos h]
   obtain⟨n,rfl⟩:=Int.eq_ofNat_of_zero_le h.1
   exact rput_in G v n (by omega)
  ·rw[if_neg h]
   refine den_walk Tryz.func37 cf_rput rfl rfl ?_
   by_cases h0:n<0
   ·simp only[sf_rput,putAll,wx,stV,seval,iteOmega,toNatUp,reduceCtorEq]
    exact ret_nil (by simp[wx,stV,seval,iteOmega,toNatUp,reduceCtorEq])
   ·have h1:64<n:=by omega
    simp only[sf_rput,putAll,wx,stV,seval,iteOmega,toNatUp,reduceCtorEq]
    exact ret_nil (by simp[wx,stV,seval,iteOmega,toNatUp,reduceCtorEq])
theorem toList_mk (l:List UInt8):(⟨l.toArray⟩:ByteArray).toList=l:=Go.ByteArray.toList_mk l
theorem binS_same (l m:List UInt8):binS .eql ⟨l.toArray⟩ ⟨m.toArray⟩=some (.bool (l==m)):=by
  simp only[binS,toList_mk]
def sf_rsame:SFn:=⟨2,10,
 .seq (.reg [oO 4 (.mv (.k (.c (.d (.bool false)))))])
 (.seq (.reg [oM 5 0,
 oO 6 (.b2s (.t 5)),
 oM 7 1,
 oO 8 (.b2s (.t 7)),
 oO 9 (.bin .eql (.t 6) (.t 8)),
 oM 4 9])
 (.ret)),
 [(4,none)]⟩
theorem cf_rsame:compFn Tryz.prog { own:=[],comp:=[],frz:=[],nils:=[] } Tryz.f20=some sf_rsame:=by kernel_rfl
theorem rsame_c (G:Glob) (l m:List UInt8):Den Tryz.prog G 20 [.sl (l.map bD),.sl (m.map bD)] (.w (.c (.d (.bool (l==m))))):=by
  refine den_walk Tryz.func20 cf_rsame rfl rfl ?_
  simp only[sf_rsame,putAll,wx,stV,seval,iteOmega,toNatUp,reduceCtorEq,ofBs_map,binS_same]
  exact ret_d (by simp only[wx,stV,seval,iteOmega,toNatUp,reduceCtorEq])
theorem allSz_ls (ls:List (List UInt8)):allSz 1 (ls.map fun l=>D.sl (l.map bD))=true:=allSz_map _ (fun _=>rfl) ls
def rjoinSt (ls:List (List UInt8)) (i:Nat):St:=⟨ofL [(0,.w (.c (.d (.sl (ls.map fun l=>D.sl (l.map bD)))))),(3,.w (.c (.own 1 1 0 ((ls.take i).flatten).length))),(4,.w (.c (.d (.int .i64 (i:Int)))))],hL [(1,.row 1 (((ls.take i).flatten).map bD))],uL [1]⟩
theorem take_flat {α:Type} (ls:List (List α)) (i:Nat) (h:i<ls.length):(ls.take (i+1)).flatten=(ls.take i).flatten++ls[i]:=by
  rw[List.take_succ_eq_append_getElem h,List.flatten_append]; simp
theorem flat_le {α:Type} (ls:List (List α)) (i:Nat) (h:i<ls.length):(ls.take i).flatten.length+ls[i].length≤ls.flatten.length:=by
  have h1:=take_flat ls i h
  have h2:ls.flatten=(ls.take (i+1)).flatten++(ls.drop (i+1)).flatten:=by rw[← List.flatten_append,List.take_append_drop]
  have h3:=congrArg List.length h2
  rw[List.length_append,h1,List.length_append] at h3
  omega
def lp_rjoin_0:SCode :=
 .seq (.seq (.reg [oM 6 4,
 oM 7 0,
 oO 8 (.len (.t 7)),
 oO 9 (.bin .lss (.t 6) (.t 8))])
 (.cond (.t 9) (.skip)
 (.exit 0)))
 (.seq (.block 1 (.reg [oM 12 3,
 oM 13 0,
 oM 14 4,
 oO 15 (.idxSl 1 (.t 13) (.t 14)),
 oO 16 (.load .sc (.t 15)),
 oO 17 (.app false 1 1 (.t 12) (.t 16)),
 oM 3 17]))
 (.reg [oM 10 4,
 oO 11 (.bin .add (.t 10) (kI 1)),
 oM 4 11]))
def sf_rjoin:SFn:=⟨1,19,
 .seq (.reg [oO 2 (.mv (.k (.c .nil)))])
 (.seq (.reg [oO 5 (.bldSl true 0 1 (.int .u8 0) []),
 oM 3 5])
 (.seq (.seq (.reg [oO 4 (.mv (kI 0))])
 (.block 0 (.loop lp_rjoin_0)))
 (.seq (.reg [oM 18 3,
 oM 2 18])
 (.ret)))),
 [(2,none)]⟩
theorem cf_rjoin:compFn Tryz.prog { own:=[5],comp:=[],frz:=[],nils:=[] } Tryz.f36=some sf_rjoin:=by kernel_rfl
theorem rjoin_c (G:Glob) (ls:List (List UInt8)) (hl:ls.length≤9223372036854775807) (hf:ls.flatten.length≤140737488355328):Den Tryz.prog G 36 [.sl (ls.map fun l=>D.sl (l.map bD))] (.w (.c (.fr 1 (ls.flatten.map bD)))):=by
  refine den_walk Tryz.func36 cf_rjoin rfl rfl ?_
  simp only[sf_rjoin,putAll,wx,stV,seval,iteOmega,toNatUp,reduceCtorEq]
  refine loop_st (rjoinSt ls) (fun i=>ls.length-i) (fun i=>i≤ls.length) 0 (Nat.zero_le _) ?_ ?_
  ·refine ent_l (fun _=>40) ?_ ?_ rfl rfl <;> simp only[wx,wex,stV,seval,iteOmega,toNatUp,reduceCtorEq]
  ·intro i hi
   by_cases hlt:i<ls.length
   ·have e2:ls[i]?=some ls[i]:=List.getElem?_eq_getElem hlt
    have e4:IntKind.i64.wrap ((i:Int)+1)=((i+1:Nat):Int):=by rw[IntWalk.i64_in _ (by omega)]; rfl
    have h5:=flat_le ls i hlt
    simp only[lp_rjoin_0,rjoinSt,wx,stV,seval,iteOmega,toNatUp,reduceCtorEq,get_map,e2,e4,Nat.mul_one,srcV]
    refine lop_next (i+1) (by omega) (by omega) (ent_l (fun _=>136) ?_ ?_ rfl rfl) <;> simp only[wx,wex,stV,seval,iteOmega,toNatUp,reduceCtorEq,take_flat ls i hlt]
   ·have:ls.take i=ls:=List.take_of_length_le (by omega)
    simp only[lp_rjoin_0,rjoinSt,wx,stV,seval,iteOmega,toNatUp,reduceCtorEq,this]
    refine ret_own (id:=1) (n:=ls.flatten.length) (s:=1) ?_ ?_ ?_ <;> simp only[wx,stV,seval,iteOmega,toNatUp,reduceCtorEq]
def joinSt1 (ls:List (List UInt8)) (i:Nat):St:=⟨ofL [(0,.w (.c (.d (.sl (ls.map fun l=>D.sl (l.map bD)))))),(3,.w (.c (.d (.int .i64 (((ls.take i).flatten).length:Int))))),(9,.w (.c (.d (.sl (ls.map fun l=>D.sl (l.map bD)))))),(10,.w (.c (.d (.int .i64 (ls.length:Int))))),(11,.w (.c (.d (.int .i64 (i:Int)))))],hL [],uL []⟩
def joinSt2 (ls:List (List UInt8)) (i:Nat):St:=⟨ofL [(6,.w (.c (.own 1 1 0 ((ls.take i).flatten).length))),(22,.w (.c (.d (.sl (ls.map fun l=>D.sl (l.map bD)))))),(23,.w (.c (.d (.int .i64 (ls.length:Int))))),(24,.w (.c (.d (.int .i64 (i:Int)))))],hL [(1,.row 1 (((ls.take i).flatten).map bD))],uL [1]⟩
def lp_join_0:SCode :=
 .seq (.reg [oO 12 (.bin .lss (.t 11) (.t 10))])
 (.seq (.cond (.t 12) (.skip)
 (.exit 0))
 (.seq (.block 1 (.seq (.reg [oO 13 (.idxSl 1 (.t 9) (.t 11)),
 oO 14 (.load .sc (.t 13)),
 oM 5 14])
 (.reg [oM 15 3,
 oM 16 5,
 oO 17 (.len (.t 16)),
 oO 18 (.bin .add (.t 15) (.t 17)),
 oM 3 18])))
 (.reg [oO 19 (.bin .add (.t 11) (kI 1)),
 oM 11 19])))
def lp_join_1:SCode :=
 .seq (.reg [oO 25 (.bin .lss (.t 24) (.t 23))])
 (.seq (.cond (.t 25) (.skip)
 (.exit 2))
 (.seq (.block 3 (.seq (.reg [oO 26 (.idxSl 1 (.t 22) (.t 24)),
 oO 27 (.load .sc (.t 26)),
 oM 8 27])
 (.reg [oM 28 6,
 oM 29 8,
 oO 30 (.app false 1 1 (.t 28) (.t 29)),
 oM 6 30])))
 (.reg [oO 31 (.bin .add (.t 24) (kI 1)),
 oM 24 31])))
def sf_join:SFn:=⟨1,33,
 .seq (.reg [oO 2 (.mv (.k (.c .nil)))])
 (.seq (.reg [oO 3 (.mv (kI 0))])
 (.seq (.seq (.reg [oM 9 0,
 oO 10 (.len (.t 9)),
 oO 11 (.mv (kI 0))])
 (.block 0 (.loop lp_join_0)))
 (.seq (.reg [oM 20 3,
 oO 21 (.make true 1 1 (.int .u8 0) (kI 0) (.t 20)),
 oM 6 21])
 (.seq (.seq (.reg [oM 22 0,
 oO 23 (.len (.t 22)),
 oO 24 (.mv (kI 0))])
 (.block 2 (.loop lp_join_1)))
 (.seq (.reg [oM 32 6,
 oM 2 32])
 (.ret)))))),
 [(2,none)]⟩
theorem cf_join:compFn Tryz.prog { own:=[],comp:=[],frz:=[],nils:=[] } Tryz.f31=some sf_join:=by kernel_rfl
theorem join_c (G:Glob) (ls:List (List UInt8)) (hl:ls.length≤9223372036854775807) (hf:ls.flatten.length≤140737488355328):Den Tryz.prog G 31 [.sl (ls.map fun l=>D.sl (l.map bD))] (.w (.c (.fr 1 (ls.flatten.map bD)))):=by
  refine den_walk Tryz.func31 cf_join rfl rfl ?_
  simp only[sf_join,putAll,wx,stV,seval,iteOmega,toNatUp,reduceCtorEq]
  refine loop_st (joinSt1 ls) (fun i=>ls.length-i) (fun i=>i≤ls.length) 0 (Nat.zero_le _) ?_ ?_
  ·refine ent_l id ?_ ?_ rfl rfl <;> simp only[wx,wex,stV,seval,iteOmega,toNatUp,reduceCtorEq]
  ·intro i hi
   by_cases hlt:i<ls.length
   ·have e2:ls[i]?=some ls[i]:=List.getElem?_eq_getElem hlt
    have e4:IntKind.i64.wrap ((i:Int)+1)=((i+1:Nat):Int):=by rw[IntWalk.i64_in _ (by omega)]; rfl
    have h5:=flat_le ls i hlt
    have e5:IntKind.i64.wrap (((ls.take i).flatten.length:Int)+(ls[i].length:Int))=(((ls.take (i+1)).flatten.length:Nat):Int):=by
      rw[take_flat ls i hlt,List.length_append,IntWalk.i64_in _ (by omega)]; rfl
    simp only[lp_join_0,joinSt1,wx,stV,seval,iteOmega,toNatUp,reduceCtorEq,get_map,e2,e4,e5]
    refine lop_next (i+1) (by omega) (by omega) (ent_l id ?_ ?_ rfl rfl) <;> simp only[wx,wex,stV,seval,iteOmega,toNatUp,reduceCtorEq]
   ·have:ls.take i=ls:=List.take_of_length_le (by omega)
    simp only[lp_join_0,joinSt1,wx,stV,seval,iteOmega,toNatUp,reduceCtorEq,this,Nat.mul_one]
    refine loop_st (joinSt2 ls) (fun i=>ls.length-i) (fun i=>i≤ls.length) 0 (Nat.zero_le _) ?_ ?_
    ·refine ent_l (fun _=>168) ?_ ?_ rfl rfl <;> simp only[wx,wex,stV,seval,iteOmega,toNatUp,reduceCtorEq]
    ·intro i hi
     by_cases hlt:i<ls.length
     ·have e2:ls[i]?=some ls[i]:=List.getElem?_eq_getElem hlt
      have e4:IntKind.i64.wrap ((i:Int)+1)=((i+1:Nat):Int):=by rw[IntWalk.i64_in _ (by omega)]; rfl
      have h5:=flat_le ls i hlt
      simp only[lp_join_1,joinSt2,wx,stV,seval,iteOmega,toNatUp,reduceCtorEq,get_map,e2,e4,Nat.mul_one,srcV]
      refine lop_next (i+1) (by omega) (by omega) (ent_l (fun _=>240) ?_ ?_ rfl rfl) <;> simp only[wx,wex,stV,seval,iteOmega,toNatUp,reduceCtorEq,take_flat ls i hlt]
     ·have:ls.take i=ls:=List.take_of_length_le (by omega)
      simp only[lp_join_1,joinSt2,wx,stV,seval,iteOmega,toNatUp,reduceCtorEq,this]
      refine ret_own (id:=1) (n:=ls.flatten.length) (s:=1) ?_ ?_ ?_ <;> simp only[wx,stV,seval,iteOmega,toNatUp,reduceCtorEq]
def getN (l:List UInt8):Nat:=l.foldl (fun a x=>(a*256+x.toNat)%18446744073709551616) 0
theorem getN_lt (l:List UInt8):getN l<18446744073709551616:=by
  unfold getN
  rcases List.eq_nil_or_concat l with rfl | ⟨a,x,rfl⟩
  ·simp
  ·simp only[List.concat_eq_append,List.foldl_append,List.foldl_cons,List.foldl_nil]; omega
theorem u64_in (n:Int) (h₀:0≤n) (h₁:n<2^64):IntKind.u64.wrap n=n:=by rw[IntKind.wrap_u64]; omega
theorem getN_snoc (a:List UInt8) (x:UInt8):bits .or .u64 (IntKind.u64.wrap ((getN a:Int)*256)) (x.toNat:Int)=(getN (a++[x]):Int):=by
  have hx:x.toNat<256:=x.toNat_lt
  have h1:=bits_join .u64 64 (by decide) u64_in 8 (IntKind.u64.wrap ((getN a:Int)*256)) (x.toNat:Int)
    (by rw[IntKind.wrap_u64]; omega) (by rw[IntKind.wrap_u64]; omega) (by rw[IntKind.wrap_u64]; omega) (by omega) (by omega) (by omega)
  rw[h1,IntKind.wrap_u64]
  simp only[getN,List.foldl_append,List.foldl_cons,List.foldl_nil]
  omega
theorem getN_take (l:List UInt8) (j:Nat) (h:j<l.length):bits .or .u64 (IntKind.u64.wrap ((getN (l.take j):Int)*256)) (l[j].toNat:Int)=(getN (l.take (j+1)):Int):=by
  rw[getN_snoc,List.take_succ_eq_append_getElem h]
theorem getN_app (a b:List UInt8):getN (a++b)=(getN a*256^b.length+getN b)%18446744073709551616:=by
  have key:∀ (n:Nat) (b:List UInt8),b.length=n→getN (a++b)=(getN a*256^n+getN b)%18446744073709551616:=by
    intro n
    induction n with
    | zero =>
      intro b hb
      have:b=[]:=List.eq_nil_of_length_eq_zero hb
      subst this
      have h0:getN []=0:=rfl
      rw[List.append_nil,Nat.pow_zero,h0]
      have:=getN_lt a
      omega
    | succ n ih =>
      intro b hb
      rcases List.eq_nil_or_concat b with rfl | ⟨c,x,rfl⟩
      ·simp at hb
      ·rw[List.concat_eq_append] at hb ⊢
       rw[← List.append_assoc]
       have h1:∀ l:List UInt8,getN (l++[x])=(getN l*256+x.toNat)%18446744073709551616:=fun l=>by simp[getN]
       rw[h1,h1,ih c (by simpa using hb),Nat.pow_succ]
       generalize getN a=p
       generalize getN c=q
       generalize 256^n=r
       have e:p*(r*256)=p*r*256:=by rw[Nat.mul_assoc]
       rw[e]
       generalize p*r=z
       omega
  exact key _ b rfl
theorem getN_tail (l:List UInt8) (h:8<l.length):getN (l.drop (l.length-8))=getN l:=by
  have h1:=getN_app (l.take (l.length-8)) (l.drop (l.length-8))
  rw[List.take_append_drop] at h1
  have h2:(l.drop (l.length-8)).length=8:=by rw[List.length_drop]; omega
  rw[h2] at h1
  have h3:=getN_lt (l.drop (l.length-8))
  rw[h1]
  have:(256:Nat)^8=18446744073709551616:=by decide
  rw[this]
  omega
def getSt (l:List UInt8) (i:Nat):St:=⟨ofL [(3,.w (.c (.d (.int .u64 (getN (l.take i)))))),(14,.w (.c (.d (.sl (l.map bD))))),(15,.w (.c (.d (.int .i64 (l.length:Int))))),(16,.w (.c (.d (.int .i64 (i:Int)))))],hL [],uL []⟩
def lp_get_0:SCode :=
 .seq (.reg [oO 17 (.bin .lss (.t 16) (.t 15))])
 (.seq (.cond (.t 17) (.skip)
 (.exit 0))
 (.seq (.block 1 (.seq (.reg [oO 18 (.idxSl 1 (.t 14) (.t 16)),
 oO 19 (.load .sc (.t 18)),
 oM 5 19])
 (.reg [oM 20 3,
 oO 21 (.bin .shl (.t 20) (.k (.c (.d (.int .u64 8))))),
 oM 22 5,
 oO 23 (.conv .u64 (.t 22)),
 oO 24 (.bin .or (.t 21) (.t 23)),
 oM 3 24])))
 (.reg [oO 25 (.bin .add (.t 16) (kI 1)),
 oM 16 25])))
def sf_get:SFn:=⟨1,27,
 .seq (.reg [oO 2 (.mv (.k (.c (.d (.int .u64 0)))))])
 (.seq (.seq (.reg [oM 6 0,
 oO 7 (.len (.t 6)),
 oO 8 (.bin .gtr (.t 7) (kI 8))])
 (.cond (.t 8) (.reg [oM 9 0,
 oM 10 0,
 oO 11 (.len (.t 10)),
 oO 12 (.bin .sub (.t 11) (kI 8)),
 oO 13 (.slice 1 (.t 9) (some (.t 12)) none none),
 oM 0 13])
 (.skip)))
 (.seq (.reg [oO 3 (.mv (.k (.c (.d (.int .u64 0)))))])
 (.seq (.seq (.reg [oM 14 0,
 oO 15 (.len (.t 14)),
 oO 16 (.mv (kI 0))])
 (.block 0 (.loop lp_get_0)))
 (.seq (.reg [oM 26 3,
 oM 2 26])
 (.ret))))),
 [(2,none)]⟩
theorem cf_get:compFn Tryz.prog { own:=[],comp:=[],frz:=[],nils:=[] } Tryz.f42=some sf_get:=by kernel_rfl
theorem get_l (G:Glob) (Q:AX→St→Prop) (l:List UInt8) (hl:l.length≤8) (σ:St) (he:Ent σ (getSt l 0)) (hq:∀ f,f 3=.w (.c (.d (.int .u64 (getN l))))→Q (.ex 0) ⟨f,hN,uN⟩):awp Tryz.prog G (.loop lp_get_0) Q σ:=by
  refine loop_st (getSt l) (fun i=>l.length-i) (fun i=>i≤l.length) 0 (Nat.zero_le _) he ?_
  intro i hi
  by_cases hlt:i<l.length
  ·have hb:=l[i].toNat_lt
   have e2:l[i]?=some l[i]:=List.getElem?_eq_getElem hlt
   have e3:IntKind.u64.wrap (l[i].toNat:Int)=(l[i].toNat:Int):=u64_in _ (by omega) (by omega)
   have e4:IntKind.i64.wrap ((i:Int)+1)=((i+1:Nat):Int):=by rw[IntWalk.i64_in _ (by omega)]; rfl
   have e5:=getN_take l i hlt
   simp only[lp_get_0,getSt,wx,stV,seval,iteOmega,toNatUp,reduceCtorEq,get_map,e2,IntKind.bits,e3,e4]
   refine lop_next (i+1) (by omega) (by omega) (ent_l id ?_ ?_ rfl rfl) <;> simp only[wx,wex,stV,seval,iteOmega,toNatUp,reduceCtorEq,← e5]
  ·have:l.take i=l:=List.take_of_length_le (by omega)
   simp only[lp_get_0,getSt,wx,stV,seval,iteOmega,toNatUp,reduceCtorEq,this]
   exact hq _ (by simp only[wx,stV,seval,iteOmega,toNatUp,reduceCtorEq])
theorem get_c (G:Glob) (l:List UInt8) (hl:l.length≤9223372036854775807):Den Tryz.prog G 42 [.sl (l.map bD)] (.w (.c (.d (.int .u64 (getN l))))):=by
  refine den_walk Tryz.func42 cf_get rfl rfl ?_
  by_cases h8:8<l.length
  ·have e0:IntKind.i64.wrap ((l.length:Int)-8)=((l.length-8:Nat):Int):=by rw[IntWalk.i64_in _ (by omega)]; omega
   have e1:(l.drop (l.length-8)).take (l.length-(l.length-8))=l.drop (l.length-8):=List.take_of_length_le (by rw[List.length_drop]; omega)
   simp only[sf_get,putAll,wx,stV,seval,iteOmega,toNatUp,reduceCtorEq,e0,e1]
   refine get_l G _ (l.drop (l.length-8)) (by rw[List.length_drop]; omega) _ ?_ fun f hf=>?_
   ·refine ent_l id ?_ ?_ rfl rfl <;> simp only[wx,wex,stV,seval,iteOmega,toNatUp,reduceCtorEq] <;> rfl
   ·rw[getN_tail l h8] at hf
    simp only[wx,stV,seval,iteOmega,toNatUp,reduceCtorEq,hf]
    exact ret_d (by simp only[wx,stV,seval,iteOmega,toNatUp,reduceCtorEq])
  ·simp only[sf_get,putAll,wx,stV,seval,iteOmega,toNatUp,reduceCtorEq]
   refine get_l G _ l (by omega) _ ?_ fun f hf=>?_
   ·refine ent_l id ?_ ?_ rfl rfl <;> simp only[wx,wex,stV,seval,iteOmega,toNatUp,reduceCtorEq] <;> rfl
   ·simp only[wx,stV,seval,iteOmega,toNatUp,reduceCtorEq,hf]
    exact ret_d (by simp only[wx,stV,seval,iteOmega,toNatUp,reduceCtorEq])
theorem low_bit (y:UInt8) (i:Nat):(andB (shrB y i) 1==1)=bitB y i:=by
  have h:(andB (shrB y i) 1).toNat=y.toNat / 2^i%2:=by
    have h2:y.toNat / 2^i<256:=Nat.lt_of_le_of_lt (Nat.div_le_self _ _) (byte_lt y)
    unfold andB shrB
    rw[UInt8.toNat_and,UInt8.toNat_ofNat_of_lt' (by simpa [UInt8.size] using h2)]
    exact Nat.and_one_is_mod _
  unfold bitB
  rw[Nat.testBit_eq_decide_div_mod_eq,Bool.eq_iff_iff,beq_iff_eq,decide_eq_true_iff,← UInt8.toNat_inj,h]
  rfl
theorem shrB_shrB (y:UInt8) (i:Nat):shrB (shrB y i) 1=shrB y (i+1):=by
  have h2:y.toNat / 2^i<256:=Nat.lt_of_le_of_lt (Nat.div_le_self _ _) (byte_lt y)
  unfold shrB
  rw[UInt8.toNat_ofNat_of_lt' (by simpa [UInt8.size] using h2),Nat.div_div_eq_div_mul,Nat.pow_one,Nat.pow_succ]
theorem shrB_zero (y:UInt8):shrB y 0=y:=by
  unfold shrB; simp
theorem tm_step (x y:UInt8) (i:Nat):xorB (tmN x y i) (selB (bitB y i) (xtN x i))=tmN x y (i+1):=rfl
theorem xt_cases (x:UInt8):xtB x=if shrB x 7==1 then xorB (shlB x 1) 27 else shlB x 1:=by
  have:=all_b (p:=fun x=>xtB x==if shrB x 7==1 then xorB (shlB x 1) 27 else shlB x 1) (by decide +kernel) x
  simpa using this
theorem xt_two (x:UInt8):timesK x 2=xtB x:=by
  have:=all_b (p:=fun x=>timesK x 2==xtB x) (by decide +kernel) x
  simpa using this
def sf_dbl:SFn:=⟨1,11,
 .seq (.reg [oO 2 (.mv (.k (.c (.d (.int .u8 0)))))])
 (.seq (.seq (.reg [oM 3 0,
 oO 4 (.bin .shr (.t 3) (.k (.c (.d (.int .u64 7))))),
 oO 5 (.bin .eql (.t 4) (.k (.c (.d (.int .u8 1)))))])
 (.cond (.t 5) (.seq (.reg [oM 6 0,
 oO 7 (.bin .shl (.t 6) (.k (.c (.d (.int .u64 1))))),
 oO 8 (.bin .xor (.t 7) (.k (.c (.d (.int .u8 27))))),
 oM 2 8])
 (.ret))
 (.skip)))
 (.seq (.reg [oM 9 0,
 oO 10 (.bin .shl (.t 9) (.k (.c (.d (.int .u64 1))))),
 oM 2 10])
 (.ret))),
 [(2,none)]⟩
theorem cf_dbl:compFn Tryz.prog { own:=[],comp:=[],frz:=[],nils:=[] } Tryz.f105=some sf_dbl:=by kernel_rfl
theorem dbl_c (G:Glob) (x:UInt8):Den Tryz.prog G 105 [bD x] (.w (.c (.d (bD (xtB x))))):=by
  refine den_walk Tryz.func105 cf_dbl rfl rfl ?_
  have h1:=bl_shr x .u64 7 7 rfl (by decide)
  have h2:=bl_eql (shrB x 7) 1 1 rfl
  have h3:=bl_shl x .u64 1 1 rfl (by decide)
  have h4:=bl_xor (shlB x 1) 27 27 rfl
  rw[xt_cases]
  cases h5:shrB x 7==1
  ·rw[h5] at h2
   simp only[sf_dbl,putAll,h1,h2,h3,h4,wal,stV,seval,iteOmega,toNatUp,reduceCtorEq,if_false,Bool.false_eq_true]
   exact qd1
  ·rw[h5] at h2
   simp only[sf_dbl,putAll,h1,h2,h3,h4,wal,stV,seval,iteOmega,toNatUp,reduceCtorEq,if_true]
   exact qd1
theorem xtN_zero (x:UInt8):xtN x 0=x:=rfl
theorem tmN_zero (x y:UInt8):tmN x y 0=0:=rfl
def boxT:List UInt8:=[99,124,119,123,242,107,111,197,48,1,103,43,254,215,171,118,202,130,201,125,250,89,71,240,173,212,162,175,156,164,114,192,183,253,147,38,54,63,247,204,52,165,229,241,113,216,49,21,4,199,35,195,24,150,5,154,7,18,128,226,235,39,178,117,9,131,44,26,27,110,90,160,82,59,214,179,41,227,47,132,83,209,0,237,32,252,177,91,106,203,190,57,74,76,88,207,208,239,170,251,67,77,51,133,69,249,2,127,80,60,159,168,81,163,64,143,146,157,56,245,188,182,218,33,16,255,243,210,205,12,19,236,95,151,68,23,196,167,126,61,100,93,25,115,96,129,79,220,34,42,144,136,70,238,184,20,222,94,11,219,224,50,58,10,73,6,36,92,194,211,172,98,145,149,228,121,231,200,55,109,141,213,78,169,108,86,244,234,101,122,174,8,186,120,37,46,28,166,180,198,232,221,116,31,75,189,139,138,112,62,181,102,72,3,246,14,97,53,87,185,134,193,29,158,225,248,152,17,105,217,142,148,155,30,135,233,206,85,40,223,140,161,137,13,191,230,66,104,65,153,45,15,176,84,187,22]
theorem boxT_eq:boxT=boxL:=by decide +kernel
def timS2 (x y:UInt8) (i:Nat):St:=⟨ofL [(0,.w (.c (.d (bD (xtN x i))))),(1,.w (.c (.d (bD (shrB y i))))),(5,.w (.c (.d (bD (tmN x y i))))),(6,.w (.c (.d (.int .i64 (i:Int)))))],hL [],uL []⟩
theorem xt_high (x:UInt8):xtB x=if andB x 128 != 0 then xorB (shlB x 1) 27 else shlB x 1:=by
  have:=all_b (p:=fun x=>xtB x==if andB x 128 != 0 then xorB (shlB x 1) 27 else shlB x 1) (by decide +kernel) x
  simpa using this
def lp_rtim_0:SCode :=
 .seq (.seq (.reg [oM 8 6,
 oO 9 (.bin .lss (.t 8) (kI 8))])
 (.cond (.t 9) (.skip)
 (.exit 0)))
 (.seq (.block 1 (.seq (.seq (.reg [oM 12 1,
 oO 13 (.bin .and (.t 12) (.k (.c (.d (.int .u8 1))))),
 oO 14 (.bin .eql (.t 13) (.k (.c (.d (.int .u8 1)))))])
 (.cond (.t 14) (.reg [oM 15 5,
 oM 16 0,
 oO 17 (.bin .xor (.t 15) (.t 16)),
 oM 5 17])
 (.skip)))
 (.seq (.reg [oM 18 0,
 oO 19 (.bin .and (.t 18) (.k (.c (.d (.int .u8 128))))),
 oM 7 19])
 (.seq (.reg [oM 20 0,
 oO 21 (.bin .shl (.t 20) (.k (.c (.d (.int .u64 1))))),
 oM 0 21])
 (.seq (.seq (.reg [oM 22 7,
 oO 23 (.bin .neq (.t 22) (.k (.c (.d (.int .u8 0)))))])
 (.cond (.t 23) (.reg [oM 24 0,
 oO 25 (.bin .xor (.t 24) (.k (.c (.d (.int .u8 27))))),
 oM 0 25])
 (.skip)))
 (.reg [oM 26 1,
 oO 27 (.bin .shr (.t 26) (.k (.c (.d (.int .u64 1))))),
 oM 1 27]))))))
 (.reg [oM 10 6,
 oO 11 (.bin .add (.t 10) (kI 1)),
 oM 6 11]))
def sf_rtim:SFn:=⟨2,29,
 .seq (.reg [oO 4 (.mv (.k (.c (.d (.int .u8 0)))))])
 (.seq (.reg [oO 5 (.mv (.k (.c (.d (.int .u8 0)))))])
 (.seq (.seq (.reg [oO 6 (.mv (kI 0))])
 (.block 0 (.loop lp_rtim_0)))
 (.seq (.reg [oM 28 5,
 oM 4 28])
 (.ret)))),
 [(4,none)]⟩
theorem cf_rtim:compFn Tryz.prog { own:=[],comp:=[],frz:=[],nils:=[] } Tryz.f98=some sf_rtim:=by kernel_rfl
set_option maxHeartbeats 1600000 in
theorem rtim_c (G:Glob) (x y:UInt8):Den Tryz.prog G 98 [bD x,bD y] (.w (.c (.d (bD (timesK x y))))):=by
  refine den_walk Tryz.func98 cf_rtim rfl rfl ?_
  simp only[sf_rtim,putAll,wal,stV,seval,iteOmega,toNatUp,reduceCtorEq]
  refine loop_st (timS2 x y) (fun i=>8-i) (fun i=>i≤8) 0 (Nat.zero_le _) ?_ ?_
  ·refine ent_l (fun _=>0) ?_ ?_ rfl rfl <;> simp only[wx,wex,wez,stV,seval,iteOmega,toNatUp,reduceCtorEq,shrB_zero,xtN_zero,tmN_zero] <;> rfl
  ·intro i hi
   by_cases hlt:i<8
   ·have h1:=bl_and (shrB y i) 1 1 rfl
    have h2:=bl_eql (andB (shrB y i) 1) 1 1 rfl
    have h3:=bl_shr (shrB y i) .u64 1 1 rfl (by decide)
    have h4:=binV_xorB (tmN x y i) (xtN x i)
    have h5:=tm_step x y i
    rw[shrB_shrB] at h3
    rw[low_bit] at h2
    have h7:xtB (xtN x i)=xtN x (i+1):=rfl
    rw[xt_high] at h7
    have g1:=bl_and (xtN x i) 128 128 rfl
    have g2:=bl_neq (andB (xtN x i) 128) 0 0 rfl
    have g3:=bl_shl (xtN x i) .u64 1 1 rfl (by decide)
    have g4:=bl_xor (shlB (xtN x i) 1) 27 27 rfl
    cases hb:bitB y i <;> cases hh:andB (xtN x i) 128 != 0 <;> rw[hb] at h2 h5 <;> rw[hh] at g2 h7
    ·have h8:tmN x y i=tmN x y (i+1):=by rw[← h5]; exact (xorB_zero _).symm
     simp only[if_false,Bool.false_eq_true] at h7
     simp only[lp_rtim_0,timS2,h1,h2,h3,h4,g1,g2,g3,wal,stV,seval,iteOmega,toNatUp,reduceCtorEq,h7]
     refine lop_next (i+1) (by omega) (by omega) (ent_l (fun _=>0) ?_ ?_ rfl rfl) <;> simp only[wx,wex,wez,stV,seval,iteOmega,toNatUp,reduceCtorEq,h8]
    ·have h8:tmN x y i=tmN x y (i+1):=by rw[← h5]; exact (xorB_zero _).symm
     simp only[if_true] at h7
     simp only[lp_rtim_0,timS2,h1,h2,h3,h4,g1,g2,g3,g4,wal,stV,seval,iteOmega,toNatUp,reduceCtorEq,h7]
     refine lop_next (i+1) (by omega) (by omega) (ent_l (fun _=>0) ?_ ?_ rfl rfl) <;> simp only[wx,wex,wez,stV,seval,iteOmega,toNatUp,reduceCtorEq,h8]
    ·have h8:xorB (tmN x y i) (xtN x i)=tmN x y (i+1):=h5
     simp only[if_false,Bool.false_eq_true] at h7
     simp only[lp_rtim_0,timS2,h1,h2,h3,h4,g1,g2,g3,wal,stV,seval,iteOmega,toNatUp,reduceCtorEq,h7]
     refine lop_next (i+1) (by omega) (by omega) (ent_l (fun _=>0) ?_ ?_ rfl rfl) <;> simp only[wx,wex,wez,stV,seval,iteOmega,toNatUp,reduceCtorEq,h8]
    ·have h8:xorB (tmN x y i) (xtN x i)=tmN x y (i+1):=h5
     simp only[if_true] at h7
     simp only[lp_rtim_0,timS2,h1,h2,h3,h4,g1,g2,g3,g4,wal,stV,seval,iteOmega,toNatUp,reduceCtorEq,h7]
     refine lop_next (i+1) (by omega) (by omega) (ent_l (fun _=>0) ?_ ?_ rfl rfl) <;> simp only[wx,wex,wez,stV,seval,iteOmega,toNatUp,reduceCtorEq,h8]
   ·obtain rfl:i=8:=by omega
    have e:timesK x y=tmN x y 8:=rfl
    simp only[lp_rtim_0,timS2,wal,stV,seval,iteOmega,toNatUp,reduceCtorEq,e]
    exact qd1
def sf_rleft:SFn:=⟨2,15,
 .seq (.reg [oO 4 (.mv (.k (.c (.d (.int .u8 0)))))])
 (.seq (.reg [oM 5 0,
 oM 6 1,
 oO 7 (.conv .u64 (.t 6)),
 oO 8 (.bin .shl (.t 5) (.t 7)),
 oM 9 0,
 oM 10 1,
 oO 11 (.bin .sub (kI 8) (.t 10)),
 oO 12 (.conv .u64 (.t 11)),
 oO 13 (.bin .shr (.t 9) (.t 12)),
 oO 14 (.bin .or (.t 8) (.t 13)),
 oM 4 14])
 (.ret)),
 [(4,none)]⟩
theorem cf_rleft:compFn Tryz.prog { own:=[],comp:=[],frz:=[],nils:=[] } Tryz.f110=some sf_rleft:=by kernel_rfl
theorem rleft_c (G:Glob) (x:UInt8) (j:Nat) (h1:1≤j) (h2:j≤4):Den Tryz.prog G 110 [bD x,.int .i64 (j:Int)] (.w (.c (.d (bD (leftB x j))))):=by
  refine den_walk Tryz.func110 cf_rleft rfl rfl ?_
  have g1:=bl_shl x .u64 j (j:Int) rfl (by omega)
  have g2:=bl_shr x .u64 (8-j) (8-(j:Int)) (by omega) (by omega)
  have g3:=binV_orB (shlB x j) (shrB x (8-j))
  have e:leftB x j=orB (shlB x j) (shrB x (8-j)):=rfl
  simp only[sf_rleft,putAll,wal,stV,seval,iteOmega,toNatUp,reduceCtorEq,g1,g2,g3,e]
  exact qd1
theorem aff_eq (y:UInt8):xorB (xorB (xorB (xorB (xorB y (leftB y 1)) (leftB y 2)) (leftB y 3)) (leftB y 4)) 99=affB y:=rfl
set_option maxRecDepth 100000 in
theorem box_size:ByteArray.size ⟨#[99,124,119,123,242,107,111,197,48,1,103,43,254,215,171,118,202,130,201,125,250,89,71,240,173,212,162,175,156,164,114,192,183,253,147,38,54,63,247,204,52,165,229,241,113,216,49,21,4,199,35,195,24,150,5,154,7,18,128,226,235,39,178,117,9,131,44,26,27,110,90,160,82,59,214,179,41,227,47,132,83,209,0,237,32,252,177,91,106,203,190,57,74,76,88,207,208,239,170,251,67,77,51,133,69,249,2,127,80,60,159,168,81,163,64,143,146,157,56,245,188,182,218,33,16,255,243,210,205,12,19,236,95,151,68,23,196,167,126,61,100,93,25,115,96,129,79,220,34,42,144,136,70,238,184,20,222,94,11,219,224,50,58,10,73,6,36,92,194,211,172,98,145,149,228,121,231,200,55,109,141,213,78,169,108,86,244,234,101,122,174,8,186,120,37,46,28,166,180,198,232,221,116,31,75,189,139,138,112,62,181,102,72,3,246,14,97,53,87,185,134,193,29,158,225,248,152,17,105,217,142,148,155,30,135,233,206,85,40,223,140,161,137,13,191,230,66,104,65,153,45,15,176,84,187,22]⟩=256:=rfl
set_option maxRecDepth 100000 in
theorem box_at (x:UInt8):(ByteArray.data ⟨#[99,124,119,123,242,107,111,197,48,1,103,43,254,215,171,118,202,130,201,125,250,89,71,240,173,212,162,175,156,164,114,192,183,253,147,38,54,63,247,204,52,165,229,241,113,216,49,21,4,199,35,195,24,150,5,154,7,18,128,226,235,39,178,117,9,131,44,26,27,110,90,160,82,59,214,179,41,227,47,132,83,209,0,237,32,252,177,91,106,203,190,57,74,76,88,207,208,239,170,251,67,77,51,133,69,249,2,127,80,60,159,168,81,163,64,143,146,157,56,245,188,182,218,33,16,255,243,210,205,12,19,236,95,151,68,23,196,167,126,61,100,93,25,115,96,129,79,220,34,42,144,136,70,238,184,20,222,94,11,219,224,50,58,10,73,6,36,92,194,211,172,98,145,149,228,121,231,200,55,109,141,213,78,169,108,86,244,234,101,122,174,8,186,120,37,46,28,166,180,198,232,221,116,31,75,189,139,138,112,62,181,102,72,3,246,14,97,53,87,185,134,193,29,158,225,248,152,17,105,217,142,148,155,30,135,233,206,85,40,223,140,161,137,13,191,230,66,104,65,153,45,15,176,84,187,22]⟩).toList[x.toNat]?=some (subK x):=by
  have e:(ByteArray.data ⟨#[99,124,119,123,242,107,111,197,48,1,103,43,254,215,171,118,202,130,201,125,250,89,71,240,173,212,162,175,156,164,114,192,183,253,147,38,54,63,247,204,52,165,229,241,113,216,49,21,4,199,35,195,24,150,5,154,7,18,128,226,235,39,178,117,9,131,44,26,27,110,90,160,82,59,214,179,41,227,47,132,83,209,0,237,32,252,177,91,106,203,190,57,74,76,88,207,208,239,170,251,67,77,51,133,69,249,2,127,80,60,159,168,81,163,64,143,146,157,56,245,188,182,218,33,16,255,243,210,205,12,19,236,95,151,68,23,196,167,126,61,100,93,25,115,96,129,79,220,34,42,144,136,70,238,184,20,222,94,11,219,224,50,58,10,73,6,36,92,194,211,172,98,145,149,228,121,231,200,55,109,141,213,78,169,108,86,244,234,101,122,174,8,186,120,37,46,28,166,180,198,232,221,116,31,75,189,139,138,112,62,181,102,72,3,246,14,97,53,87,185,134,193,29,158,225,248,152,17,105,217,142,148,155,30,135,233,206,85,40,223,140,161,137,13,191,230,66,104,65,153,45,15,176,84,187,22]⟩).toList=boxT:=rfl
  rw[e,boxT_eq]; exact boxL_get x
set_option maxRecDepth 100000
def lit_sub_0:ByteArray:=⟨#[99,124,119,123,242,107,111,197,48,1,103,43,254,215,171,118,202,130,201,125,250,89,71,240,173,212,162,175,156,164,114,192,183,253,147,38,54,63,247,204,52,165,229,241,113,216,49,21,4,199,35,195,24,150,5,154,7,18,128,226,235,39,178,117,9,131,44,26,27,110,90,160,82,59,214,179,41,227,47,132,83,209,0,237,32,252,177,91,106,203,190,57,74,76,88,207,208,239,170,251,67,77,51,133,69,249,2,127,80,60,159,168,81,163,64,143,146,157,56,245,188,182,218,33,16,255,243,210,205,12,19,236,95,151,68,23,196,167,126,61,100,93,25,115,96,129,79,220,34,42,144,136,70,238,184,20,222,94,11,219,224,50,58,10,73,6,36,92,194,211,172,98,145,149,228,121,231,200,55,109,141,213,78,169,108,86,244,234,101,122,174,8,186,120,37,46,28,166,180,198,232,221,116,31,75,189,139,138,112,62,181,102,72,3,246,14,97,53,87,185,134,193,29,158,225,248,152,17,105,217,142,148,155,30,135,233,206,85,40,223,140,161,137,13,191,230,66,104,65,153,45,15,176,84,187,22]⟩
def sf_sub:SFn:=⟨1,5,
 .seq (.reg [oO 2 (.mv (.k (.c (.d (.int .u8 0)))))])
 (.seq (.reg [oM 3 0,
 oO 4 (.idxStr (.k (.c (.d (.str lit_sub_0)))) (.t 3)),
 oM 2 4])
 (.ret)),
 [(2,none)]⟩
theorem cf_sub:compFn Tryz.prog { own:=[],comp:=[],frz:=[],nils:=[] } Tryz.f116=some sf_sub:=by kernel_rfl
theorem sub_c (G:Glob) (x:UInt8):Den Tryz.prog G 116 [bD x] (.w (.c (.d (bD (subK x))))):=by
  refine den_walk Tryz.func116 cf_sub rfl rfl ?_
  have h:=byte_lt x
  have e:=box_at x
  simp only[sf_sub,lit_sub_0,putAll,wal,stV,seval,iteOmega,toNatUp,reduceCtorEq,box_size,e]
  exact qd1
def upL (f:Nat→UInt8) (l:List UInt8) (i:Nat):List UInt8:=(List.range i).map f++l.drop i
theorem upL_len (f:Nat→UInt8) (l:List UInt8) {i:Nat} (h:i≤l.length):(upL f l i).length=l.length:=by
  unfold upL; rw[List.length_append,List.length_map,List.length_range,List.length_drop]; omega
theorem upL_zero (f:Nat→UInt8) (l:List UInt8):upL f l 0=l:=by simp[upL]
theorem upL_full (f:Nat→UInt8) (l:List UInt8) {i:Nat} (h:l.length≤i):upL f l i=(List.range i).map f:=by
  unfold upL; rw[List.drop_eq_nil_of_le h,List.append_nil]
theorem upL_get (f:Nat→UInt8) (l:List UInt8) {i j:Nat} (hj:i≤j):(upL f l i)[j]?=l[j]?:=by
  unfold upL
  rw[List.getElem?_append_right (by simpa using hj),List.getElem?_drop,List.length_map,List.length_range,show i+(j-i)=j by omega]
theorem upL_done (f:Nat→UInt8) (l:List UInt8) {i j:Nat} (hj:j<i):(upL f l i)[j]?=some (f j):=by
  unfold upL
  rw[List.getElem?_append_left (by simpa using hj)]
  simp[hj]
theorem upL_step (f:Nat→UInt8) (l:List UInt8) {i:Nat} (h:i<l.length):(upL f l i).set i (f i)=upL f l (i+1):=by
  unfold upL
  rw[List.set_append_right _ _ (by simp),List.length_map,List.length_range,Nat.sub_self,List.drop_eq_getElem_cons h,List.set_cons_zero,List.range_succ,List.map_append,List.append_assoc]
  rfl
theorem get_lt {l:List UInt8} {j:Nat} (h:j<l.length):l[j]?=some (l.getD j 0):=by
  rw[List.getD_eq_getElem?_getD,List.getElem?_eq_getElem h]; rfl
def tabN:Nat→List UInt8
  | 0=>(repL 256 0).set 0 99
  | n+1=>(tabN n).set (powB 3 n).toNat (affB (powB 246 n))
theorem tabN_len:∀ n,(tabN n).length=256
  | 0=>by rw[tabN,List.length_set,repL_len]
  | n+1=>by rw[tabN,List.length_set,tabN_len n]
set_option maxRecDepth 100000 in
theorem tab_box:tabN 255=boxL:=by decide +kernel
theorem pow0 (x:UInt8):powB x 0=1:=rfl
theorem bD1:bD 1=.int .u8 1:=rfl
def boxSt (i:Nat):St:=⟨ofL [(0,.w (.c (.pa 2 1))),(1,.w (.c (.pa 1 1))),(2,.w (.c (.d (bD (powB 3 i))))),(3,.w (.c (.d (bD (powB 246 i))))),(4,.w (.c (.d (.int .i64 (i:Int)))))],hL [(1,.row 1 ((tabN i).map bD)),(2,.row 1 ((repL 256 (0:UInt8)).map bD))],uL [1,2]⟩
def lp_rbox_0:SCode :=
 .seq (.seq (.reg [oM 6 4,
 oO 7 (.bin .lss (.t 6) (kI 255))])
 (.cond (.t 7) (.skip)
 (.exit 0)))
 (.seq (.block 1 (.seq (.reg [oM 10 2,
 oM 11 3,
 oM 12 3,
 oO 13 (.call 110 [(.t 12),(kI 1)] none),
 oO 14 (.bin .xor (.t 11) (.t 13)),
 oM 15 3,
 oO 16 (.call 110 [(.t 15),(kI 2)] none),
 oO 17 (.bin .xor (.t 14) (.t 16)),
 oM 18 3,
 oO 19 (.call 110 [(.t 18),(kI 3)] none),
 oO 20 (.bin .xor (.t 17) (.t 19)),
 oM 21 3,
 oO 22 (.call 110 [(.t 21),(kI 4)] none),
 oO 23 (.bin .xor (.t 20) (.t 22)),
 oO 24 (.bin .xor (.t 23) (.k (.c (.d (.int .u8 99))))),
 oO 25 (.idxPa 1 256 (.t 1) (.t 10)),
 oN (.store .sc (.t 25) (.t 24))])
 (.reg [oM 26 2,
 oO 27 (.call 98 [(.t 26),(.k (.c (.d (.int .u8 3))))] none),
 oM 28 3,
 oO 29 (.call 98 [(.t 28),(.k (.c (.d (.int .u8 246))))] none),
 oM 2 27,
 oM 3 29])))
 (.reg [oM 8 4,
 oO 9 (.bin .add (.t 8) (kI 1)),
 oM 4 9]))
def sf_rbox:SFn:=⟨0,31,
 .seq (.reg [oO 0 (.allocArr (repL 256 (.int .u8 0)))])
 (.seq (.reg [oO 1 (.allocArr (repL 256 (.int .u8 0)))])
 (.seq (.reg [oO 5 (.idxPa 1 256 (.t 1) (kI 0)),
 oN (.store .sc (.t 5) (.k (.c (.d (.int .u8 99)))))])
 (.seq (.reg [oO 2 (.mv (.k (.c (.d (.int .u8 1))))),
 oO 3 (.mv (.k (.c (.d (.int .u8 1)))))])
 (.seq (.seq (.reg [oO 4 (.mv (kI 0))])
 (.block 0 (.loop lp_rbox_0)))
 (.seq (.reg [oO 30 (.load (.ag 256) (.t 1)),
 oN (.store (.ag 256) (.t 0) (.t 30))])
 (.ret)))))),
 [(0,(some (.ag 256)))]⟩
theorem cf_rbox:compFn Tryz.prog { own:=[],comp:=[],frz:=[],nils:=[] } Tryz.f97=some sf_rbox:=by kernel_rfl
set_option maxHeartbeats 1600000 in
theorem rbox_c (G:Glob):Den Tryz.prog G 97 [] (.w (.c (.d (.agg (boxL.map bD))))):=by
  refine den_walk Tryz.func97 cf_rbox rfl rfl ?_
  have e0:((repL 256 (0:UInt8)).map bD).set 0 (.int .u8 99)=(tabN 0).map bD:=set_map bD _ 0 99
  have e1:0<(repL 256 (0:UInt8)).length:=by rw[repL_len]; decide
  have e2:=repL_get (n:=256) (i:=0) (0:UInt8) (by decide)
  simp only[sf_rbox,putAll,wal,stV,seval,iteOmega,toNatUp,reduceCtorEq,repL_bD,e0,e1,e2,get_map,repL_len]
  refine loop_st boxSt (fun i=>255-i) (fun i=>i≤255) 0 (Nat.zero_le _) ?_ ?_
  ·refine ent_l (fun i=>if i=1 then 8 else 0) ?_ ?_ rfl rfl <;> simp only[wx,wex,wez,stV,seval,iteOmega,toNatUp,reduceCtorEq,pow0,bD1]
  ·intro i hi
   have hl:=tabN_len i
   by_cases hlt:i<255
   ·have hp:=byte_lt (powB 3 i)
    have h3:(powB 3 i).toNat<(tabN i).length:=by omega
    have hs:(tabN i).set (powB 3 i).toNat (affB (powB 246 i))=tabN (i+1):=rfl
    have p3:timesK (powB 3 i) 3=powB 3 (i+1):=rfl
    have p4:timesK (powB 246 i) 246=powB 246 (i+1):=rfl
    have hset:((tabN i).map bD).set (powB 3 i).toNat (bD (affB (powB 246 i)))=(tabN (i+1)).map bD:=by rw[set_map,hs]
    simp only[lp_rbox_0,boxSt,wal,stV,seval,iteOmega,toNatUp,reduceCtorEq]
    generalize powB 246 i=y at *
    rw[← aff_eq] at hset
    have g1:=binV_xorB y (leftB y 1)
    have g2:=binV_xorB (xorB y (leftB y 1)) (leftB y 2)
    have g3:=binV_xorB (xorB (xorB y (leftB y 1)) (leftB y 2)) (leftB y 3)
    have g4:=binV_xorB (xorB (xorB (xorB y (leftB y 1)) (leftB y 2)) (leftB y 3)) (leftB y 4)
    have g5:=bl_xor (xorB (xorB (xorB (xorB y (leftB y 1)) (leftB y 2)) (leftB y 3)) (leftB y 4)) 99 99 rfl
    refine sC (rleft_c G y 1 (by decide) (by decide)) ?_
    simp only[g1,wal,stV,seval,iteOmega,toNatUp,reduceCtorEq]
    refine sC (rleft_c G y 2 (by decide) (by decide)) ?_
    simp only[g2,wal,stV,seval,iteOmega,toNatUp,reduceCtorEq]
    refine sC (rleft_c G y 3 (by decide) (by decide)) ?_
    simp only[g3,wal,stV,seval,iteOmega,toNatUp,reduceCtorEq]
    refine sC (rleft_c G y 4 (by decide) (by decide)) ?_
    simp only[g4,g5,hl,get_map,stO_bs h3 (one_b _),hset,wal,stV,seval,iteOmega,toNatUp,reduceCtorEq]
    refine sC (rtim_c G (powB 3 i) 3) ?_
    simp only[p3,wal,stV,seval,iteOmega,toNatUp,reduceCtorEq]
    refine sC (rtim_c G y 246) ?_
    simp only[p4,wal,stV,seval,iteOmega,toNatUp,reduceCtorEq]
    refine lop_next (i+1) (by omega) (by omega) (ent_l (fun i=>i) ?_ ?_ rfl rfl) <;> simp only[wx,wex,wez,stV,seval,iteOmega,toNatUp,reduceCtorEq]
   ·obtain rfl:i=255:=by omega
    rw[tab_box] at hl
    simp only[lp_rbox_0,boxSt,tab_box,wal,stV,seval,iteOmega,toNatUp,reduceCtorEq,hl,flat_bs,repL_len]
    exact qd1
set_option maxHeartbeats 1600000
def addL (s k:List UInt8):List UInt8:=toL (addF (ofB16 s) (ofB16 k))
def subL (s:List UInt8):List UInt8:=toL (shiftF (ofB16 s))
def mixL (s:List UInt8):List UInt8:=toL (mixF (ofB16 s))
theorem addL_len (s k:List UInt8):(addL s k).length=16:=toL_len _
theorem subL_len (s:List UInt8):(subL s).length=16:=toL_len _
theorem mixL_len (s:List UInt8):(mixL s).length=16:=toL_len _
theorem of_toL (f:B16):sameF (ofB16 (toL f)) f:=fun j hj=>by
  unfold ofB16; rw[List.getD_eq_getElem?_getD,toL_get f hj]; rfl
theorem addL_toL (f g:B16):addL (toL f) (toL g)=toL (addF f g):=toL_congr fun j hj=>by
  unfold addF; rw[of_toL f j hj,of_toL g j hj]
theorem subL_toL (f:B16):subL (toL f)=toL (shiftF f):=toL_congr fun j hj=>by
  unfold shiftF; rw[of_toL f _ (by omega)]
theorem mixL_toL (f:B16):mixL (toL f)=toL (mixF f):=toL_congr fun j hj=>by
  unfold mixF; rw[of_toL f _ (by omega),of_toL f _ (by omega),of_toL f _ (by omega),of_toL f _ (by omega)]
theorem z16:[D.int .u8 0,.int .u8 0,.int .u8 0,.int .u8 0,.int .u8 0,.int .u8 0,.int .u8 0,.int .u8 0,.int .u8 0,.int .u8 0,.int .u8 0,.int .u8 0,.int .u8 0,.int .u8 0,.int .u8 0,.int .u8 0]=(repL 16 (0:UInt8)).map bD:=rfl
theorem toL_upL (f:B16) {l:List UInt8} (h:l.length=16):upL f l 16=toL f:=upL_full f l (by omega)
theorem tmodN (a b:Nat):Int.tmod (a:Int) (b:Int)=((a%b:Nat):Int):=rfl
def comSt (s k:List UInt8) (i:Nat):St:=⟨ofL [(2,.w (.c (.pa 1 1))),(4,.w (.c (.pa 2 1))),(7,.w (.c (.d (.agg (k.map bD))))),(8,.w (.c (.d (.int .i64 (i:Int)))))],hL [(1,.row 1 ((upL (addF (ofB16 s) (ofB16 k)) s i).map bD)),(2,.row 1 ((repL 16 (0:UInt8)).map bD))],uL [1,2]⟩
def lp_com_0:SCode :=
 .seq (.reg [oO 9 (.bin .lss (.t 8) (kI 16))])
 (.seq (.cond (.t 9) (.skip)
 (.exit 0))
 (.seq (.block 1 (.seq (.reg [oM 10 8,
 oO 11 (.idxArr 1 16 .sc (.t 7) (.t 8)),
 oM 5 10,
 oM 6 11])
 (.reg [oM 12 5,
 oO 13 (.idxPa 1 16 (.t 2) (.t 12)),
 oO 14 (.load .sc (.t 13)),
 oM 15 6,
 oO 16 (.bin .xor (.t 14) (.t 15)),
 oO 17 (.idxPa 1 16 (.t 2) (.t 12)),
 oN (.store .sc (.t 17) (.t 16))])))
 (.reg [oO 18 (.bin .add (.t 8) (kI 1)),
 oM 8 18])))
def sf_com:SFn:=⟨2,20,
 .seq (.reg [oO 2 (.box .ownArr (.t 0)),
 oO 3 (.box .roArr (.t 1)),
 oO 4 (.allocArr [(.int .u8 0),(.int .u8 0),(.int .u8 0),(.int .u8 0),(.int .u8 0),(.int .u8 0),(.int .u8 0),(.int .u8 0),(.int .u8 0),(.int .u8 0),(.int .u8 0),(.int .u8 0),(.int .u8 0),(.int .u8 0),(.int .u8 0),(.int .u8 0)])])
 (.seq (.seq (.reg [oO 7 (.load (.ag 16) (.t 3)),
 oO 8 (.mv (kI 0))])
 (.block 0 (.loop lp_com_0)))
 (.seq (.reg [oO 19 (.load (.ag 16) (.t 2)),
 oN (.store (.ag 16) (.t 4) (.t 19))])
 (.ret))),
 [(4,(some (.ag 16)))]⟩
theorem cf_com:compFn Tryz.prog { own:=[2],comp:=[],frz:=[],nils:=[] } Tryz.f107=some sf_com:=by kernel_rfl
theorem com_c (G:Glob) (s k:List UInt8) (hs:s.length=16) (hk:k.length=16):Den Tryz.prog G 107 [.agg (s.map bD),.agg (k.map bD)] (.w (.c (.d (.agg ((addL s k).map bD))))):=by
  refine den_walk Tryz.func107 cf_com rfl rfl ?_
  simp only[sf_com,putAll,wal,stV,seval,iteOmega,toNatUp,reduceCtorEq,z16,flat_bs,hk]
  refine loop_st (comSt s k) (fun i=>16-i) (fun i=>i≤16) 0 (Nat.zero_le _) ?_ ?_
  ·refine ent_l (fun i=>if i=1 then 16 else 32) ?_ ?_ rfl rfl <;> simp only[wx,wex,wez,stV,seval,iteOmega,toNatUp,reduceCtorEq,upL_zero]
  ·intro i hi
   have hl:(upL (addF (ofB16 s) (ofB16 k)) s i).length=16:=by rw[upL_len _ _ (by omega)]; exact hs
   by_cases hlt:i<16
   ·have g1:k[i]?=some (k.getD i 0):=get_lt (by omega)
    have g2:(upL (addF (ofB16 s) (ofB16 k)) s i)[i]?=some (s.getD i 0):=by rw[upL_get _ _ (Nat.le_refl i)]; exact get_lt (by omega)
    have h3:i<(upL (addF (ofB16 s) (ofB16 k)) s i).length:=by omega
    have h4:=binV_xorB (s.getD i 0) (k.getD i 0)
    have h5:(upL (addF (ofB16 s) (ofB16 k)) s i).set i (xorB (s.getD i 0) (k.getD i 0))=upL (addF (ofB16 s) (ofB16 k)) s (i+1):=upL_step (addF (ofB16 s) (ofB16 k)) s (by omega)
    simp only[lp_com_0,comSt,wal,stV,seval,iteOmega,toNatUp,reduceCtorEq,get_map,g1,g2,h4,stO_bs h3 (one_b _),set_bs,h5]
    refine lop_next (i+1) (by omega) (by omega) (ent_l (fun i=>i) ?_ ?_ rfl rfl) <;> simp only[wx,wex,wez,stV,seval,iteOmega,toNatUp,reduceCtorEq]
   ·obtain rfl:i=16:=by omega
    have e:upL (addF (ofB16 s) (ofB16 k)) s 16=addL s k:=toL_upL _ hs
    have e2:=addL_len s k
    simp only[lp_com_0,comSt,e,wal,stV,seval,iteOmega,toNatUp,reduceCtorEq,e2,flat_bs,repL_len]
    exact qd1
def repSt (s:List UInt8) (i:Nat):St:=⟨ofL [(1,.w (.c (.ra (s.map bD)))),(2,.w (.c (.pa 2 1))),(3,.w (.c (.pa 1 1))),(6,.w (.c (.d (.int .i64 (i:Int)))))],hL [(1,.row 1 ((upL (shiftF (ofB16 s)) (repL 16 (0:UInt8)) i).map bD)),(2,.row 1 ((repL 16 (0:UInt8)).map bD))],uL [1,2]⟩
def lp_repl_0:SCode :=
 .seq (.reg [oO 7 (.bin .lss (.t 6) (kI 16))])
 (.seq (.cond (.t 7) (.skip)
 (.exit 0))
 (.seq (.block 1 (.seq (.reg [oM 8 6,
 oM 4 8])
 (.seq (.reg [oM 9 4,
 oO 10 (.bin .rem (.t 9) (kI 4)),
 oM 5 10])
 (.reg [oM 11 4,
 oM 12 4,
 oM 13 5,
 oO 14 (.bin .mul (.t 13) (kI 4)),
 oO 15 (.bin .add (.t 12) (.t 14)),
 oO 16 (.bin .rem (.t 15) (kI 16)),
 oO 17 (.idxPa 1 16 (.t 1) (.t 16)),
 oO 18 (.load .sc (.t 17)),
 oO 19 (.call 116 [(.t 18)] none),
 oO 20 (.idxPa 1 16 (.t 3) (.t 11)),
 oN (.store .sc (.t 20) (.t 19))]))))
 (.reg [oO 21 (.bin .add (.t 6) (kI 1)),
 oM 6 21])))
def sf_repl:SFn:=⟨1,23,
 .seq (.reg [oO 1 (.box .roArr (.t 0)),
 oO 2 (.allocArr [(.int .u8 0),(.int .u8 0),(.int .u8 0),(.int .u8 0),(.int .u8 0),(.int .u8 0),(.int .u8 0),(.int .u8 0),(.int .u8 0),(.int .u8 0),(.int .u8 0),(.int .u8 0),(.int .u8 0),(.int .u8 0),(.int .u8 0),(.int .u8 0)])])
 (.seq (.reg [oO 3 (.allocArr [(.int .u8 0),(.int .u8 0),(.int .u8 0),(.int .u8 0),(.int .u8 0),(.int .u8 0),(.int .u8 0),(.int .u8 0),(.int .u8 0),(.int .u8 0),(.int .u8 0),(.int .u8 0),(.int .u8 0),(.int .u8 0),(.int .u8 0),(.int .u8 0)])])
 (.seq (.seq (.reg [oO 6 (.mv (kI 0))])
 (.block 0 (.loop lp_repl_0)))
 (.seq (.reg [oO 22 (.load (.ag 16) (.t 3)),
 oN (.store (.ag 16) (.t 2) (.t 22))])
 (.ret)))),
 [(2,(some (.ag 16)))]⟩
theorem cf_repl:compFn Tryz.prog { own:=[],comp:=[],frz:=[],nils:=[] } Tryz.f109=some sf_repl:=by kernel_rfl
theorem repl_c (G:Glob) (s:List UInt8) (hs:s.length=16):Den Tryz.prog G 109 [.agg (s.map bD)] (.w (.c (.d (.agg ((subL s).map bD))))):=by
  refine den_walk Tryz.func109 cf_repl rfl rfl ?_
  simp only[sf_repl,putAll,wal,stV,seval,iteOmega,toNatUp,reduceCtorEq,z16]
  refine loop_st (repSt s) (fun i=>16-i) (fun i=>i≤16) 0 (Nat.zero_le _) ?_ ?_
  ·refine ent_l (fun i=>if i=1 then 24 else 16) ?_ ?_ rfl rfl <;> simp only[wx,wex,wez,stV,seval,iteOmega,toNatUp,reduceCtorEq,upL_zero]
  ·intro i hi
   have hl:(upL (shiftF (ofB16 s)) (repL 16 (0:UInt8)) i).length=16:=by rw[upL_len _ _ (by rw[repL_len]; omega),repL_len]
   by_cases hlt:i<16
   ·have hm:(i+i%4*4)%16=i%4+4*((i / 4+i%4)%4):=by omega
    have hm2:(i+i%4*4)%16<16:=by omega
    have g1:s[(i+i%4*4)%16]?=some (ofB16 s (i%4+4*((i / 4+i%4)%4))):=by rw[← hm]; exact get_lt (by omega)
    have h3:i<(upL (shiftF (ofB16 s)) (repL 16 (0:UInt8)) i).length:=by omega
    have h5:(upL (shiftF (ofB16 s)) (repL 16 (0:UInt8)) i).set i (subK (ofB16 s (i%4+4*((i / 4+i%4)%4))))=upL (shiftF (ofB16 s)) (repL 16 (0:UInt8)) (i+1):=upL_step (shiftF (ofB16 s)) _ (by rw[repL_len]; omega)
    have t1:Int.tmod (i:Int) 4=((i%4:Nat):Int):=tmodN i 4
    have t2:Int.tmod ((i:Int)+((i%4:Nat):Int)*4) 16=(((i+i%4*4)%16:Nat):Int):=tmodN (i+i%4*4) 16
    have hb:(i%4:Nat)<4:=Nat.mod_lt _ (by decide)
    generalize hq:i%4=q at *
    generalize hp:(i+q*4)%16=p at *
    simp only[lp_repl_0,repSt,wal,stV,seval,iteOmega,toNatUp,reduceCtorEq,get_map,t1,t2,g1]
    refine sC (sub_c G (ofB16 s (q+4*((i / 4+q)%4)))) ?_
    simp only[stO_bs h3 (one_b _),set_bs,h5,get_map,hl,wal,stV,seval,iteOmega,toNatUp,reduceCtorEq]
    refine lop_next (i+1) (by omega) (by omega) (ent_l (fun i=>i) ?_ ?_ rfl rfl) <;> simp only[wx,wex,wez,stV,seval,iteOmega,toNatUp,reduceCtorEq]
   ·obtain rfl:i=16:=by omega
    have e:upL (shiftF (ofB16 s)) (repL 16 (0:UInt8)) 16=subL s:=toL_upL _ (repL_len _ _)
    have e2:=subL_len s
    simp only[lp_repl_0,repSt,e,wal,stV,seval,iteOmega,toNatUp,reduceCtorEq,e2,flat_bs,repL_len]
    exact qd1
theorem mix_eq (a b c d:UInt8):xorB (xorB (xorB (xtB (xorB a b)) b) c) d=mix4 a b c d:=by
  unfold mix4 twB
  rw[xtB_lin a b,xt_two,xt_two]
def mixcSt (s:List UInt8) (i:Nat):St:=⟨ofL [(1,.w (.c (.ra (s.map bD)))),(2,.w (.c (.pa 2 1))),(3,.w (.c (.pa 1 1))),(8,.w (.c (.d (.int .i64 (i:Int)))))],hL [(1,.row 1 ((upL (mixF (ofB16 s)) (repL 16 (0:UInt8)) i).map bD)),(2,.row 1 ((repL 16 (0:UInt8)).map bD))],uL [1,2]⟩
def lp_mixd_0:SCode :=
 .seq (.reg [oO 9 (.bin .lss (.t 8) (kI 16))])
 (.seq (.cond (.t 9) (.skip)
 (.exit 0))
 (.seq (.block 1 (.seq (.reg [oM 10 8,
 oM 4 10])
 (.seq (.reg [oM 11 4,
 oO 12 (.bin .rem (.t 11) (kI 4)),
 oM 5 12])
 (.seq (.reg [oM 13 4,
 oM 14 5,
 oO 15 (.bin .sub (.t 13) (.t 14)),
 oM 16 4,
 oM 17 5,
 oO 18 (.bin .sub (.t 16) (.t 17)),
 oO 19 (.bin .add (.t 18) (kI 4)),
 oO 20 (.sliceArr 1 16 (.t 1) (some (.t 15)) (some (.t 19))),
 oM 6 20])
 (.seq (.reg [oM 21 6,
 oM 22 5,
 oO 23 (.bin .add (.t 22) (kI 1)),
 oO 24 (.bin .rem (.t 23) (kI 4)),
 oO 25 (.idxSl 1 (.t 21) (.t 24)),
 oO 26 (.load .sc (.t 25)),
 oM 7 26])
 (.reg [oM 27 4,
 oM 28 4,
 oO 29 (.idxPa 1 16 (.t 1) (.t 28)),
 oO 30 (.load .sc (.t 29)),
 oM 31 7,
 oO 32 (.bin .xor (.t 30) (.t 31)),
 oO 33 (.call 105 [(.t 32)] none),
 oM 34 7,
 oO 35 (.bin .xor (.t 33) (.t 34)),
 oM 36 6,
 oM 37 5,
 oO 38 (.bin .add (.t 37) (kI 2)),
 oO 39 (.bin .rem (.t 38) (kI 4)),
 oO 40 (.idxSl 1 (.t 36) (.t 39)),
 oO 41 (.load .sc (.t 40)),
 oO 42 (.bin .xor (.t 35) (.t 41)),
 oM 43 6,
 oM 44 5,
 oO 45 (.bin .add (.t 44) (kI 3)),
 oO 46 (.bin .rem (.t 45) (kI 4)),
 oO 47 (.idxSl 1 (.t 43) (.t 46)),
 oO 48 (.load .sc (.t 47)),
 oO 49 (.bin .xor (.t 42) (.t 48)),
 oO 50 (.idxPa 1 16 (.t 3) (.t 27)),
 oN (.store .sc (.t 50) (.t 49))]))))))
 (.reg [oO 51 (.bin .add (.t 8) (kI 1)),
 oM 8 51])))
def sf_mixd:SFn:=⟨1,53,
 .seq (.reg [oO 1 (.box .roArr (.t 0)),
 oO 2 (.allocArr [(.int .u8 0),(.int .u8 0),(.int .u8 0),(.int .u8 0),(.int .u8 0),(.int .u8 0),(.int .u8 0),(.int .u8 0),(.int .u8 0),(.int .u8 0),(.int .u8 0),(.int .u8 0),(.int .u8 0),(.int .u8 0),(.int .u8 0),(.int .u8 0)])])
 (.seq (.reg [oO 3 (.allocArr [(.int .u8 0),(.int .u8 0),(.int .u8 0),(.int .u8 0),(.int .u8 0),(.int .u8 0),(.int .u8 0),(.int .u8 0),(.int .u8 0),(.int .u8 0),(.int .u8 0),(.int .u8 0),(.int .u8 0),(.int .u8 0),(.int .u8 0),(.int .u8 0)])])
 (.seq (.seq (.reg [oO 8 (.mv (kI 0))])
 (.block 0 (.loop lp_mixd_0)))
 (.seq (.reg [oO 52 (.load (.ag 16) (.t 3)),
 oN (.store (.ag 16) (.t 2) (.t 52))])
 (.ret)))),
 [(2,(some (.ag 16)))]⟩
theorem cf_mixd:compFn Tryz.prog { own:=[],comp:=[],frz:=[],nils:=[] } Tryz.f108=some sf_mixd:=by kernel_rfl
theorem mixd_c (G:Glob) (s:List UInt8) (hs:s.length=16):Den Tryz.prog G 108 [.agg (s.map bD)] (.w (.c (.d (.agg ((mixL s).map bD))))):=by
  refine den_walk Tryz.func108 cf_mixd rfl rfl ?_
  simp only[sf_mixd,putAll,wal,stV,seval,iteOmega,toNatUp,reduceCtorEq,z16]
  refine loop_st (mixcSt s) (fun i=>16-i) (fun i=>i≤16) 0 (Nat.zero_le _) ?_ ?_
  ·refine ent_l (fun i=>if i=1 then 24 else 16) ?_ ?_ rfl rfl <;> simp only[wx,wex,wez,stV,seval,iteOmega,toNatUp,reduceCtorEq,upL_zero]
  ·intro i hi
   have hl:(upL (mixF (ofB16 s)) (repL 16 (0:UInt8)) i).length=16:=by rw[upL_len _ _ (by rw[repL_len]; omega),repL_len]
   by_cases hlt:i<16
   ·have h3:i<(upL (mixF (ofB16 s)) (repL 16 (0:UInt8)) i).length:=by omega
    have h5:(upL (mixF (ofB16 s)) (repL 16 (0:UInt8)) i).set i (mixF (ofB16 s) i)=upL (mixF (ofB16 s)) (repL 16 (0:UInt8)) (i+1):=upL_step (mixF (ofB16 s)) _ (by rw[repL_len]; omega)
    have g0:s[i]?=some (ofB16 s i):=get_lt (by omega)
    obtain⟨q,r,hr,rfl⟩:∃ q r,r<4∧i=4*q+r:=⟨i / 4,i%4,Nat.mod_lt _ (by decide),by omega⟩
    have hq:q<4:=by omega
    have col:∀ j,j<4→((s.drop (4*q)).take 4)[j]?=some (ofB16 s (4*q+j)):=fun j hj=>by
      rw[List.getElem?_take,if_pos hj,List.getElem?_drop]; exact get_lt (by omega)
    have g1:=col ((r+1)%4) (Nat.mod_lt _ (by decide))
    have g2:=col ((r+2)%4) (Nat.mod_lt _ (by decide))
    have g3:=col ((r+3)%4) (Nat.mod_lt _ (by decide))
    have t0:Int.tmod (4*(q:Int)+(r:Int)) 4=(r:Int):=by
      show Int.tmod ((4*q+r:Nat):Int) ((4:Nat):Int)=_
      rw[tmodN]; congr 1; omega
    have t1:Int.tmod ((r:Int)+1) 4=(((r+1)%4:Nat):Int):=tmodN (r+1) 4
    have t2:Int.tmod ((r:Int)+2) 4=(((r+2)%4:Nat):Int):=tmodN (r+2) 4
    have t3:Int.tmod ((r:Int)+3) 4=(((r+3)%4:Nat):Int):=tmodN (r+3) 4
    have b1:(r+1)%4<4:=Nat.mod_lt _ (by decide)
    have b2:(r+2)%4<4:=Nat.mod_lt _ (by decide)
    have b3:(r+3)%4<4:=Nat.mod_lt _ (by decide)
    have em:mixF (ofB16 s) (4*q+r)=mix4 (ofB16 s (4*q+r)) (ofB16 s (4*q+(r+1)%4)) (ofB16 s (4*q+(r+2)%4)) (ofB16 s (4*q+(r+3)%4)):=by
      unfold mixF
      rw[show (4*q+r) / 4=q by omega,show (4*q+r)%4=r by omega]
    rw[em,← mix_eq] at h5
    have s1:4*q+r-r=4*q:=by omega
    have s2:4*q+4-4*q=4:=by omega
    have s3:((s.drop (4*q)).take 4).length=4:=by rw[List.length_take,List.length_drop]; omega
    generalize (r+1)%4=r1 at *
    generalize (r+2)%4=r2 at *
    generalize (r+3)%4=r3 at *
    generalize ofB16 s (4*q+r)=a at *
    generalize ofB16 s (4*q+r1)=b at *
    generalize ofB16 s (4*q+r2)=c at *
    generalize ofB16 s (4*q+r3)=d at *
    have x1:=binV_xorB a b
    have x2:=binV_xorB (xtB (xorB a b)) b
    have x3:=binV_xorB (xorB (xtB (xorB a b)) b) c
    have x4:=binV_xorB (xorB (xorB (xtB (xorB a b)) b) c) d
    simp only[lp_mixd_0,mixcSt,wal,stV,seval,iteOmega,toNatUp,reduceCtorEq,get_map,t0,t1,t2,t3,g0,g1,g2,g3,s1,s2,s3,x1]
    refine sC (dbl_c G (xorB a b)) ?_
    simp only[get_map,t0,t1,t2,t3,g0,g1,g2,g3,s1,s2,s3,x2,x3,x4,stO_bs h3 (one_b _),set_bs,h5,hl,wal,stV,seval,iteOmega,toNatUp,reduceCtorEq]
    refine lop_next (4*q+r+1) (by omega) (by omega) (ent_l (fun i=>i) ?_ ?_ rfl rfl) <;> simp only[wx,wex,wez,stV,seval,iteOmega,toNatUp,reduceCtorEq]
   ·obtain rfl:i=16:=by omega
    have e:upL (mixF (ofB16 s)) (repL 16 (0:UInt8)) 16=mixL s:=toL_upL _ (repL_len _ _)
    have e2:=mixL_len s
    simp only[lp_mixd_0,mixcSt,e,wal,stV,seval,iteOmega,toNatUp,reduceCtorEq,e2,flat_bs,repL_len]
    exact qd1
def wV0 (l:List UInt8) (c:UInt8) (j:Nat):UInt8:=if j=0 then xorB (subK (l.getD 13 0)) c else if j=1 then subK (l.getD 14 0) else if j=2 then subK (l.getD 15 0) else subK (l.getD 12 0)
def wV (l:List UInt8) (c:UInt8):Nat→Nat→UInt8
  | 0,j=>wV0 l c j
  | n+1,j=>if j=n%4 then xorB (l.getD n 0) (wV l c n (n%4)) else wV l c n j
def folF (l:List UInt8) (c:UInt8) (n:Nat):UInt8:=xorB (l.getD n 0) (wV l c n (n%4))
def folL (l:List UInt8) (c:UInt8):List UInt8:=toL (folF l c)
theorem folL_len (l:List UInt8) (c:UInt8):(folL l c).length=16:=toL_len _
def wL (l:List UInt8) (c:UInt8) (i:Nat):List UInt8:=(List.range 4).map (wV l c i)
theorem wL_len (l:List UInt8) (c:UInt8) (i:Nat):(wL l c i).length=4:=by simp[wL]
theorem wL_get (l:List UInt8) (c:UInt8) (i:Nat) {j:Nat} (h:j<4):(wL l c i)[j]?=some (wV l c i j):=by simp[wL,h]
theorem wL_step (l:List UInt8) (c:UInt8) (i:Nat):(wL l c i).set (i%4) (folF l c i)=wL l c (i+1):=by
  apply List.ext_getElem?
  intro j
  by_cases hj:j<4
  ·rw[wL_get _ _ _ hj,List.getElem?_set]
   by_cases e:i%4=j
   ·rw[if_pos e,if_pos (by rw[wL_len]; omega),wV,if_pos e.symm]; rfl
   ·rw[if_neg e,wL_get _ _ _ hj,wV,if_neg (fun h=>e h.symm)]
  ·rw[List.getElem?_eq_none (by rw[List.length_set,wL_len]; omega),List.getElem?_eq_none (by rw[wL_len]; omega)]
theorem wL_zero (l:List UInt8) (c:UInt8):[xorB (subK (l.getD 13 0)) c,subK (l.getD 14 0),subK (l.getD 15 0),subK (l.getD 12 0)]=wL l c 0:=rfl
def folSt (l:List UInt8) (c:UInt8) (i:Nat):St:=⟨ofL [(2,.w (.c (.pa 1 1))),(4,.w (.c (.pa 2 1))),(5,.w (.c (.pa 3 1))),(22,.w (.c (.d (.int .i64 (i:Int)))))],hL [(1,.row 1 ((upL (folF l c) l i).map bD)),(2,.row 1 ((repL 16 (0:UInt8)).map bD)),(3,.row 1 ((wL l c i).map bD))],uL [1,2,3]⟩
def lp_fol_0:SCode :=
 .seq (.reg [oO 23 (.bin .lss (.t 22) (kI 16))])
 (.seq (.cond (.t 23) (.skip)
 (.exit 0))
 (.seq (.block 1 (.seq (.reg [oM 24 22,
 oM 6 24])
 (.seq (.reg [oM 25 6,
 oO 26 (.idxPa 1 16 (.t 2) (.t 25)),
 oO 27 (.load .sc (.t 26)),
 oM 28 6,
 oO 29 (.bin .rem (.t 28) (kI 4)),
 oO 30 (.idxPa 1 4 (.t 5) (.t 29)),
 oO 31 (.load .sc (.t 30)),
 oO 32 (.bin .xor (.t 27) (.t 31)),
 oO 33 (.idxPa 1 16 (.t 2) (.t 25)),
 oN (.store .sc (.t 33) (.t 32))])
 (.reg [oM 34 6,
 oO 35 (.bin .rem (.t 34) (kI 4)),
 oM 36 6,
 oO 37 (.idxPa 1 16 (.t 2) (.t 36)),
 oO 38 (.load .sc (.t 37)),
 oO 39 (.idxPa 1 4 (.t 5) (.t 35)),
 oN (.store .sc (.t 39) (.t 38))]))))
 (.reg [oO 40 (.bin .add (.t 22) (kI 1)),
 oM 22 40])))
def sf_fol:SFn:=⟨2,42,
 .seq (.reg [oO 2 (.box .ownArr (.t 0)),
 oO 4 (.allocArr [(.int .u8 0),(.int .u8 0),(.int .u8 0),(.int .u8 0),(.int .u8 0),(.int .u8 0),(.int .u8 0),(.int .u8 0),(.int .u8 0),(.int .u8 0),(.int .u8 0),(.int .u8 0),(.int .u8 0),(.int .u8 0),(.int .u8 0),(.int .u8 0)])])
 (.seq (.reg [oO 7 (.idxPa 1 16 (.t 2) (kI 13)),
 oO 8 (.load .sc (.t 7)),
 oO 9 (.call 116 [(.t 8)] none),
 oM 10 1,
 oO 11 (.bin .xor (.t 9) (.t 10)),
 oO 12 (.idxPa 1 16 (.t 2) (kI 14)),
 oO 13 (.load .sc (.t 12)),
 oO 14 (.call 116 [(.t 13)] none),
 oO 15 (.idxPa 1 16 (.t 2) (kI 15)),
 oO 16 (.load .sc (.t 15)),
 oO 17 (.call 116 [(.t 16)] none),
 oO 18 (.idxPa 1 16 (.t 2) (kI 12)),
 oO 19 (.load .sc (.t 18)),
 oO 20 (.call 116 [(.t 19)] none),
 oO 21 (.build [(.d (.int .u8 0)),(.d (.int .u8 0)),(.d (.int .u8 0)),(.d (.int .u8 0))] [(0,1,(.t 11)),(1,1,(.t 14)),(2,1,(.t 17)),(3,1,(.t 20))]),
 oO 5 (.allocArr [(.int .u8 0),(.int .u8 0),(.int .u8 0),(.int .u8 0)]),
 oN (.store (.ag 4) (.t 5) (.t 21))])
 (.seq (.seq (.reg [oO 22 (.mv (kI 0))])
 (.block 0 (.loop lp_fol_0)))
 (.seq (.reg [oO 41 (.load (.ag 16) (.t 2)),
 oN (.store (.ag 16) (.t 4) (.t 41))])
 (.ret)))),
 [(4,(some (.ag 16)))]⟩
theorem cf_fol:compFn Tryz.prog { own:=[2],comp:=[],frz:=[],nils:=[] } Tryz.f104=some sf_fol:=by kernel_rfl
set_option maxHeartbeats 3200000 in
theorem fol_c (G:Glob) (l:List UInt8) (c:UInt8) (hl:l.length=16):Den Tryz.prog G 104 [.agg (l.map bD),bD c] (.w (.c (.d (.agg ((folL l c).map bD))))):=by
  refine den_walk Tryz.func104 cf_fol rfl rfl ?_
  have a13:l[13]?=some (l.getD 13 0):=get_lt (by omega)
  have a14:l[14]?=some (l.getD 14 0):=get_lt (by omega)
  have a15:l[15]?=some (l.getD 15 0):=get_lt (by omega)
  have a12:l[12]?=some (l.getD 12 0):=get_lt (by omega)
  have x0:=binV_xorB (subK (l.getD 13 0)) c
  have w0:=congrArg (List.map bD) (wL_zero l c)
  have wl:=wL_len l c 0
  simp only[List.map_cons,List.map_nil] at w0
  simp only[sf_fol,putAll,wal,stV,seval,iteOmega,toNatUp,reduceCtorEq,z16,hl,get_map,a13]
  refine sC (sub_c G (l.getD 13 0)) ?_
  simp only[x0,get_map,a14,hl,wal,stV,seval,iteOmega,toNatUp,reduceCtorEq]
  refine sC (sub_c G (l.getD 14 0)) ?_
  simp only[get_map,a15,hl,wal,stV,seval,iteOmega,toNatUp,reduceCtorEq]
  refine sC (sub_c G (l.getD 15 0)) ?_
  simp only[get_map,a12,hl,wal,stV,seval,iteOmega,toNatUp,reduceCtorEq]
  refine sC (sub_c G (l.getD 12 0)) ?_
  simp only[w0,wal,stV,seval,iteOmega,toNatUp,reduceCtorEq]
  refine loop_st (folSt l c) (fun i=>16-i) (fun i=>i≤16) 0 (Nat.zero_le _) ?_ ?_
  ·refine ent_l (fun i=>if i=1 then 16 else if i=2 then 32 else 40) ?_ ?_ rfl rfl <;> simp only[wx,wex,wez,stV,seval,iteOmega,toNatUp,reduceCtorEq,upL_zero]
  ·intro i hi
   have hu:(upL (folF l c) l i).length=16:=by rw[upL_len _ _ (by omega)]; exact hl
   by_cases hlt:i<16
   ·have hm:i%4<4:=Nat.mod_lt _ (by decide)
    have t1:Int.tmod (i:Int) 4=((i%4:Nat):Int):=tmodN i 4
    have g1:(upL (folF l c) l i)[i]?=some (l.getD i 0):=by rw[upL_get _ _ (Nat.le_refl i)]; exact get_lt (by omega)
    have g2:=wL_get l c i hm
    have x1:=binV_xorB (l.getD i 0) (wV l c i (i%4))
    have h3:i<(upL (folF l c) l i).length:=by omega
    have h4:i%4<(wL l c i).length:=by rw[wL_len]; exact hm
    have h5:(upL (folF l c) l i).set i (folF l c i)=upL (folF l c) l (i+1):=upL_step (folF l c) l (by omega)
    have h6:=wL_step l c i
    have g3:(upL (folF l c) l (i+1))[i]?=some (folF l c i):=upL_done _ _ (Nat.lt_succ_self i)
    have hf:xorB (l.getD i 0) (wV l c i (i%4))=folF l c i:=rfl
    have hwl:=wL_len l c i
    have hu2:(upL (folF l c) l (i+1)).length=16:=by rw[upL_len _ _ (by omega)]; exact hl
    generalize hq:i%4=q at *
    simp only[lp_fol_0,folSt,wal,stV,seval,iteOmega,toNatUp,reduceCtorEq,get_map,t1,g1,g2,x1,hf,stO_bs h3 (one_b _),stO_bs h4 (one_b _),set_bs,h5,h6,g3,hu,hu2,hwl]
    refine lop_next (i+1) (by omega) (by omega) (ent_l (fun i=>i) ?_ ?_ rfl rfl) <;> simp only[wx,wex,wez,stV,seval,iteOmega,toNatUp,reduceCtorEq]
   ·obtain rfl:i=16:=by omega
    have e:upL (folF l c) l 16=folL l c:=toL_upL _ hl
    have e2:=folL_len l c
    simp only[lp_fol_0,folSt,e,wal,stV,seval,iteOmega,toNatUp,reduceCtorEq,e2,flat_bs,repL_len]
    exact qd1
theorem getD_appC {P Q:List UInt8} {k n:Nat} (h:P.length=n):(P++Q).getD (n+k) 0=Q.getD k 0:=by
  rw[List.getD_eq_getElem?_getD,List.getD_eq_getElem?_getD,List.getElem?_append_right (by omega),h,Nat.add_sub_cancel_left]
theorem drop_app {P Q:List UInt8} {k n:Nat} (h:P.length=n):(P++Q).drop (n+k)=Q.drop k:=by
  rw[← h,List.drop_append,List.drop_eq_nil_of_le (by omega),List.nil_append,Nat.add_sub_cancel_left]
theorem nextK_app {P Q:List UInt8} {n:Nat} (h:P.length=4*n):nextK (P++Q) n=(List.range 4).map fun k=>xorB (Q.getD k 0) ((turnW (Q.drop 12) n).getD k 0):=by
  unfold nextK
  refine List.map_congr_left fun k _=>?_
  rw[getD_appC h,show 12+4*n=4*n+12 by omega,drop_app h]
theorem fol16 (b0 b1 b2 b3 b4 b5 b6 b7 b8 b9 b10 b11 b12 b13 b14 b15 c:UInt8):∃ f0 f1 f2 f3,
    f0=xorB b0 (xorB (subK b13) c)∧f1=xorB b1 (subK b14)∧f2=xorB b2 (subK b15)∧f3=xorB b3 (subK b12) ∧
    folL [b0,b1,b2,b3,b4,b5,b6,b7,b8,b9,b10,b11,b12,b13,b14,b15] c =
      [f0,f1,f2,f3,xorB b4 f0,xorB b5 f1,xorB b6 f2,xorB b7 f3,xorB b8 (xorB b4 f0),xorB b9 (xorB b5 f1),xorB b10 (xorB b6 f2),xorB b11 (xorB b7 f3),
       xorB b12 (xorB b8 (xorB b4 f0)),xorB b13 (xorB b9 (xorB b5 f1)),xorB b14 (xorB b10 (xorB b6 f2)),xorB b15 (xorB b11 (xorB b7 f3))] :=
  ⟨_,_,_,_,rfl,rfl,rfl,rfl,rfl⟩
theorem four_map (f:Nat→UInt8):(List.range 4).map f=[f 0,f 1,f 2,f 3]:=rfl
theorem rk_block {P:List UInt8} {r:Nat} (hP:P.length=16*r) (b0 b1 b2 b3 b4 b5 b6 b7 b8 b9 b10 b11 b12 b13 b14 b15:UInt8) (key:List UInt8)
    (h:rkN key (4*r)=P++[b0,b1,b2,b3,b4,b5,b6,b7,b8,b9,b10,b11,b12,b13,b14,b15]) :
    rkN key (4*(r+1))=rkN key (4*r)++folL [b0,b1,b2,b3,b4,b5,b6,b7,b8,b9,b10,b11,b12,b13,b14,b15] (conK r):=by
  obtain⟨f0,f1,f2,f3,e0,e1,e2,e3,ef⟩:=fol16 b0 b1 b2 b3 b4 b5 b6 b7 b8 b9 b10 b11 b12 b13 b14 b15 (conK r)
  have m0:4*r%4=0:=by omega
  have m1:(4*r+1)%4≠0:=by omega
  have m2:(4*r+2)%4≠0:=by omega
  have m3:(4*r+3)%4≠0:=by omega
  have d0:4*r / 4=r:=by omega
  have n0:nextK (rkN key (4*r)) (4*r)=[f0,f1,f2,f3]:=by
    rw[h,nextK_app (by omega),four_map]
    unfold turnW
    rw[if_pos m0,d0,e0,e1,e2,e3]; rfl
  have s1:rkN key (4*r+1)=(P++[b0,b1,b2,b3])++[b4,b5,b6,b7,b8,b9,b10,b11,b12,b13,b14,b15,f0,f1,f2,f3]:=by
    rw[rkN,n0,h]; simp
  have n1:nextK (rkN key (4*r+1)) (4*r+1)=[xorB b4 f0,xorB b5 f1,xorB b6 f2,xorB b7 f3]:=by
    rw[s1,nextK_app (by simp; omega),four_map]
    unfold turnW
    rw[if_neg m1]; rfl
  have s2:rkN key (4*r+2)=(P++[b0,b1,b2,b3,b4,b5,b6,b7])++[b8,b9,b10,b11,b12,b13,b14,b15,f0,f1,f2,f3,xorB b4 f0,xorB b5 f1,xorB b6 f2,xorB b7 f3]:=by
    rw[show 4*r+2=(4*r+1)+1 from rfl,rkN,n1,s1]; simp
  have n2:nextK (rkN key (4*r+2)) (4*r+2)=[xorB b8 (xorB b4 f0),xorB b9 (xorB b5 f1),xorB b10 (xorB b6 f2),xorB b11 (xorB b7 f3)]:=by
    rw[s2,nextK_app (by simp; omega),four_map]
    unfold turnW
    rw[if_neg m2]; rfl
  have s3:rkN key (4*r+3)=(P++[b0,b1,b2,b3,b4,b5,b6,b7,b8,b9,b10,b11])++[b12,b13,b14,b15,f0,f1,f2,f3,xorB b4 f0,xorB b5 f1,xorB b6 f2,xorB b7 f3,xorB b8 (xorB b4 f0),xorB b9 (xorB b5 f1),xorB b10 (xorB b6 f2),xorB b11 (xorB b7 f3)]:=by
    rw[show 4*r+3=(4*r+2)+1 from rfl,rkN,n2,s2]; simp
  have n3:nextK (rkN key (4*r+3)) (4*r+3)=[xorB b12 (xorB b8 (xorB b4 f0)),xorB b13 (xorB b9 (xorB b5 f1)),xorB b14 (xorB b10 (xorB b6 f2)),xorB b15 (xorB b11 (xorB b7 f3))]:=by
    rw[s3,nextK_app (by simp; omega),four_map]
    unfold turnW
    rw[if_neg m3]; rfl
  rw[show 4*(r+1)=(4*r+3)+1 by omega,rkN,n3,s3,ef,h]
  simp
def kb (key:List UInt8) (r:Nat):List UInt8:=(rkN key (4*r)).drop (16*r)
theorem kb_len {key:List UInt8} (h:key.length=16) (r:Nat):(kb key r).length=16:=by
  unfold kb; rw[List.length_drop,rkN_len h]; omega
theorem list16 {l:List UInt8} (h:l.length=16):∃ b0 b1 b2 b3 b4 b5 b6 b7 b8 b9 b10 b11 b12 b13 b14 b15,l=[b0,b1,b2,b3,b4,b5,b6,b7,b8,b9,b10,b11,b12,b13,b14,b15]:=by
  rcases l with _ | ⟨b0,l⟩ <;> simp at h
  rcases l with _ | ⟨b1,l⟩ <;> simp at h
  rcases l with _ | ⟨b2,l⟩ <;> simp at h
  rcases l with _ | ⟨b3,l⟩ <;> simp at h
  rcases l with _ | ⟨b4,l⟩ <;> simp at h
  rcases l with _ | ⟨b5,l⟩ <;> simp at h
  rcases l with _ | ⟨b6,l⟩ <;> simp at h
  rcases l with _ | ⟨b7,l⟩ <;> simp at h
  rcases l with _ | ⟨b8,l⟩ <;> simp at h
  rcases l with _ | ⟨b9,l⟩ <;> simp at h
  rcases l with _ | ⟨b10,l⟩ <;> simp at h
  rcases l with _ | ⟨b11,l⟩ <;> simp at h
  rcases l with _ | ⟨b12,l⟩ <;> simp at h
  rcases l with _ | ⟨b13,l⟩ <;> simp at h
  rcases l with _ | ⟨b14,l⟩ <;> simp at h
  rcases l with _ | ⟨b15,l⟩ <;> simp at h
  subst h
  exact⟨_,_,_,_,_,_,_,_,_,_,_,_,_,_,_,_,rfl⟩
theorem rk_next {key:List UInt8} (h:key.length=16) (r:Nat):rkN key (4*(r+1))=rkN key (4*r)++folL (kb key r) (conK r):=by
  obtain⟨b0,b1,b2,b3,b4,b5,b6,b7,b8,b9,b10,b11,b12,b13,b14,b15,e⟩:=list16 (kb_len h r)
  rw[e]
  refine rk_block (P:=(rkN key (4*r)).take (16*r)) ?_ _ _ _ _ _ _ _ _ _ _ _ _ _ _ _ _ key ?_
  ·rw[List.length_take,rkN_len h]; omega
  ·rw[← e]; exact (List.take_append_drop _ _).symm
def rkP (key:List UInt8) (i:Nat):List UInt8:=rkN key (4*i)++repL (160-16*i) 0
theorem rkP_len {key:List UInt8} (h:key.length=16) {i:Nat} (hi:i≤10):(rkP key i).length=176:=by
  unfold rkP; rw[List.length_append,rkN_len h,repL_len]; omega
theorem rkP_zero {key:List UInt8} (h:key.length=16):setR (repL 176 (0:UInt8)) 0 key=rkP key 0:=by
  unfold setR rkP repL
  rw[List.take_zero,List.nil_append,List.drop_replicate,h]; rfl
theorem rkP_part {key:List UInt8} (h:key.length=16) {i:Nat} (hi:i≤10):((rkP key i).drop (i*16)).take 16=kb key i:=by
  unfold rkP
  rw[Nat.mul_comm,List.drop_append_of_le_length (by rw[rkN_len h]; omega)]
  exact List.take_left' (kb_len h i)
theorem rkP_step {key:List UInt8} (h:key.length=16) {i:Nat} (hi:i<10):setR (rkP key i) ((i+1)*16) (folL (kb key i) (conK i))=rkP key (i+1):=by
  have hl:(rkN key (4*i)).length=(i+1)*16:=by rw[rkN_len h]; omega
  unfold setR rkP
  rw[rk_next h,List.take_append_of_le_length (by omega),List.take_of_length_le (by omega),folL_len,List.drop_append,List.drop_eq_nil_of_le (by omega),List.nil_append,hl]
  congr 1
  unfold repL
  rw[List.drop_replicate]
  congr 1
  omega
theorem rkP_full (key:List UInt8):rkP key 10=rkK key:=by
  unfold rkP repL rkK; rw[show 160-16*10=0 from rfl,List.replicate_zero,List.append_nil]
set_option maxHeartbeats 3200000
def expdSt (key:List UInt8) (i:Nat):St:=⟨ofL [(2,.w (.c (.ptr 2 1 0 0))),(3,.w (.c (.ptr 1 1 0 0))),(4,.w (.c (.d (bD (conK i))))),(5,.w (.c (.d (.int .i64 ((i+1:Nat):Int)))))],hL [(1,.box ((rkP key i).map bC)),(2,.box ((repL 176 (0:UInt8)).map bC))],uL [1,2]⟩
theorem con0:conK 0=1:=rfl
def lp_expd_0:SCode :=
 .seq (.seq (.reg [oM 10 5,
 oO 11 (.bin .leq (.t 10) (kI 10))])
 (.cond (.t 11) (.skip)
 (.exit 0)))
 (.seq (.block 1 (.seq (.reg [oM 14 5,
 oM 15 5,
 oO 16 (.bin .sub (.t 15) (kI 1)),
 oO 17 (.idxPa 16 11 (.t 3) (.t 16)),
 oO 18 (.load (.ag 16) (.t 17)),
 oM 19 4,
 oO 20 (.call 104 [(.t 18),(.t 19)] none),
 oO 21 (.idxPa 16 11 (.t 3) (.t 14)),
 oN (.store (.ag 16) (.t 21) (.t 20))])
 (.reg [oM 22 4,
 oO 23 (.call 105 [(.t 22)] none),
 oM 4 23])))
 (.reg [oM 12 5,
 oO 13 (.bin .add (.t 12) (kI 1)),
 oM 5 13]))
def sf_expd:SFn:=⟨1,25,
 .seq (.reg [oO 2 (.alloc (repL 176 (.d (.int .u8 0))))])
 (.seq (.reg [oO 3 (.alloc (repL 176 (.d (.int .u8 0))))])
 (.seq (.reg [oO 6 (.idxPa 16 11 (.t 3) (kI 0)),
 oO 7 (.sliceArr 1 16 (.t 6) none none),
 oM 8 0,
 oO 9 (.copy 1 (.t 7) (.t 8))])
 (.seq (.reg [oO 4 (.mv (.k (.c (.d (.int .u8 1)))))])
 (.seq (.seq (.reg [oO 5 (.mv (kI 1))])
 (.block 0 (.loop lp_expd_0)))
 (.seq (.reg [oO 24 (.load (.ag 176) (.t 3)),
 oN (.store (.ag 176) (.t 2) (.t 24))])
 (.ret)))))),
 [(2,(some (.ag 176)))]⟩
theorem cf_expd:compFn Tryz.prog { own:=[],comp:=[],frz:=[],nils:=[] } Tryz.f89=some sf_expd:=by kernel_rfl
theorem expd_c (G:Glob) (key:List UInt8) (h:key.length=16):Den Tryz.prog G 89 [.sl (key.map bD)] (.w (.c (.d (.agg ((rkK key).map bD))))):=by
  refine den_walk Tryz.func89 cf_expd rfl rfl ?_
  have ht:key.take 16=key:=List.take_of_length_le (by omega)
  have h0:key++List.drop key.length (repL 176 (0:UInt8))=rkP key 0:=by rw[← rkP_zero h]; simp[setR]
  have hid:=ids_bC (rkP key 0)
  have hid2:=ids_bC (repL 176 (0:UInt8))
  simp only[sf_expd,putAll,wal,stV,seval,iteOmega,toNatUp,reduceCtorEq,repL_bC,len_map,repL_len,take_map,ht,flat_bs,map_C,setR_map,h0]
  refine loop_st (expdSt key) (fun i=>10-i) (fun i=>i≤10) 0 (Nat.zero_le _) ?_ ?_
  ·refine ent_l (fun i=>if i=1 then 24 else 16) ?_ ?_ rfl (by simp[V.ids,W.ids,C.ids,Ob.ids,ids_bC]) <;> simp only[wx,wex,wez,stV,seval,iteOmega,toNatUp,reduceCtorEq,con0,bD1,ren_bC,ids_bC]
  ·intro i hi
   have hl:=rkP_len h hi
   by_cases hlt:i<10
   ·have g1:=rkP_part h hi
    have h5:List.take ((i+1)*16) (rkP key i)++folL (kb key i) (conK i)++List.drop ((i+1)*16+16) (rkP key i)=rkP key (i+1):=by
      rw[← rkP_step h hlt]; unfold setR; rw[folL_len]
    have hf:=folL_len (kb key i) (conK i)
    have hx:xtB (conK i)=conK (i+1):=rfl
    have s1:((i:Int)+1-1).toNat=i:=by omega
    simp only[lp_expd_0,expdSt,wal,stV,seval,iteOmega,toNatUp,reduceCtorEq,len_map,hl,take_map,drop_map,g1,allD_bs]
    refine sC (fol_c G (kb key i) (conK i) (kb_len h i)) ?_
    simp only[len_map,hl,map_C,hf,take_map,drop_map,app_map,h5,wal,stV,seval,iteOmega,toNatUp,reduceCtorEq]
    refine sC (dbl_c G (conK i)) ?_
    simp only[hx,wal,stV,seval,iteOmega,toNatUp,reduceCtorEq]
    refine lop_next (i+1) (by omega) (by omega) (ent_l (fun i=>i) ?_ ?_ rfl (by simp[V.ids,W.ids,C.ids,Ob.ids,ids_bC])) <;> simp only[wx,wex,wez,stV,seval,iteOmega,toNatUp,reduceCtorEq,ren_bC,ids_bC]
   ·obtain rfl:i=10:=by omega
    have e:=rkP_full key
    have e2:=rkK_len h
    rw[e] at hl
    have t1:(rkK key).take 176=rkK key:=List.take_of_length_le (by omega)
    have t2:List.drop 176 (repL 176 (0:UInt8))=[]:=List.drop_eq_nil_of_le (by rw[repL_len]; omega)
    have t3:rkK key++List.drop (rkK key).length (repL 176 (0:UInt8))=rkK key:=by rw[e2,t2,List.append_nil]
    simp only[lp_expd_0,expdSt,e,wal,stV,seval,iteOmega,toNatUp,reduceCtorEq,len_map,hl,e2,t1,t2,t3,allD_bs,map_C,repL_len,take_map,drop_map,app_map,List.append_nil]
    exact ret_d1 (by simp only[wal,stV,seval,iteOmega,toNatUp,reduceCtorEq,len_map,hl,e2,t1,t2,t3,allD_bs,map_C,repL_len,take_map,drop_map,app_map,List.append_nil])
theorem allDn_bs (l:List UInt8):allDn ((l.map bD).map C.d)=some (l.map bD):=by
  induction l with
  | nil=>rfl
  | cons x l ih =>
    show allDn (C.d (bD x)::(l.map bD).map C.d)=_
    simp only[allDn,ih,List.map_cons,Option.map_some]
theorem addL_enc (rk b:List UInt8) (hb:b.length=16):addL b (toL (keyF rk 0))=toL (encF (keyF rk) (ofB16 b) 0):=by
  have:=addL_toL (ofB16 b) (keyF rk 0)
  rw[toL_of hb] at this
  exact this
theorem rnd_enc (rk b:List UInt8) {n:Nat} (h:n+1<10):addL (mixL (subL (toL (encF (keyF rk) (ofB16 b) n)))) (toL (keyF rk (n+1)))=toL (encF (keyF rk) (ofB16 b) (n+1)):=by
  rw[subL_toL,mixL_toL,addL_toL]
  show _=toL (roundF _ _ _)
  unfold roundF
  rw[if_pos h]
theorem last_enc (rk b:List UInt8):addL (subL (toL (encF (keyF rk) (ofB16 b) 9))) (toL (keyF rk 10))=encK rk b:=by
  rw[subL_toL,addL_toL]
  rfl
def encSt (rk b:List UInt8) (i:Nat):St:=⟨ofL [(2,.w (.c (.rp (rk.map bD)))),(4,.w (.c (.pa 2 1))),(5,.w (.c (.pa 1 1))),(6,.w (.c (.d (.int .i64 ((i+1:Nat):Int)))))],hL [(1,.row 1 ((toL (encF (keyF rk) (ofB16 b) i)).map bD)),(2,.row 1 ((repL 16 (0:UInt8)).map bD))],uL [1,2]⟩
def lp_encd_0:SCode :=
 .seq (.seq (.reg [oM 14 6,
 oO 15 (.bin .lss (.t 14) (kI 10))])
 (.cond (.t 15) (.skip)
 (.exit 0)))
 (.seq (.block 1 (.reg [oO 18 (.load (.ag 16) (.t 5)),
 oO 19 (.call 109 [(.t 18)] none),
 oO 20 (.call 108 [(.t 19)] none),
 oM 21 6,
 oO 22 (.idxPa 16 11 (.t 2) (.t 21)),
 oO 23 (.load (.ag 16) (.t 22)),
 oO 24 (.call 107 [(.t 20),(.t 23)] none),
 oN (.store (.ag 16) (.t 5) (.t 24))]))
 (.reg [oM 16 6,
 oO 17 (.bin .add (.t 16) (kI 1)),
 oM 6 17]))
def sf_encd:SFn:=⟨2,30,
 .seq (.reg [oO 2 (.box .roBox (.t 0)),
 oO 4 (.allocArr [(.int .u8 0),(.int .u8 0),(.int .u8 0),(.int .u8 0),(.int .u8 0),(.int .u8 0),(.int .u8 0),(.int .u8 0),(.int .u8 0),(.int .u8 0),(.int .u8 0),(.int .u8 0),(.int .u8 0),(.int .u8 0),(.int .u8 0),(.int .u8 0)])])
 (.seq (.reg [oO 5 (.allocArr [(.int .u8 0),(.int .u8 0),(.int .u8 0),(.int .u8 0),(.int .u8 0),(.int .u8 0),(.int .u8 0),(.int .u8 0),(.int .u8 0),(.int .u8 0),(.int .u8 0),(.int .u8 0),(.int .u8 0),(.int .u8 0),(.int .u8 0),(.int .u8 0)])])
 (.seq (.reg [oO 7 (.sliceArr 1 16 (.t 5) none none),
 oM 8 1,
 oO 9 (.copy 1 (.t 7) (.t 8))])
 (.seq (.reg [oO 10 (.load (.ag 16) (.t 5)),
 oO 11 (.idxPa 16 11 (.t 2) (kI 0)),
 oO 12 (.load (.ag 16) (.t 11)),
 oO 13 (.call 107 [(.t 10),(.t 12)] none),
 oN (.store (.ag 16) (.t 5) (.t 13))])
 (.seq (.seq (.reg [oO 6 (.mv (kI 1))])
 (.block 0 (.loop lp_encd_0)))
 (.seq (.reg [oO 25 (.load (.ag 16) (.t 5)),
 oO 26 (.call 109 [(.t 25)] none),
 oO 27 (.idxPa 16 11 (.t 2) (kI 10)),
 oO 28 (.load (.ag 16) (.t 27)),
 oO 29 (.call 107 [(.t 26),(.t 28)] none),
 oN (.store (.ag 16) (.t 4) (.t 29))])
 (.ret)))))),
 [(4,(some (.ag 16)))]⟩
theorem cf_encd:compFn Tryz.prog { own:=[],comp:=[],frz:=[],nils:=[] } Tryz.f91=some sf_encd:=by kernel_rfl
theorem encd_c (G:Glob) (rk b:List UInt8) (hk:rk.length=176) (hb:b.length=16):Den Tryz.prog G 91 [.agg (rk.map bD),.sl (b.map bD)] (.w (.c (.d (.agg ((encK rk b).map bD))))):=by
  refine den_walk Tryz.func91 cf_encd rfl rfl ?_
  have ht:b.take 16=b:=List.take_of_length_le (by omega)
  have key:∀ r,r≤10→(rk.drop (16*r)).take 16=toL (keyF rk r):=fun r hr=>by
    apply List.ext_getElem?
    intro j
    by_cases hj:j<16
    ·rw[toL_get _ hj,List.getElem?_take,if_pos hj,List.getElem?_drop]; exact get_lt (by omega)
    ·rw[List.getElem?_eq_none (by rw[List.length_take]; omega),List.getElem?_eq_none (by rw[toL_len]; omega)]
  have d1:b++List.drop b.length (repL 16 (0:UInt8))=b:=by rw[hb,List.drop_eq_nil_of_le (by rw[repL_len]; omega),List.append_nil]
  have d2:List.drop 16 (repL 16 (0:UInt8))=[]:=List.drop_eq_nil_of_le (by rw[repL_len]; omega)
  have k0:=key 0 (by decide)
  have l0:(toL (keyF rk 0)).length=16:=toL_len _
  have t0:(toL (keyF rk 0)).take 16=toL (keyF rk 0):=List.take_of_length_le (by rw[toL_len]; omega)
  have a0:=addL_enc rk b hb
  have la:=toL_len (encF (keyF rk) (ofB16 b) 0)
  simp only[Nat.mul_zero,List.drop_zero] at k0
  simp only[sf_encd,putAll,wal,stV,seval,iteOmega,toNatUp,reduceCtorEq,z16,allDn_bs,repL_len,take_map,ht,drop_map,app_map,d1,d2,k0,flat_bs,hb,l0,t0,List.append_nil,List.length_nil]
  refine sC (com_c G b (toL (keyF rk 0)) hb l0) ?_
  simp only[a0,la,repL_len,wal,stV,seval,iteOmega,toNatUp,reduceCtorEq]
  refine loop_st (encSt rk b) (fun i=>9-i) (fun i=>i≤9) 0 (Nat.zero_le _) ?_ ?_
  ·refine ent_l (fun i=>if i=1 then 40 else 32) ?_ ?_ rfl rfl <;> simp only[wx,wex,wez,stV,seval,iteOmega,toNatUp,reduceCtorEq]
  ·intro i hi
   have le:=toL_len (encF (keyF rk) (ofB16 b) i)
   have hr:i+1≤10:=by omega
   have k1:=key (i+1) hr
   rw[Nat.mul_comm] at k1
   have l1:(toL (keyF rk (i+1))).length=16:=toL_len _
   have t1:(toL (keyF rk (i+1))).take 16=toL (keyF rk (i+1)):=List.take_of_length_le (by rw[toL_len]; omega)
   by_cases hlt:i<9
   ·have h5:=rnd_enc rk b (n:=i) (by omega)
    have le2:=toL_len (encF (keyF rk) (ofB16 b) (i+1))
    simp only[lp_encd_0,encSt,wal,stV,seval,iteOmega,toNatUp,reduceCtorEq,le,flat_bs]
    refine sD (repl_c G (toL (encF (keyF rk) (ofB16 b) i)) le) ?_
    refine sC (mixd_c G _ (subL_len _)) ?_
    simp only[take_map,drop_map,k1,l1,t1,wal,stV,seval,iteOmega,toNatUp,reduceCtorEq]
    refine sC (com_c G _ _ (mixL_len _) l1) ?_
    simp only[h5,le2,le,wal,stV,seval,iteOmega,toNatUp,reduceCtorEq]
    refine lop_next (i+1) (by omega) (by omega) (ent_l (fun i=>i) ?_ ?_ rfl rfl) <;> simp only[wx,wex,wez,stV,seval,iteOmega,toNatUp,reduceCtorEq]
   ·obtain rfl:i=9:=by omega
    have h5:=last_enc rk b
    have le2:=encK_len rk b
    simp only[lp_encd_0,encSt,wal,stV,seval,iteOmega,toNatUp,reduceCtorEq,le,flat_bs]
    refine sC (repl_c G (toL (encF (keyF rk) (ofB16 b) 9)) le) ?_
    simp only[take_map,drop_map,k1,l1,t1,wal,stV,seval,iteOmega,toNatUp,reduceCtorEq]
    refine sC (com_c G _ _ (subL_len _) l1) ?_
    simp only[h5,le2,repL_len,wal,stV,seval,iteOmega,toNatUp,reduceCtorEq]
    exact ret_d1 (by simp only[wal,stV,seval,iteOmega,toNatUp,reduceCtorEq,le2,flat_bs])
def mB (a b c:List UInt8):List UInt8:=a++b++c
theorem mB_getA {a b c:List UInt8} (ha:a.length=176) (_:b.length=256) {j:Nat} (h:j<176):(mB a b c)[j]?=a[j]?:=by
  unfold mB; rw[List.append_assoc,List.getElem?_append_left (by omega)]
theorem mB_getB {a b c:List UInt8} (ha:a.length=176) (hb:b.length=256) {j:Nat} (h:j<256):(mB a b c)[176+j]?=b[j]?:=by
  unfold mB; rw[List.append_assoc,List.getElem?_append_right (by omega),ha,Nat.add_sub_cancel_left,List.getElem?_append_left (by omega)]
theorem mB_getC {a b c:List UInt8} (ha:a.length=176) (hb:b.length=256) (j:Nat):(mB a b c)[432+j]?=c[j]?:=by
  unfold mB; rw[List.getElem?_append_right (by rw[List.length_append]; omega),List.length_append,ha,hb,Nat.add_sub_cancel_left]
theorem mB_setA {a b c:List UInt8} (ha:a.length=176) (_:b.length=256) {j:Nat} (h:j<176) (x:UInt8):(mB a b c).set j x=mB (a.set j x) b c:=by
  unfold mB; rw[List.append_assoc,List.append_assoc,List.set_append_left _ _ (by omega)]
theorem mB_setC {a b c:List UInt8} (ha:a.length=176) (hb:b.length=256) (j:Nat) (x:UInt8):(mB a b c).set (432+j) x=mB a b (c.set j x):=by
  unfold mB; rw[List.set_append_right _ _ (by rw[List.length_append]; omega),List.length_append,ha,hb,Nat.add_sub_cancel_left]
theorem mB_len {a b c:List UInt8} (ha:a.length=176) (hb:b.length=256) (hc:c.length=256):(mB a b c).length=688:=by unfold mB; rw[List.length_append,List.length_append,ha,hb,hc]
def twF (i:Nat):UInt8:=twB (UInt8.ofNat i)
def twL:List UInt8:=(List.range 256).map twF
theorem twL_len:twL.length=256:=by unfold twL; rw[List.length_map,List.length_range]
theorem twL_get (x:UInt8):twL[x.toNat]?=some (twB x):=by
  have h:=byte_lt x
  unfold twL
  rw[List.getElem?_map,List.getElem?_range h]
  show some (twB (UInt8.ofNat x.toNat))=_
  rw[UInt8.ofNat_toNat]
def macM4 (key:List UInt8):List UInt8:=mB (rkK key) boxL twL
theorem bD_natC {i:Nat} (h:i<256):bD (UInt8.ofNat i)=.int .u8 (i:Int):=by
  unfold bD; rw[UInt8.toNat_ofNat_of_lt' (by simpa [UInt8.size] using h)]
def prepA (i:Nat):List UInt8:=mB (repL 176 0) boxL (upL twF (repL 256 0) i)
theorem prepA_len {i:Nat} (h:i≤256):(prepA i).length=688:=mB_len (repL_len _ _) boxL_len (by rw[upL_len _ _ (by rw[repL_len]; omega),repL_len])
def rkQ (key:List UInt8) (n k:Nat):List UInt8:=rkN key n++(nextK (rkN key n) n).take k++repL (160-4*n-k) 0
def prepB (key:List UInt8) (n k:Nat):List UInt8:=mB (rkQ key n k) boxL twL
theorem rkQ_len {key:List UInt8} (h:key.length=16) {n k:Nat} (hk:k≤4) (hn:4*n+k≤160):(rkQ key n k).length=176:=by
  unfold rkQ; rw[List.length_append,List.length_append,rkN_len h,List.length_take,nextK_len,repL_len]; omega
theorem rkQ_old {key:List UInt8} (h:key.length=16) {n k j:Nat} (hj:j<16+4*n):(rkQ key n k)[j]?=some ((rkN key n).getD j 0):=by
  unfold rkQ
  rw[List.append_assoc,List.getElem?_append_left (by rw[rkN_len h]; exact hj)]
  exact get_lt (by rw[rkN_len h]; exact hj)
theorem nextK_get (l:List UInt8) (n:Nat) {k:Nat} (hk:k<4):(nextK l n)[k]?=some (xorB (l.getD (4*n+k) 0) ((turnW (l.drop (12+4*n)) n).getD k 0)):=by
  unfold nextK; rw[List.getElem?_map,List.getElem?_range hk]; rfl
theorem rkQ_step {key:List UInt8} (h:key.length=16) {n k:Nat} (hk:k<4) (hn:4*n+k<160) :
    (rkQ key n k).set (16+4*n+k) (xorB ((rkN key n).getD (4*n+k) 0) ((turnW ((rkN key n).drop (12+4*n)) n).getD k 0))=rkQ key n (k+1):=by
  have hl:(rkN key n++(nextK (rkN key n) n).take k).length=16+4*n+k:=by rw[List.length_append,rkN_len h,List.length_take,nextK_len]; omega
  unfold rkQ
  rw[List.set_append_right _ _ (by omega),hl,Nat.sub_self]
  obtain⟨m,hm⟩:∃ m,160-4*n-k=m+1:=⟨160-4*n-k-1,by omega⟩
  rw[show 160-4*n-(k+1)=m by omega,hm]
  unfold repL
  rw[List.replicate_succ,List.set_cons_zero,List.take_add_one,nextK_get _ _ hk]
  simp
theorem rkQ_next (key:List UInt8) (n:Nat):rkQ key n 4=rkQ key (n+1) 0:=by
  unfold rkQ
  rw[List.take_zero,List.append_nil,rkN,List.take_of_length_le (by rw[nextK_len]; omega),show 160-4*n-4=160-4*(n+1)-0 by omega]
theorem rkQ_full (key:List UInt8):rkQ key 40 0=rkK key:=by
  unfold rkQ repL rkK; rw[show 160-4*40-0=0 from rfl,List.replicate_zero,List.append_nil,List.take_zero,List.append_nil]
theorem prepB_len {key:List UInt8} (h:key.length=16) {n k:Nat} (hk:k≤4) (hn:4*n+k≤160):(prepB key n k).length=688:=mB_len (rkQ_len h hk hn) boxL_len twL_len
theorem tsd {l:List UInt8} {j:Nat} (x:UInt8) (h:j<l.length):List.take j l++[x]++List.drop (j+1) l=l.set j x:=by
  rw[List.set_eq_take_append_cons_drop,if_pos h,List.append_assoc]; rfl
theorem bC_d (x:UInt8):bC x=C.d (bD x):=rfl
theorem cat3 (a b:List UInt8) (x:UInt8):a.map bC++[C.d (bD x)]++b.map bC=(a++[x]++b).map bC:=by rw[List.map_append,List.map_append]; rfl
def pr2St (key:List UInt8) (n:Nat):St:=⟨ofL [(2,.w (.c (.ptr 2 1 0 0))),(3,.w (.c (.ptr 1 1 0 0))),(5,.w (.c (.d (bD (conK ((n+3) / 4)))))),(6,.w (.c (.d (.int .i64 ((16+4*n:Nat):Int)))))],hL [(1,.box ((prepB key n 0).map bC)),(2,.box ((repL 688 (0:UInt8)).map bC))],uL [1,2]⟩
def turL (key:List UInt8) (n:Nat):List UInt8:=turnW ((rkN key n).drop (12+4*n)) n
theorem turL_len (key:List UInt8) (n:Nat):(turL key n).length=4:=by unfold turL turnW; split <;> rfl
def pr1St (key:List UInt8) (n k:Nat):St:=⟨ofL [(2,.w (.c (.ptr 2 1 0 0))),(3,.w (.c (.ptr 1 1 0 0))),(5,.w (.c (.d (bD (conK ((n+4) / 4)))))),(6,.w (.c (.d (.int .i64 ((16+4*n:Nat):Int))))),(7,.w (.c (.pa 3 1))),(8,.w (.c (.d (.int .i64 (k:Int)))))],hL [(1,.box ((prepB key n k).map bC)),(2,.box ((repL 688 (0:UInt8)).map bC)),(3,.row 1 ((turL key n).map bD))],uL [1,2,3]⟩
def pr0St (key:List UInt8) (i:Nat):St:=⟨ofL [(0,.w (.c (.d (.sl (key.map bD))))),(2,.w (.c (.ptr 2 1 0 0))),(3,.w (.c (.ptr 1 1 0 0))),(4,.w (.c (.d (.int .i64 (i:Int)))))],hL [(1,.box ((prepA i).map bC)),(2,.box ((repL 688 (0:UInt8)).map bC))],uL [1,2]⟩
def lp_prep_0:SCode :=
 .seq (.seq (.reg [oM 11 4,
 oO 12 (.bin .lss (.t 11) (kI 256))])
 (.cond (.t 12) (.skip)
 (.exit 0)))
 (.seq (.block 1 (.reg [oM 15 4,
 oM 16 4,
 oO 17 (.conv .u8 (.t 16)),
 oO 18 (.call 98 [(.t 17),(.k (.c (.d (.int .u8 2))))] none),
 oO 19 (.fieldAddr 432 (.t 3)),
 oO 20 (.idxPa 1 256 (.t 19) (.t 15)),
 oN (.store .sc (.t 20) (.t 18))]))
 (.reg [oM 13 4,
 oO 14 (.bin .add (.t 13) (kI 1)),
 oM 4 14]))
def lp_prep_1:SCode :=
 .seq (.seq (.reg [oM 78 8,
 oO 79 (.bin .lss (.t 78) (kI 4))])
 (.cond (.t 79) (.skip)
 (.exit 4)))
 (.seq (.block 5 (.reg [oM 82 6,
 oM 83 8,
 oO 84 (.bin .add (.t 82) (.t 83)),
 oM 85 6,
 oO 86 (.bin .sub (.t 85) (kI 16)),
 oM 87 8,
 oO 88 (.bin .add (.t 86) (.t 87)),
 oO 89 (.fieldAddr 0 (.t 3)),
 oO 90 (.idxPa 1 176 (.t 89) (.t 88)),
 oO 91 (.load .sc (.t 90)),
 oM 92 8,
 oO 93 (.idxPa 1 4 (.t 7) (.t 92)),
 oO 94 (.load .sc (.t 93)),
 oO 95 (.bin .xor (.t 91) (.t 94)),
 oO 96 (.fieldAddr 0 (.t 3)),
 oO 97 (.idxPa 1 176 (.t 96) (.t 84)),
 oN (.store .sc (.t 97) (.t 95))]))
 (.reg [oM 80 8,
 oO 81 (.bin .add (.t 80) (kI 1)),
 oM 8 81]))
def lp_prep_2:SCode :=
 .seq (.seq (.reg [oM 25 6,
 oO 26 (.bin .lss (.t 25) (kI 176))])
 (.cond (.t 26) (.skip)
 (.exit 2)))
 (.seq (.block 3 (.seq (.reg [oM 29 6,
 oO 30 (.bin .sub (.t 29) (kI 4)),
 oO 31 (.fieldAddr 0 (.t 3)),
 oO 32 (.idxPa 1 176 (.t 31) (.t 30)),
 oO 33 (.load .sc (.t 32)),
 oM 34 6,
 oO 35 (.bin .sub (.t 34) (kI 3)),
 oO 36 (.fieldAddr 0 (.t 3)),
 oO 37 (.idxPa 1 176 (.t 36) (.t 35)),
 oO 38 (.load .sc (.t 37)),
 oM 39 6,
 oO 40 (.bin .sub (.t 39) (kI 2)),
 oO 41 (.fieldAddr 0 (.t 3)),
 oO 42 (.idxPa 1 176 (.t 41) (.t 40)),
 oO 43 (.load .sc (.t 42)),
 oM 44 6,
 oO 45 (.bin .sub (.t 44) (kI 1)),
 oO 46 (.fieldAddr 0 (.t 3)),
 oO 47 (.idxPa 1 176 (.t 46) (.t 45)),
 oO 48 (.load .sc (.t 47)),
 oO 49 (.build [(.d (.int .u8 0)),(.d (.int .u8 0)),(.d (.int .u8 0)),(.d (.int .u8 0))] [(0,1,(.t 33)),(1,1,(.t 38)),(2,1,(.t 43)),(3,1,(.t 48))]),
 oO 7 (.allocArr [(.int .u8 0),(.int .u8 0),(.int .u8 0),(.int .u8 0)]),
 oN (.store (.ag 4) (.t 7) (.t 49))])
 (.seq (.seq (.reg [oM 50 6,
 oO 51 (.bin .rem (.t 50) (kI 16)),
 oO 52 (.bin .eql (.t 51) (kI 0))])
 (.cond (.t 52) (.seq (.reg [oO 53 (.idxPa 1 4 (.t 7) (kI 1)),
 oO 54 (.load .sc (.t 53)),
 oO 55 (.fieldAddr 176 (.t 3)),
 oO 56 (.idxPa 1 256 (.t 55) (.t 54)),
 oO 57 (.load .sc (.t 56)),
 oM 58 5,
 oO 59 (.bin .xor (.t 57) (.t 58)),
 oO 60 (.idxPa 1 4 (.t 7) (kI 2)),
 oO 61 (.load .sc (.t 60)),
 oO 62 (.fieldAddr 176 (.t 3)),
 oO 63 (.idxPa 1 256 (.t 62) (.t 61)),
 oO 64 (.load .sc (.t 63)),
 oO 65 (.idxPa 1 4 (.t 7) (kI 3)),
 oO 66 (.load .sc (.t 65)),
 oO 67 (.fieldAddr 176 (.t 3)),
 oO 68 (.idxPa 1 256 (.t 67) (.t 66)),
 oO 69 (.load .sc (.t 68)),
 oO 70 (.idxPa 1 4 (.t 7) (kI 0)),
 oO 71 (.load .sc (.t 70)),
 oO 72 (.fieldAddr 176 (.t 3)),
 oO 73 (.idxPa 1 256 (.t 72) (.t 71)),
 oO 74 (.load .sc (.t 73)),
 oO 75 (.build [(.d (.int .u8 0)),(.d (.int .u8 0)),(.d (.int .u8 0)),(.d (.int .u8 0))] [(0,1,(.t 59)),(1,1,(.t 64)),(2,1,(.t 69)),(3,1,(.t 74))]),
 oN (.store (.ag 4) (.t 7) (.t 75))])
 (.reg [oM 76 5,
 oO 77 (.call 98 [(.t 76),(.k (.c (.d (.int .u8 2))))] none),
 oM 5 77]))
 (.skip)))
 (.seq (.reg [oO 8 (.mv (kI 0))])
 (.block 4 (.loop lp_prep_1))))))
 (.reg [oM 27 6,
 oO 28 (.bin .add (.t 27) (kI 4)),
 oM 6 28]))
def sf_prep:SFn:=⟨1,99,
 .seq (.reg [oO 2 (.alloc (repL 688 (.d (.int .u8 0))))])
 (.seq (.reg [oO 9 (.call 97 [] none),
 oO 10 (.build (repL 688 (.d (.int .u8 0))) [(176,256,(.t 9))]),
 oO 3 (.alloc (repL 688 (.d (.int .u8 0)))),
 oN (.store (.ag 688) (.t 3) (.t 10))])
 (.seq (.seq (.reg [oO 4 (.mv (kI 0))])
 (.block 0 (.loop lp_prep_0)))
 (.seq (.reg [oO 21 (.fieldAddr 0 (.t 3)),
 oO 22 (.sliceArr 1 176 (.t 21) none none),
 oM 23 0,
 oO 24 (.copy 1 (.t 22) (.t 23))])
 (.seq (.reg [oO 5 (.mv (.k (.c (.d (.int .u8 1)))))])
 (.seq (.seq (.reg [oO 6 (.mv (kI 16))])
 (.block 2 (.loop lp_prep_2)))
 (.seq (.reg [oO 98 (.load (.ag 688) (.t 3)),
 oN (.store (.ag 688) (.t 2) (.t 98))])
 (.ret))))))),
 [(2,(some (.ag 688)))]⟩
theorem cf_prep:compFn Tryz.prog { own:=[],comp:=[],frz:=[],nils:=[] } Tryz.f80=some sf_prep:=by kernel_rfl
set_option maxRecDepth 20000 in
set_option maxHeartbeats 6400000 in
theorem prep_c (G:Glob) (key:List UInt8) (h:key.length=16):Den Tryz.prog G 80 [.sl (key.map bD)] (.w (.c (.d (.agg ((macM4 key).map bD))))):=by
  refine den_walk Tryz.func80 cf_prep rfl rfl ?_
  simp only[sf_prep,putAll,wal,stV,seval,iteOmega,toNatUp,reduceCtorEq]
  have q0:List.take 176 (repL 688 (0:UInt8))++boxL++List.drop 432 (repL 688 (0:UInt8))=prepA 0:=by
    unfold prepA mB; rw[upL_zero]; unfold repL; rw[List.take_replicate,List.drop_replicate]; rfl
  have r1:(List.take 176 (repL 688 (0:UInt8))).length=176:=by rw[List.length_take,repL_len]; rfl
  have r2:(List.drop 432 (repL 688 (0:UInt8))).length=256:=by rw[List.length_drop,repL_len]
  have r4:List.drop 688 (repL 688 (0:UInt8))=[]:=List.drop_eq_nil_of_le (by rw[repL_len]; omega)
  have q0l:=prepA_len (Nat.zero_le 256)
  refine sC (rbox_c G) ?_
  simp only[repL_bC,len_map,repL_len,boxL_len,take_map,drop_map,map_C,app_map,allD_bs,r1,r2,r4,q0,q0l,List.append_nil,wal,stV,seval,iteOmega,toNatUp,reduceCtorEq]
  refine loop_st (pr0St key) (fun i=>256-i) (fun i=>i≤256) 0 (Nat.zero_le _) ?_ ?_
  ·refine ent_l (fun i=>if i=1 then 24 else 16) ?_ ?_ rfl (by simp[V.ids,W.ids,C.ids,Ob.ids,ids_bC]) <;> simp only[wx,wex,wez,stV,seval,iteOmega,toNatUp,reduceCtorEq,ren_bC,ids_bC]
  ·intro i hi
   have hl:=prepA_len hi
   by_cases hlt:i<256
   ·have h1:UInt8.ofNat i*1=UInt8.ofNat i:=by simp
    have hc:=rtim_c G (UInt8.ofNat i) 2
    rw[bD_natC hlt] at hc
    have hs:List.take (432+i) (prepA i)++[timesK (UInt8.ofNat i) 2]++List.drop (432+i+1) (prepA i)=prepA (i+1):=by
      rw[tsd _ (by omega)]
      unfold prepA
      rw[mB_setC (repL_len _ _) boxL_len]
      congr 1
      exact upL_step twF _ (by rw[repL_len]; exact hlt)
    simp only[lp_prep_0,pr0St,wal,stV,seval,iteOmega,toNatUp,reduceCtorEq]
    refine sC (hc) ?_
    simp only[len_map,hl,take_map,drop_map,cat3,hs,wal,stV,seval,iteOmega,toNatUp,reduceCtorEq]
    refine lop_next (i+1) (by omega) (by omega) (ent_l (fun i=>i) ?_ ?_ rfl (by simp[V.ids,W.ids,C.ids,Ob.ids,ids_bC])) <;> simp only[wx,wex,wez,stV,seval,iteOmega,toNatUp,reduceCtorEq,ren_bC,ids_bC]
   ·obtain rfl:i=256:=by omega
    have ht:key.take 176=key:=List.take_of_length_le (by omega)
    have e0:key++List.drop 16 (prepA 256)=prepB key 0 0:=by
      unfold prepA prepB mB rkQ
      rw[upL_full _ _ (by rw[repL_len]; omega),List.append_assoc,List.drop_append_of_le_length (by rw[repL_len]; decide)]
      unfold repL
      rw[List.drop_replicate,List.take_zero,List.append_nil]
      show key++(_++_)=key++_++_++_
      simp only[List.append_assoc]
      rfl
    simp only[lp_prep_0,pr0St,wal,stV,seval,iteOmega,toNatUp,reduceCtorEq,len_map,hl,h,ht,flat_bs,map_C,take_map,drop_map,app_map,e0]
    have hp0:=prepB_len h (n:=0) (k:=0) (by decide) (by decide)
    refine loop_st (pr2St key) (fun n=>40-n) (fun n=>n≤40) 0 (Nat.zero_le _) ?_ ?_
    ·refine ent_l (fun i=>i) ?_ ?_ rfl (by simp[V.ids,W.ids,C.ids,Ob.ids,ids_bC]) <;> simp only[wx,wex,wez,stV,seval,iteOmega,toNatUp,reduceCtorEq,ren_bC,ids_bC,con0,bD1]
    ·intro n hn
     have hl2:=prepB_len h (n:=n) (k:=0) (by decide) (by omega)
     by_cases hlt2:n<40
     ·have old:∀ j,j<16+4*n→(prepB key n 0)[j]?=some ((rkN key n).getD j 0):=fun j hj=>by
        unfold prepB
        rw[mB_getA (rkQ_len h (by decide) (by omega)) boxL_len (by omega),rkQ_old h hj]
      have o0:=old (12+4*n) (by omega)
      have o1:=old (13+4*n) (by omega)
      have o2:=old (14+4*n) (by omega)
      have o3:=old (15+4*n) (by omega)
      have e0:16+4*n-4=12+4*n:=by omega
      have e1:16+4*n-3=13+4*n:=by omega
      have e2:16+4*n-2=14+4*n:=by omega
      have e3:16+4*n-1=15+4*n:=by omega
      have htl0:=turL_len key n
      have tm:Int.tmod (16+4*(n:Int)) 16=(((16+4*n)%16:Nat):Int):=tmodN (16+4*n) 16
      by_cases hm:n%4=0
      ·have m16:(16+4*n)%16=0:=by omega
       rw[m16] at tm
       have ecn:(n+3) / 4=n / 4:=by omega
       have box:∀ x:UInt8,(prepB key n 0)[176+x.toNat]?=some (subK x):=fun x=>by
         unfold prepB
         rw[mB_getB (rkQ_len h (by decide) (by omega)) boxL_len (byte_lt x)]; exact boxL_get x
       have hT:[bD (xorB (subK ((rkN key n).getD (13+4*n) 0)) (conK (n / 4))),bD (subK ((rkN key n).getD (14+4*n) 0)),bD (subK ((rkN key n).getD (15+4*n) 0)),bD (subK ((rkN key n).getD (12+4*n) 0))]=(turL key n).map bD:=by
         unfold turL turnW
         rw[if_pos hm]
         have g:∀ j,((rkN key n).drop (12+4*n)).getD j 0=(rkN key n).getD (12+4*n+j) 0:=fun j=>by simp[List.getD_eq_getElem?_getD]
         simp only[g,List.map_cons,List.map_nil]
         rw[show 12+4*n+1=13+4*n by omega,show 12+4*n+2=14+4*n by omega,show 12+4*n+3=15+4*n by omega]
         rfl
       have l0:=byte_lt ((rkN key n).getD (12+4*n) 0)
       have l1:=byte_lt ((rkN key n).getD (13+4*n) 0)
       have l2:=byte_lt ((rkN key n).getD (14+4*n) 0)
       have l3:=byte_lt ((rkN key n).getD (15+4*n) 0)
       have b0:=box ((rkN key n).getD (12+4*n) 0)
       have b1:=box ((rkN key n).getD (13+4*n) 0)
       have b2:=box ((rkN key n).getD (14+4*n) 0)
       have b3:=box ((rkN key n).getD (15+4*n) 0)
       have x0:=binV_xorB (subK ((rkN key n).getD (13+4*n) 0)) (conK (n / 4))
       have cs:=conK_step (n / 4)
       have ec4:(n+4) / 4=n / 4+1:=by omega
       simp only[lp_prep_2,pr2St,ecn,wal,stV,seval,iteOmega,toNatUp,reduceCtorEq,len_map,hl2,get_map,e0,e1,e2,e3,o0,o1,o2,o3,bC_d,tm,b0,b1,b2,b3,x0,hT,htl0]
       refine sC (rtim_c G (conK (n / 4)) 2) ?_
       simp only[cs,wal,stV,seval,iteOmega,toNatUp,reduceCtorEq]
       refine loop_st (pr1St key n) (fun k=>4-k) (fun k=>k≤4) 0 (Nat.zero_le _) ?_ ?_
       ·refine ent_l (fun i=>if i=3 then 56 else i) ?_ ?_ rfl (by simp[V.ids,W.ids,C.ids,Ob.ids,ids_bC]) <;> simp only[wx,wex,wez,stV,seval,iteOmega,toNatUp,reduceCtorEq,ren_bC,ids_bC,ec4]
       ·intro k hk
        have hl3:=prepB_len h (n:=n) (k:=k) hk (by omega)
        have htl:=turL_len key n
        by_cases hlt3:k<4
        ·have p1:(prepB key n k)[4*n+k]?=some ((rkN key n).getD (4*n+k) 0):=by
           unfold prepB
           rw[mB_getA (rkQ_len h hk (by omega)) boxL_len (by omega),rkQ_old h (by omega)]
         have p2:(turL key n)[k]?=some ((turL key n).getD k 0):=get_lt (by omega)
         have x1:=binV_xorB ((rkN key n).getD (4*n+k) 0) ((turL key n).getD k 0)
         have e4:16+4*n-16+k=4*n+k:=by omega
         have hs:List.take (16+4*n+k) (prepB key n k)++[xorB ((rkN key n).getD (4*n+k) 0) ((turL key n).getD k 0)]++List.drop (16+4*n+k+1) (prepB key n k)=prepB key n (k+1):=by
           rw[tsd _ (by omega)]
           unfold prepB
           rw[mB_setA (rkQ_len h hk (by omega)) boxL_len (by omega)]
           congr 1
           exact rkQ_step h hlt3 (by omega)
         simp only[lp_prep_1,pr1St,wal,stV,seval,iteOmega,toNatUp,reduceCtorEq,len_map,hl3,htl,get_map,e4,p1,p2,bC_d,x1,take_map,drop_map,cat3,hs]
         refine lop_next (k+1) (by omega) (by omega) (ent_l (fun i=>i) ?_ ?_ rfl (by simp[V.ids,W.ids,C.ids,Ob.ids,ids_bC])) <;> simp only[wx,wex,wez,stV,seval,iteOmega,toNatUp,reduceCtorEq,ren_bC,ids_bC]
        ·obtain rfl:k=4:=by omega
         have e5:prepB key n 4=prepB key (n+1) 0:=by unfold prepB; rw[rkQ_next]
         have e6:(n+4) / 4=(n+1+3) / 4:=by omega
         simp only[lp_prep_1,pr1St,e5,e6,wal,stV,seval,iteOmega,toNatUp,reduceCtorEq]
         refine lop_next (n+1) (by omega) (by omega) (ent_l (fun i=>i) ?_ ?_ rfl (by simp[V.ids,W.ids,C.ids,Ob.ids,ids_bC])) <;> simp only[wx,wex,wez,stV,seval,iteOmega,toNatUp,reduceCtorEq,ren_bC,ids_bC]
         all_goals rw[show (16+4*(n:Int)+4)=16+4*((n:Int)+1) by omega]
      ·have m16:(16+4*n)%16≠0:=by omega
       have hb16:(16+4*n)%16<16:=Nat.mod_lt _ (by decide)
       generalize (16+4*n)%16=z at *
       have hT:[bD ((rkN key n).getD (12+4*n) 0),bD ((rkN key n).getD (13+4*n) 0),bD ((rkN key n).getD (14+4*n) 0),bD ((rkN key n).getD (15+4*n) 0)]=(turL key n).map bD:=by
         unfold turL turnW
         rw[if_neg hm]
         have g:∀ j,((rkN key n).drop (12+4*n)).getD j 0=(rkN key n).getD (12+4*n+j) 0:=fun j=>by simp[List.getD_eq_getElem?_getD]
         simp only[g,List.map_cons,List.map_nil]
         rw[show 12+4*n+1=13+4*n by omega,show 12+4*n+2=14+4*n by omega,show 12+4*n+3=15+4*n by omega]
         rfl
       have ecn:(n+3) / 4=(n+4) / 4:=by omega
       simp only[lp_prep_2,pr2St,ecn,wal,stV,seval,iteOmega,toNatUp,reduceCtorEq,len_map,hl2,get_map,e0,e1,e2,e3,o0,o1,o2,o3,bC_d,tm,hT,htl0]
       refine loop_st (pr1St key n) (fun k=>4-k) (fun k=>k≤4) 0 (Nat.zero_le _) ?_ ?_
       ·refine ent_l (fun i=>if i=3 then 56 else i) ?_ ?_ rfl (by simp[V.ids,W.ids,C.ids,Ob.ids,ids_bC]) <;> simp only[wx,wex,wez,stV,seval,iteOmega,toNatUp,reduceCtorEq,ren_bC,ids_bC]
       ·intro k hk
        have hl3:=prepB_len h (n:=n) (k:=k) hk (by omega)
        have htl:=turL_len key n
        by_cases hlt3:k<4
        ·have p1:(prepB key n k)[4*n+k]?=some ((rkN key n).getD (4*n+k) 0):=by
           unfold prepB
           rw[mB_getA (rkQ_len h hk (by omega)) boxL_len (by omega),rkQ_old h (by omega)]
         have p2:(turL key n)[k]?=some ((turL key n).getD k 0):=get_lt (by omega)
         have x1:=binV_xorB ((rkN key n).getD (4*n+k) 0) ((turL key n).getD k 0)
         have e4:16+4*n-16+k=4*n+k:=by omega
         have hs:List.take (16+4*n+k) (prepB key n k)++[xorB ((rkN key n).getD (4*n+k) 0) ((turL key n).getD k 0)]++List.drop (16+4*n+k+1) (prepB key n k)=prepB key n (k+1):=by
           rw[tsd _ (by omega)]
           unfold prepB
           rw[mB_setA (rkQ_len h hk (by omega)) boxL_len (by omega)]
           congr 1
           exact rkQ_step h hlt3 (by omega)
         simp only[lp_prep_1,pr1St,wal,stV,seval,iteOmega,toNatUp,reduceCtorEq,len_map,hl3,htl,get_map,e4,p1,p2,bC_d,x1,take_map,drop_map,cat3,hs]
         refine lop_next (k+1) (by omega) (by omega) (ent_l (fun i=>i) ?_ ?_ rfl (by simp[V.ids,W.ids,C.ids,Ob.ids,ids_bC])) <;> simp only[wx,wex,wez,stV,seval,iteOmega,toNatUp,reduceCtorEq,ren_bC,ids_bC]
        ·obtain rfl:k=4:=by omega
         have e5:prepB key n 4=prepB key (n+1) 0:=by unfold prepB; rw[rkQ_next]
         have e6:(n+4) / 4=(n+1+3) / 4:=by omega
         simp only[lp_prep_1,pr1St,e5,e6,wal,stV,seval,iteOmega,toNatUp,reduceCtorEq]
         refine lop_next (n+1) (by omega) (by omega) (ent_l (fun i=>i) ?_ ?_ rfl (by simp[V.ids,W.ids,C.ids,Ob.ids,ids_bC])) <;> simp only[wx,wex,wez,stV,seval,iteOmega,toNatUp,reduceCtorEq,ren_bC,ids_bC]
         all_goals rw[show (16+4*(n:Int)+4)=16+4*((n:Int)+1) by omega]
     ·obtain rfl:n=40:=by omega
      have e:prepB key 40 0=macM4 key:=by unfold prepB macM4; rw[rkQ_full]
      rw[e] at hl2
      have u1:List.take 688 (macM4 key)=macM4 key:=List.take_of_length_le (by omega)
      have r4:List.drop 688 (repL 688 (0:UInt8))=[]:=List.drop_eq_nil_of_le (by rw[repL_len]; omega)
      have r5:macM4 key++List.drop (macM4 key).length (repL 688 (0:UInt8))=macM4 key:=by rw[hl2,r4,List.append_nil]
      simp only[lp_prep_2,pr2St,e,wal,stV,seval,iteOmega,toNatUp,reduceCtorEq,len_map,hl2,u1,r4,r5,allD_bs,map_C,repL_len,take_map,drop_map,app_map,List.append_nil]
      exact ret_d1 (by simp only[wal,stV,seval,iteOmega,toNatUp,reduceCtorEq,len_map,hl2,u1,r4,r5,allD_bs,map_C,repL_len,take_map,drop_map,app_map,List.append_nil])
theorem macM4_len {key:List UInt8} (h:key.length=16):(macM4 key).length=688:=mB_len (rkK_len h) boxL_len twL_len
def en0St (key b:List UInt8) (i:Nat):St:=⟨ofL [(1,.w (.c (.d (.sl (b.map bD))))),(2,.w (.c (.rp ((macM4 key).map bD)))),(5,.w (.c (.pa 1 1))),(6,.w (.c (.d (.int .i64 (i:Int)))))],hL [(1,.row 1 ((upL (addF (ofB16 b) (keyF (rkK key) 0)) (repL 16 (0:UInt8)) i).map bD))],uL [1]⟩
def en5St (key b:List UInt8) (n:Nat):St:=⟨ofL [(2,.w (.c (.rp ((macM4 key).map bD)))),(5,.w (.c (.pa 1 1))),(7,.w (.c (.d (.int .i64 ((n+1:Nat):Int)))))],hL [(1,.row 1 ((toL (encF (keyF (rkK key)) (ofB16 b) n)).map bD))],uL [1]⟩
def en2St (key s:List UInt8) (n c:Nat):St:=⟨ofL [(2,.w (.c (.rp ((macM4 key).map bD)))),(5,.w (.c (.pa 1 1))),(7,.w (.c (.d (.int .i64 ((n+1:Nat):Int))))),(8,.w (.c (.pa 2 1))),(9,.w (.c (.d (.int .i64 (c:Int)))))],hL [(1,.row 1 (s.map bD)),(2,.row 1 ((upL (shiftF (ofB16 s)) (repL 16 (0:UInt8)) (4*c)).map bD))],uL [1,2]⟩
def en1St (key s:List UInt8) (n c r:Nat):St:=⟨ofL [(2,.w (.c (.rp ((macM4 key).map bD)))),(5,.w (.c (.pa 1 1))),(7,.w (.c (.d (.int .i64 ((n+1:Nat):Int))))),(8,.w (.c (.pa 2 1))),(9,.w (.c (.d (.int .i64 (c:Int))))),(10,.w (.c (.d (.int .i64 (r:Int)))))],hL [(1,.row 1 (s.map bD)),(2,.row 1 ((upL (shiftF (ofB16 s)) (repL 16 (0:UInt8)) (4*c+r)).map bD))],uL [1,2]⟩
def rndF (key s:List UInt8) (n:Nat):B16:=roundF (keyF (rkK key)) (ofB16 s) (n+1)
def en4St (key s:List UInt8) (n c:Nat):St:=⟨ofL [(2,.w (.c (.rp ((macM4 key).map bD)))),(5,.w (.c (.pa 1 1))),(7,.w (.c (.d (.int .i64 ((n+1:Nat):Int))))),(8,.w (.c (.pa 2 1))),(11,.w (.c (.d (.int .i64 (c:Int)))))],hL [(1,.row 1 ((upL (rndF key s n) s (4*c)).map bD)),(2,.row 1 ((subL s).map bD))],uL [1,2]⟩
def en3St (key s:List UInt8) (n c r:Nat):St:=⟨ofL [(2,.w (.c (.rp ((macM4 key).map bD)))),(5,.w (.c (.pa 1 1))),(7,.w (.c (.d (.int .i64 ((n+1:Nat):Int))))),(8,.w (.c (.pa 2 1))),(11,.w (.c (.d (.int .i64 (c:Int))))),(12,.w (.c (.pa 3 1))),(13,.w (.c (.d (.int .i64 (r:Int)))))],hL [(1,.row 1 ((upL (rndF key s n) s (4*c+r)).map bD)),(2,.row 1 ((subL s).map bD)),(3,.row 1 ((((subL s).drop (4*c)).take 4).map bD))],uL [1,2,3]⟩
theorem rnd_toL (k:Nat→B16) (f:B16) (n:Nat):toL (roundF k (ofB16 (toL f)) (n+1))=toL (roundF k f (n+1)):=toL_congr fun j hj=>by
  unfold roundF
  split
  ·unfold addF mixF shiftF
   rw[of_toL f _ (by omega),of_toL f _ (by omega),of_toL f _ (by omega),of_toL f _ (by omega)]
  ·unfold addF shiftF
   rw[of_toL f _ (by omega)]
def lp_renc_0:SCode :=
 .seq (.seq (.reg [oM 15 6,
 oO 16 (.bin .lss (.t 15) (kI 16))])
 (.cond (.t 16) (.skip)
 (.exit 0)))
 (.seq (.block 1 (.reg [oM 19 6,
 oM 20 1,
 oM 21 6,
 oO 22 (.idxSl 1 (.t 20) (.t 21)),
 oO 23 (.load .sc (.t 22)),
 oM 24 6,
 oO 25 (.fieldAddr 0 (.t 2)),
 oO 26 (.idxPa 1 176 (.t 25) (.t 24)),
 oO 27 (.load .sc (.t 26)),
 oO 28 (.bin .xor (.t 23) (.t 27)),
 oO 29 (.idxPa 1 16 (.t 5) (.t 19)),
 oN (.store .sc (.t 29) (.t 28))]))
 (.reg [oM 17 6,
 oO 18 (.bin .add (.t 17) (kI 1)),
 oM 6 18]))
def lp_renc_1:SCode :=
 .seq (.seq (.reg [oM 38 10,
 oO 39 (.bin .lss (.t 38) (kI 4))])
 (.cond (.t 39) (.skip)
 (.exit 6)))
 (.seq (.block 7 (.reg [oM 42 10,
 oM 43 9,
 oO 44 (.bin .mul (kI 4) (.t 43)),
 oO 45 (.bin .add (.t 42) (.t 44)),
 oM 46 10,
 oM 47 9,
 oM 48 10,
 oO 49 (.bin .add (.t 47) (.t 48)),
 oO 50 (.bin .rem (.t 49) (kI 4)),
 oO 51 (.bin .mul (kI 4) (.t 50)),
 oO 52 (.bin .add (.t 46) (.t 51)),
 oO 53 (.idxPa 1 16 (.t 5) (.t 52)),
 oO 54 (.load .sc (.t 53)),
 oO 55 (.fieldAddr 176 (.t 2)),
 oO 56 (.idxPa 1 256 (.t 55) (.t 54)),
 oO 57 (.load .sc (.t 56)),
 oO 58 (.idxPa 1 16 (.t 8) (.t 45)),
 oN (.store .sc (.t 58) (.t 57))]))
 (.reg [oM 40 10,
 oO 41 (.bin .add (.t 40) (kI 1)),
 oM 10 41]))
def lp_renc_2:SCode :=
 .seq (.seq (.reg [oM 34 9,
 oO 35 (.bin .lss (.t 34) (kI 4))])
 (.cond (.t 35) (.skip)
 (.exit 4)))
 (.seq (.block 5 (.seq (.reg [oO 10 (.mv (kI 0))])
 (.block 6 (.loop lp_renc_1))))
 (.reg [oM 36 9,
 oO 37 (.bin .add (.t 36) (kI 1)),
 oM 9 37]))
def lp_renc_3:SCode :=
 .seq (.seq (.reg [oM 83 13,
 oO 84 (.bin .lss (.t 83) (kI 4))])
 (.cond (.t 84) (.skip)
 (.exit 10)))
 (.seq (.block 11 (.seq (.reg [oM 87 13,
 oO 88 (.idxPa 1 4 (.t 12) (.t 87)),
 oO 89 (.load .sc (.t 88)),
 oM 14 89])
 (.seq (.seq (.reg [oM 90 7,
 oO 91 (.bin .lss (.t 90) (kI 10))])
 (.cond (.t 91) (.reg [oM 92 13,
 oO 93 (.idxPa 1 4 (.t 12) (.t 92)),
 oO 94 (.load .sc (.t 93)),
 oO 95 (.fieldAddr 432 (.t 2)),
 oO 96 (.idxPa 1 256 (.t 95) (.t 94)),
 oO 97 (.load .sc (.t 96)),
 oM 98 13,
 oO 99 (.bin .add (.t 98) (kI 1)),
 oO 100 (.bin .rem (.t 99) (kI 4)),
 oO 101 (.idxPa 1 4 (.t 12) (.t 100)),
 oO 102 (.load .sc (.t 101)),
 oO 103 (.fieldAddr 432 (.t 2)),
 oO 104 (.idxPa 1 256 (.t 103) (.t 102)),
 oO 105 (.load .sc (.t 104)),
 oO 106 (.bin .xor (.t 97) (.t 105)),
 oM 107 13,
 oO 108 (.bin .add (.t 107) (kI 1)),
 oO 109 (.bin .rem (.t 108) (kI 4)),
 oO 110 (.idxPa 1 4 (.t 12) (.t 109)),
 oO 111 (.load .sc (.t 110)),
 oO 112 (.bin .xor (.t 106) (.t 111)),
 oM 113 13,
 oO 114 (.bin .add (.t 113) (kI 2)),
 oO 115 (.bin .rem (.t 114) (kI 4)),
 oO 116 (.idxPa 1 4 (.t 12) (.t 115)),
 oO 117 (.load .sc (.t 116)),
 oO 118 (.bin .xor (.t 112) (.t 117)),
 oM 119 13,
 oO 120 (.bin .add (.t 119) (kI 3)),
 oO 121 (.bin .rem (.t 120) (kI 4)),
 oO 122 (.idxPa 1 4 (.t 12) (.t 121)),
 oO 123 (.load .sc (.t 122)),
 oO 124 (.bin .xor (.t 118) (.t 123)),
 oM 14 124])
 (.skip)))
 (.reg [oM 125 13,
 oM 126 11,
 oO 127 (.bin .mul (kI 4) (.t 126)),
 oO 128 (.bin .add (.t 125) (.t 127)),
 oM 129 14,
 oM 130 7,
 oO 131 (.bin .mul (kI 16) (.t 130)),
 oM 132 13,
 oO 133 (.bin .add (.t 131) (.t 132)),
 oM 134 11,
 oO 135 (.bin .mul (kI 4) (.t 134)),
 oO 136 (.bin .add (.t 133) (.t 135)),
 oO 137 (.fieldAddr 0 (.t 2)),
 oO 138 (.idxPa 1 176 (.t 137) (.t 136)),
 oO 139 (.load .sc (.t 138)),
 oO 140 (.bin .xor (.t 129) (.t 139)),
 oO 141 (.idxPa 1 16 (.t 5) (.t 128)),
 oN (.store .sc (.t 141) (.t 140))]))))
 (.reg [oM 85 13,
 oO 86 (.bin .add (.t 85) (kI 1)),
 oM 13 86]))
def lp_renc_4:SCode :=
 .seq (.seq (.reg [oM 59 11,
 oO 60 (.bin .lss (.t 59) (kI 4))])
 (.cond (.t 60) (.skip)
 (.exit 8)))
 (.seq (.block 9 (.seq (.reg [oM 63 11,
 oO 64 (.bin .mul (kI 4) (.t 63)),
 oO 65 (.idxPa 1 16 (.t 8) (.t 64)),
 oO 66 (.load .sc (.t 65)),
 oM 67 11,
 oO 68 (.bin .mul (kI 4) (.t 67)),
 oO 69 (.bin .add (.t 68) (kI 1)),
 oO 70 (.idxPa 1 16 (.t 8) (.t 69)),
 oO 71 (.load .sc (.t 70)),
 oM 72 11,
 oO 73 (.bin .mul (kI 4) (.t 72)),
 oO 74 (.bin .add (.t 73) (kI 2)),
 oO 75 (.idxPa 1 16 (.t 8) (.t 74)),
 oO 76 (.load .sc (.t 75)),
 oM 77 11,
 oO 78 (.bin .mul (kI 4) (.t 77)),
 oO 79 (.bin .add (.t 78) (kI 3)),
 oO 80 (.idxPa 1 16 (.t 8) (.t 79)),
 oO 81 (.load .sc (.t 80)),
 oO 82 (.build [(.d (.int .u8 0)),(.d (.int .u8 0)),(.d (.int .u8 0)),(.d (.int .u8 0))] [(0,1,(.t 66)),(1,1,(.t 71)),(2,1,(.t 76)),(3,1,(.t 81))]),
 oO 12 (.allocArr [(.int .u8 0),(.int .u8 0),(.int .u8 0),(.int .u8 0)]),
 oN (.store (.ag 4) (.t 12) (.t 82))])
 (.seq (.reg [oO 13 (.mv (kI 0))])
 (.block 10 (.loop lp_renc_3)))))
 (.reg [oM 61 11,
 oO 62 (.bin .add (.t 61) (kI 1)),
 oM 11 62]))
def lp_renc_5:SCode :=
 .seq (.seq (.reg [oM 30 7,
 oO 31 (.bin .leq (.t 30) (kI 10))])
 (.cond (.t 31) (.skip)
 (.exit 2)))
 (.seq (.block 3 (.seq (.reg [oO 8 (.allocArr [(.int .u8 0),(.int .u8 0),(.int .u8 0),(.int .u8 0),(.int .u8 0),(.int .u8 0),(.int .u8 0),(.int .u8 0),(.int .u8 0),(.int .u8 0),(.int .u8 0),(.int .u8 0),(.int .u8 0),(.int .u8 0),(.int .u8 0),(.int .u8 0)])])
 (.seq (.seq (.reg [oO 9 (.mv (kI 0))])
 (.block 4 (.loop lp_renc_2)))
 (.seq (.reg [oO 11 (.mv (kI 0))])
 (.block 8 (.loop lp_renc_4))))))
 (.reg [oM 32 7,
 oO 33 (.bin .add (.t 32) (kI 1)),
 oM 7 33]))
def sf_renc:SFn:=⟨2,145,
 .seq (.reg [oO 2 (.box .roBox (.t 0)),
 oO 4 (.mv (.k (.c .nil)))])
 (.seq (.reg [oO 5 (.allocArr [(.int .u8 0),(.int .u8 0),(.int .u8 0),(.int .u8 0),(.int .u8 0),(.int .u8 0),(.int .u8 0),(.int .u8 0),(.int .u8 0),(.int .u8 0),(.int .u8 0),(.int .u8 0),(.int .u8 0),(.int .u8 0),(.int .u8 0),(.int .u8 0)])])
 (.seq (.seq (.reg [oO 6 (.mv (kI 0))])
 (.block 0 (.loop lp_renc_0)))
 (.seq (.seq (.reg [oO 7 (.mv (kI 1))])
 (.block 2 (.loop lp_renc_5)))
 (.seq (.reg [oO 142 (.bldSl false 0 1 (.int .u8 0) []),
 oO 143 (.sliceArr 1 16 (.t 5) none none),
 oO 144 (.appN false 1 1 (.t 142) (.t 143)),
 oM 4 144])
 (.ret))))),
 [(4,none)]⟩
theorem cf_renc:compFn Tryz.prog { own:=[],comp:=[],frz:=[],nils:=[144] } Tryz.f81=some sf_renc:=by kernel_rfl
set_option maxRecDepth 20000 in
set_option maxHeartbeats 6400000 in
theorem renc_c (G:Glob) (key b:List UInt8) (h:key.length=16) (hb:b.length=16):Den Tryz.prog G 81 [.agg ((macM4 key).map bD),.sl (b.map bD)] (.w (.c (.fr 1 ((blockC key b).map bD)))):=by
  refine den_walk Tryz.func81 cf_renc rfl rfl ?_
  have hM:=macM4_len h
  have hrk:=rkK_len h
  have kat:∀ j,j<176→(((macM4 key).drop j).take 1)[0]?=some ((rkK key).getD j 0):=fun j hj=>by
    rw[List.getElem?_take,if_pos (by decide),List.getElem?_drop]
    unfold macM4
    rw[mB_getA hrk boxL_len (by omega),get_lt (by omega)]; rfl
  have bat:∀ x:UInt8,((((macM4 key).drop 176).drop x.toNat).take 1)[0]?=some (subK x):=fun x=>by
    rw[List.getElem?_take,if_pos (by decide),List.getElem?_drop,List.getElem?_drop]
    unfold macM4
    rw[Nat.add_zero,mB_getB hrk boxL_len (byte_lt x)]; exact boxL_get x
  have tat:∀ x:UInt8,((((macM4 key).drop 432).drop x.toNat).take 1)[0]?=some (twB x):=fun x=>by
    rw[List.getElem?_take,if_pos (by decide),List.getElem?_drop,List.getElem?_drop]
    unfold macM4
    rw[Nat.add_zero,mB_getC hrk boxL_len]; exact twL_get x
  simp only[sf_renc,putAll,wal,stV,seval,iteOmega,toNatUp,reduceCtorEq,z16,allDn_bs]
  refine loop_st (en0St key b) (fun i=>16-i) (fun i=>i≤16) 0 (Nat.zero_le _) ?_ ?_
  ·refine ent_l (fun i=>40) ?_ ?_ rfl rfl <;> simp only[wx,wex,wez,stV,seval,iteOmega,toNatUp,reduceCtorEq,upL_zero]
  ·intro i hi
   have hl:(upL (addF (ofB16 b) (keyF (rkK key) 0)) (repL 16 (0:UInt8)) i).length=16:=by rw[upL_len _ _ (by rw[repL_len]; omega),repL_len]
   by_cases hlt:i<16
   ·have g1:b[i]?=some (b.getD i 0):=get_lt (by omega)
    have g2:=kat i (by omega)
    have x1:=binV_xorB (b.getD i 0) ((rkK key).getD i 0)
    have h3:i<(upL (addF (ofB16 b) (keyF (rkK key) 0)) (repL 16 (0:UInt8)) i).length:=by omega
    have h5:(upL (addF (ofB16 b) (keyF (rkK key) 0)) (repL 16 (0:UInt8)) i).set i (xorB (b.getD i 0) ((rkK key).getD i 0))=upL (addF (ofB16 b) (keyF (rkK key) 0)) (repL 16 (0:UInt8)) (i+1):=by
      rw[← upL_step (addF (ofB16 b) (keyF (rkK key) 0)) (repL 16 (0:UInt8)) (by rw[repL_len]; omega)]
      unfold addF keyF ofB16
      rw[Nat.mul_zero,Nat.zero_add]
    simp only[lp_renc_0,en0St,wal,stV,seval,iteOmega,toNatUp,reduceCtorEq,len_map,hM,get_map,take_map,drop_map,g1,g2,x1,stO_bs h3 (one_b _),set_bs,h5,hl]
    refine lop_next (i+1) (by omega) (by omega) (ent_l (fun i=>i) ?_ ?_ rfl rfl) <;> simp only[wx,wex,wez,stV,seval,iteOmega,toNatUp,reduceCtorEq]
   ·obtain rfl:i=16:=by omega
    have e:upL (addF (ofB16 b) (keyF (rkK key) 0)) (repL 16 (0:UInt8)) 16=toL (encF (keyF (rkK key)) (ofB16 b) 0):=toL_upL _ (repL_len _ _)
    simp only[lp_renc_0,en0St,e,wal,stV,seval,iteOmega,toNatUp,reduceCtorEq]
    refine loop_st (en5St key b) (fun n=>10-n) (fun n=>n≤10) 0 (Nat.zero_le _) ?_ ?_
    ·refine ent_l (fun i=>i) ?_ ?_ rfl rfl <;> simp only[wx,wex,wez,stV,seval,iteOmega,toNatUp,reduceCtorEq]
    ·intro n hn
     by_cases hlt2:n<10
     ·simp only[lp_renc_5,en5St,wal,stV,seval,iteOmega,toNatUp,reduceCtorEq,z16]
      have hs:(toL (encF (keyF (rkK key)) (ofB16 b) n)).length=16:=toL_len _
      have hnext:toL (rndF key (toL (encF (keyF (rkK key)) (ofB16 b) n)) n)=toL (encF (keyF (rkK key)) (ofB16 b) (n+1)):=rnd_toL _ _ _
      generalize toL (encF (keyF (rkK key)) (ofB16 b) n)=s at *
      refine loop_st (en2St key s n) (fun c=>4-c) (fun c=>c≤4) 0 (Nat.zero_le _) ?_ ?_
      ·refine ent_l (fun i=>if i=1 then 1 else 64) ?_ ?_ rfl rfl <;> simp only[wx,wex,wez,stV,seval,iteOmega,toNatUp,reduceCtorEq,upL_zero]
      ·intro c hc
       by_cases hlt3:c<4
       ·simp only[lp_renc_2,en2St,wal,stV,seval,iteOmega,toNatUp,reduceCtorEq]
        refine loop_st (en1St key s n c) (fun r=>4-r) (fun r=>r≤4) 0 (Nat.zero_le _) ?_ ?_
        ·refine ent_l (fun i=>i) ?_ ?_ rfl rfl <;> simp only[wx,wex,wez,stV,seval,iteOmega,toNatUp,reduceCtorEq,Nat.add_zero]
        ·intro r hr
         by_cases hlt4:r<4
         ·have hl:(upL (shiftF (ofB16 s)) (repL 16 (0:UInt8)) (4*c+r)).length=16:=by rw[upL_len _ _ (by rw[repL_len]; omega),repL_len]
          have t1:Int.tmod ((c:Int)+(r:Int)) 4=(((c+r)%4:Nat):Int):=tmodN (c+r) 4
          have hm:(c+r)%4<4:=Nat.mod_lt _ (by decide)
          have g1:s[r+4*((c+r)%4)]?=some (ofB16 s (r+4*((c+r)%4))):=get_lt (by omega)
          have eidx:r+4*c=4*c+r:=by omega
          have h3:4*c+r<(upL (shiftF (ofB16 s)) (repL 16 (0:UInt8)) (4*c+r)).length:=by omega
          have hsh:shiftF (ofB16 s) (4*c+r)=subK (ofB16 s (r+4*((c+r)%4))):=by
            unfold shiftF
            rw[show (4*c+r)%4=r by omega,show (4*c+r) / 4=c by omega]
          have h5:=upL_step (shiftF (ofB16 s)) (repL 16 (0:UInt8)) (i:=4*c+r) (by rw[repL_len]; omega)
          rw[hsh] at h5
          have b1:=bat (ofB16 s (r+4*((c+r)%4)))
          have hx:=byte_lt (ofB16 s (r+4*((c+r)%4)))
          generalize (c+r)%4=q at *
          generalize ofB16 s (r+4*q)=x at *
          simp only[lp_renc_1,en1St,wal,stV,seval,iteOmega,toNatUp,reduceCtorEq,t1,hs,get_map,g1,take_map,drop_map,b1,eidx,stO_bs h3 (one_b _),set_bs,h5,hl]
          refine lop_next (r+1) (by omega) (by omega) (ent_l (fun i=>i) ?_ ?_ rfl rfl) <;> simp only[wx,wex,wez,stV,seval,iteOmega,toNatUp,reduceCtorEq,Nat.add_assoc]
         ·obtain rfl:r=4:=by omega
          have e4:4*c+4=4*(c+1):=by omega
          simp only[lp_renc_1,en1St,e4,wal,stV,seval,iteOmega,toNatUp,reduceCtorEq]
          refine lop_next (c+1) (by omega) (by omega) (ent_l (fun i=>i) ?_ ?_ rfl rfl) <;> simp only[wx,wex,wez,stV,seval,iteOmega,toNatUp,reduceCtorEq]
       ·obtain rfl:c=4:=by omega
        have e:upL (shiftF (ofB16 s)) (repL 16 (0:UInt8)) (4*4)=subL s:=toL_upL _ (repL_len _ _)
        simp only[lp_renc_2,en2St,e,wal,stV,seval,iteOmega,toNatUp,reduceCtorEq]
        refine loop_st (en4St key s n) (fun c=>4-c) (fun c=>c≤4) 0 (Nat.zero_le _) ?_ ?_
        ·refine ent_l (fun i=>i) ?_ ?_ rfl rfl <;> simp only[wx,wex,wez,stV,seval,iteOmega,toNatUp,reduceCtorEq,upL_zero,Nat.mul_zero]
        ·intro c hc
         have hsl:=subL_len s
         have sat:∀ j,j<16→(subL s)[j]?=some (shiftF (ofB16 s) j):=fun j hj=>toL_get _ hj
         by_cases hlt3:c<4
         ·have a0:=sat (4*c) (by omega)
          have a1:=sat (4*c+1) (by omega)
          have a2:=sat (4*c+2) (by omega)
          have a3:=sat (4*c+3) (by omega)
          have hcol:∀ j,j<4→(((subL s).drop (4*c)).take 4)[j]?=some (shiftF (ofB16 s) (4*c+j)):=fun j hj=>by
            rw[List.getElem?_take,if_pos hj,List.getElem?_drop]; exact sat _ (by omega)
          have hcl:(((subL s).drop (4*c)).take 4).length=4:=by rw[List.length_take,List.length_drop]; omega
          have hA:[bD (shiftF (ofB16 s) (4*c)),bD (shiftF (ofB16 s) (4*c+1)),bD (shiftF (ofB16 s) (4*c+2)),bD (shiftF (ofB16 s) (4*c+3))]=(((subL s).drop (4*c)).take 4).map bD:=by
            have:((subL s).drop (4*c)).take 4=[shiftF (ofB16 s) (4*c),shiftF (ofB16 s) (4*c+1),shiftF (ofB16 s) (4*c+2),shiftF (ofB16 s) (4*c+3)]:=by
              apply List.ext_getElem?
              intro j
              rcases Nat.lt_or_ge j 4 with hj | hj
              ·rw[hcol j hj]
               rcases j with _ | _ | _ | _ | j <;> first | rfl | omega
              ·rw[List.getElem?_eq_none (by omega),List.getElem?_eq_none (by simpa using hj)]
            rw[this]; rfl
          simp only[lp_renc_4,en4St,wal,stV,seval,iteOmega,toNatUp,reduceCtorEq,get_map,hsl,a0,a1,a2,a3,bC_d,hA,hcl]
          refine loop_st (en3St key s n c) (fun r=>4-r) (fun r=>r≤4) 0 (Nat.zero_le _) ?_ ?_
          ·refine ent_l (fun i=>if i=3 then 96 else i) ?_ ?_ rfl rfl <;> simp only[wx,wex,wez,stV,seval,iteOmega,toNatUp,reduceCtorEq,Nat.add_zero]
          ·intro r hr
           by_cases hlt4:r<4
           ·have hl:(upL (rndF key s n) s (4*c+r)).length=16:=by rw[upL_len _ _ (by omega)]; exact hs
            have t1:Int.tmod ((r:Int)+1) 4=(((r+1)%4:Nat):Int):=tmodN (r+1) 4
            have t2:Int.tmod ((r:Int)+2) 4=(((r+2)%4:Nat):Int):=tmodN (r+2) 4
            have t3:Int.tmod ((r:Int)+3) 4=(((r+3)%4:Nat):Int):=tmodN (r+3) 4
            have b1:(r+1)%4<4:=Nat.mod_lt _ (by decide)
            have b2:(r+2)%4<4:=Nat.mod_lt _ (by decide)
            have b3:(r+3)%4<4:=Nat.mod_lt _ (by decide)
            have c0:=hcol r hlt4
            have c1:=hcol _ b1
            have c2:=hcol _ b2
            have c3:=hcol _ b3
            have hk:=kat (16*(n+1)+r+4*c) (by omega)
            have eidx:r+4*c=4*c+r:=by omega
            have h3:4*c+r<(upL (rndF key s n) s (4*c+r)).length:=by omega
            have h5:=upL_step (rndF key s n) s (i:=4*c+r) (by omega)
            by_cases hn9:n+1<10
            ·have hr2:rndF key s n (4*c+r)=xorB (mix4 (shiftF (ofB16 s) (4*c+r)) (shiftF (ofB16 s) (4*c+(r+1)%4)) (shiftF (ofB16 s) (4*c+(r+2)%4)) (shiftF (ofB16 s) (4*c+(r+3)%4))) ((rkK key).getD (16*(n+1)+r+4*c) 0):=by
               unfold rndF roundF
               rw[if_pos hn9]
               unfold addF mixF keyF
               rw[show (4*c+r) / 4=c by omega,show (4*c+r)%4=r by omega,show 16*(n+1)+(4*c+r)=16*(n+1)+r+4*c by omega]
             rw[hr2] at h5
             unfold mix4 at h5
             have w0:=tat (shiftF (ofB16 s) (4*c+r))
             have w1:=tat (shiftF (ofB16 s) (4*c+(r+1)%4))
             have l0:=byte_lt (shiftF (ofB16 s) (4*c+r))
             have l1:=byte_lt (shiftF (ofB16 s) (4*c+(r+1)%4))
             generalize (r+1)%4=r1 at *
             generalize (r+2)%4=r2 at *
             generalize (r+3)%4=r3 at *
             generalize shiftF (ofB16 s) (4*c+r)=y0 at *
             generalize shiftF (ofB16 s) (4*c+r1)=y1 at *
             generalize shiftF (ofB16 s) (4*c+r2)=y2 at *
             generalize shiftF (ofB16 s) (4*c+r3)=y3 at *
             generalize (rkK key).getD (16*(n+1)+r+4*c) 0=kk at *
             have x1:=binV_xorB (twB y0) (twB y1)
             have x2:=binV_xorB (xorB (twB y0) (twB y1)) y1
             have x3:=binV_xorB (xorB (xorB (twB y0) (twB y1)) y1) y2
             have x4:=binV_xorB (xorB (xorB (xorB (twB y0) (twB y1)) y1) y2) y3
             have x5:=binV_xorB (xorB (xorB (xorB (xorB (twB y0) (twB y1)) y1) y2) y3) kk
             simp only[lp_renc_3,en3St,wal,stV,seval,iteOmega,toNatUp,reduceCtorEq,t1,t2,t3,get_map,hcl,c0,c1,c2,c3,take_map,drop_map,w0,w1,x1,x2,x3,x4,hk,x5,eidx,stO_bs h3 (one_b _),set_bs,h5,hl]
             refine lop_next (r+1) (by omega) (by omega) (ent_l (fun i=>i) ?_ ?_ rfl rfl) <;> simp only[wx,wex,wez,stV,seval,iteOmega,toNatUp,reduceCtorEq,Nat.add_assoc]
            ·have hr2:rndF key s n (4*c+r)=xorB (shiftF (ofB16 s) (4*c+r)) ((rkK key).getD (16*(n+1)+r+4*c) 0):=by
               unfold rndF roundF
               rw[if_neg hn9]
               unfold addF keyF
               rw[show 16*(n+1)+(4*c+r)=16*(n+1)+r+4*c by omega]
             rw[hr2] at h5
             generalize shiftF (ofB16 s) (4*c+r)=y0 at *
             generalize (rkK key).getD (16*(n+1)+r+4*c) 0=kk at *
             have x5:=binV_xorB y0 kk
             simp only[lp_renc_3,en3St,wal,stV,seval,iteOmega,toNatUp,reduceCtorEq,get_map,hcl,c0,take_map,drop_map,hk,x5,eidx,stO_bs h3 (one_b _),set_bs,h5,hl]
             refine lop_next (r+1) (by omega) (by omega) (ent_l (fun i=>i) ?_ ?_ rfl rfl) <;> simp only[wx,wex,wez,stV,seval,iteOmega,toNatUp,reduceCtorEq,Nat.add_assoc]
           ·obtain rfl:r=4:=by omega
            have e4:4*c+4=4*(c+1):=by omega
            simp only[lp_renc_3,en3St,e4,wal,stV,seval,iteOmega,toNatUp,reduceCtorEq]
            refine lop_next (c+1) (by omega) (by omega) (ent_l (fun i=>i) ?_ ?_ rfl rfl) <;> simp only[wx,wex,wez,stV,seval,iteOmega,toNatUp,reduceCtorEq]
         ·obtain rfl:c=4:=by omega
          have e:upL (rndF key s n) s (4*4)=toL (rndF key s n):=toL_upL _ hs
          simp only[lp_renc_4,en4St,e,hnext,wal,stV,seval,iteOmega,toNatUp,reduceCtorEq]
          refine lop_next (n+1) (by omega) (by omega) (ent_l (fun i=>i) ?_ ?_ rfl rfl) <;> simp only[wx,wex,wez,stV,seval,iteOmega,toNatUp,reduceCtorEq]
     ·obtain rfl:n=10:=by omega
      have e:toL (encF (keyF (rkK key)) (ofB16 b) 10)=blockC key b:=rfl
      have hl:(blockC key b).length=16:=encK_len _ _
      have ht:(blockC key b).take 16=blockC key b:=List.take_of_length_le (by omega)
      simp only[lp_renc_5,en5St,e,wal,stV,seval,iteOmega,toNatUp,reduceCtorEq,hl,len_map,take_map,ht]
      exact ret_f1 (by simp only[St.put,toFr,wal,stV,seval,iteOmega,toNatUp,reduceCtorEq,hl,ht,len_map])
theorem incL_app:∀ a b:List UInt8,incL (a++b)=if (incL b).2 then ((incL a).1++(incL b).1,(incL a).2) else (a++(incL b).1,false)
  | [],b=>by
    show incL b=if (incL b).2 then ([]++(incL b).1,true) else ([]++(incL b).1,false)
    rcases incL b with ⟨s,_ | _⟩ <;> rfl
  | x::a,b=>by
    have ih:=incL_app a b
    simp only[List.cons_append,incL,ih]
    cases h:(incL b).2
    ·simp
    ·simp only[if_true]
     cases h2:(incL a).2 <;> simp
def carry (c:List UInt8) (m:Nat):Prop:=(incL (c.drop m)).2=true
def cntL (c:List UInt8) (m:Nat):List UInt8:=c.take m++(incL (c.drop m)).1
theorem cntL_len (c:List UInt8) (m:Nat):(cntL c m).length=c.length:=by
  unfold cntL; rw[List.length_append,incL_len,← List.length_append,List.take_append_drop]
theorem cntL_start (c:List UInt8):cntL c c.length=c:=by unfold cntL; simp[incL]
theorem carry_start (c:List UInt8):carry c c.length:=by unfold carry; simp[incL]
theorem cntL_zero (c:List UInt8):cntL c 0=nextC c:=by unfold cntL nextC; simp
theorem cnt_get {c:List UInt8} {m:Nat} (h:m<c.length):(cntL c (m+1))[m]?=some (c.getD m 0):=by
  unfold cntL
  rw[List.getElem?_append_left (by rw[List.length_take]; omega),List.getElem?_take,if_pos (by omega)]
  exact get_lt h
theorem drop_cons {c:List UInt8} {m:Nat} (h:m<c.length):c.drop m=c.getD m 0::c.drop (m+1):=by
  rw[List.drop_eq_getElem_cons h,List.getD_eq_getElem?_getD,List.getElem?_eq_getElem h]; rfl
theorem cnt_set {c:List UInt8} {m:Nat} (h:m<c.length) (hc:carry c (m+1)):(cntL c (m+1)).set m (c.getD m 0+1)=cntL c m:=by
  have e:(incL (c.drop m)).1=(c.getD m 0+1)::(incL (c.drop (m+1))).1:=by
    rw[drop_cons h]
    unfold carry at hc
    simp only[incL,hc,if_true]
  have e2:c.take (m+1)=c.take m++[c.getD m 0]:=by
    rw[List.take_add_one,get_lt h]; rfl
  unfold cntL
  rw[e,e2,List.append_assoc,List.set_append_right _ _ (by rw[List.length_take]; omega),List.length_take,show m-min m c.length=0 by omega]
  rfl
theorem carry_step {c:List UInt8} {m:Nat} (h:m<c.length) (hc:carry c (m+1)):(incL (c.drop m)).2=(c.getD m 0+1==0):=by
  rw[drop_cons h]
  unfold carry at hc
  simp only[incL,hc,if_true]
theorem cnt_end {c:List UInt8} {m:Nat} (h:(incL (c.drop m)).2=false):cntL c m=nextC c:=by
  have:=incL_app (c.take m) (c.drop m)
  rw[List.take_append_drop,h] at this
  unfold nextC cntL
  rw[this]; rfl
theorem bl_add (x c:UInt8) (n:Int) (h:n=(c.toNat:Int)):binV .add (.w (.c (.d (bD x)))) (.w (.c (.d (.int .u8 n))))=some (bD (x+c)):=by
  subst h
  show binI .add .u8 (x.toNat:Int) .u8 (c.toNat:Int)=_
  rw[binI_add,IntKind.wrap_u8]
  show some (D.int .u8 (((x.toNat:Int)+(c.toNat:Int))%256))=_
  have:((x.toNat:Int)+(c.toNat:Int))%256=((x+c).toNat:Int):=by
    rw[UInt8.toNat_add]; simp
  rw[this]; rfl
def nexV (c:List UInt8):List UInt8:=if c.length=16 then nextC c else []
def nxSt (c:List UInt8) (m:Nat):St:=⟨ofL [(3,.w (.c (.own 1 1 0 16))),(4,.w (.c (.d (.int .i64 ((m:Int)-1)))))],hL [(1,.row 1 ((cntL c m).map bD))],uL [1]⟩
def lp_nex_0:SCode :=
 .seq (.seq (.reg [oM 14 4,
 oO 15 (.bin .geq (.t 14) (kI 0))])
 (.cond (.t 15) (.skip)
 (.exit 0)))
 (.seq (.block 1 (.seq (.reg [oM 18 3,
 oM 19 4,
 oO 20 (.idxSl 1 (.t 18) (.t 19)),
 oO 21 (.load .sc (.t 20)),
 oO 22 (.bin .add (.t 21) (.k (.c (.d (.int .u8 1))))),
 oO 23 (.idxSl 1 (.t 18) (.t 19)),
 oN (.store .sc (.t 23) (.t 22))])
 (.seq (.reg [oM 24 3,
 oM 25 4,
 oO 26 (.idxSl 1 (.t 24) (.t 25)),
 oO 27 (.load .sc (.t 26)),
 oO 28 (.bin .neq (.t 27) (.k (.c (.d (.int .u8 0)))))])
 (.cond (.t 28) (.exit 0)
 (.skip)))))
 (.reg [oM 16 4,
 oO 17 (.bin .sub (.t 16) (kI 1)),
 oM 4 17]))
def sf_nex:SFn:=⟨1,30,
 .seq (.reg [oO 2 (.mv (.k (.c .nil)))])
 (.seq (.seq (.reg [oM 5 0,
 oO 6 (.len (.t 5)),
 oO 7 (.bin .neq (.t 6) (kI 16))])
 (.cond (.t 7) (.seq (.reg [oO 2 (.mv (.k (.c .nil)))])
 (.ret))
 (.skip)))
 (.seq (.reg [oM 8 0,
 oO 9 (.bldSl false 1 1 (.sl []) [(0,(.t 8))]),
 oO 10 (.call 31 [(.t 9)] (some (0,1))),
 oM 3 10])
 (.seq (.seq (.reg [oM 11 3,
 oO 12 (.len (.t 11)),
 oO 13 (.bin .sub (.t 12) (kI 1)),
 oM 4 13])
 (.block 0 (.loop lp_nex_0)))
 (.seq (.reg [oM 29 3,
 oM 2 29])
 (.ret))))),
 [(2,none)]⟩
theorem cf_nex:compFn Tryz.prog { own:=[10],comp:=[],frz:=[],nils:=[] } Tryz.f92=some sf_nex:=by kernel_rfl
theorem nex_c (G:Glob) (c:List UInt8) (hc:c.length≤140737488355328):Den Tryz.prog G 92 [.sl (c.map bD)] (.w (.c (.fr 1 ((nexV c).map bD)))):=by
  refine den_walk Tryz.func92 cf_nex rfl rfl ?_
  unfold nexV
  by_cases h:c.length=16
  ·rw[if_pos h]
   have hj:=join_c G [c] (by simp) (by simp; omega)
   have hf:[c].flatten=c:=by simp
   rw[hf] at hj
   have hs:=cntL_start c
   rw[h] at hs
   simp only[sf_nex,putAll,wal,stV,seval,iteOmega,toNatUp,reduceCtorEq,h]
   refine sD (hj) ?_
   refine loop_st (nxSt c) (fun m=>m) (fun m=>m≤16∧carry c m) 16 ⟨Nat.le_refl _,by have:=carry_start c; rwa [h] at this⟩ ?_ ?_
   ·refine ent_l (fun i=>80) ?_ ?_ rfl rfl <;> simp only[wx,wex,wez,stV,seval,iteOmega,toNatUp,reduceCtorEq,hs,h] <;> rfl
   ·rintro m ⟨hm,hcar⟩
    rcases m with _ | q
    ·have e0:=cntL_zero c
     have hl:(nextC c).length=16:=by rw[nextC_len]; exact h
     simp only[lp_nex_0,nxSt,e0,Int.natCast_zero,Int.zero_sub,wal,stV,seval,iteOmega,toNatUp,reduceCtorEq]
     exact ret_own (id:=1) (n:=16) (s:=1) (by simp only[wx,stV,seval,iteOmega,toNatUp,reduceCtorEq]) (by simp only[wx,stV,seval,iteOmega,toNatUp,reduceCtorEq]) (by simp[hl])
    ·have hq:q<c.length:=by omega
     have hl1:(cntL c (q+1)).length=16:=by rw[cntL_len]; exact h
     have hl0:(cntL c q).length=16:=by rw[cntL_len]; exact h
     have g1:=cnt_get hq
     have h3:q<(cntL c (q+1)).length:=by omega
     have h5:=cnt_set hq hcar
     have g2:(cntL c q)[q]?=some (c.getD q 0+1):=by
       rw[← h5,List.getElem?_set_self (by omega)]
     have x1:=bl_add (c.getD q 0) 1 1 rfl
     have x2:=bl_neq (c.getD q 0+1) 0 0 rfl
     have hcs:=carry_step hq hcar
     have sub:((q:Int)+1-1)=(q:Int):=by omega
     by_cases hz:c.getD q 0+1=0
     ·have hz2:(c.getD q 0+1 != 0)=false:=by rw[hz]; rfl
      rw[hz2] at x2
      have hcar2:carry c q:=by unfold carry; rw[hcs,hz]; rfl
      simp only[lp_nex_0,nxSt,wal,stV,seval,iteOmega,toNatUp,reduceCtorEq,sub,get_map,g1,x1,stO_bs h3 (one_b _),set_bs,h5,g2,x2,hl1,hl0]
      refine lop_next q (by omega) ⟨by omega,hcar2⟩ (ent_l (fun i=>i) ?_ ?_ rfl rfl) <;> simp only[wx,wex,wez,stV,seval,iteOmega,toNatUp,reduceCtorEq]
     ·have hz2:(c.getD q 0+1 != 0)=true:=bne_iff_ne.2 hz
      rw[hz2] at x2
      have e0:cntL c q=nextC c:=cnt_end (by rw[hcs]; exact beq_eq_false_iff_ne.2 hz)
      rw[e0] at hl0 g2 h5
      simp only[lp_nex_0,nxSt,wal,stV,seval,iteOmega,toNatUp,reduceCtorEq,sub,get_map,g1,x1,stO_bs h3 (one_b _),set_bs,h5,g2,x2,hl1,e0]
      exact ret_own (id:=1) (n:=16) (s:=1) (by simp only[wx,stV,seval,iteOmega,toNatUp,reduceCtorEq]) (by simp only[wx,stV,seval,iteOmega,toNatUp,reduceCtorEq]) (by simp[hl0])
  ·rw[if_neg h]
   simp only[sf_nex,putAll,wal,stV,seval,iteOmega,toNatUp,reduceCtorEq]
   exact qf1
def lp_rnex_0:SCode :=
 .seq (.seq (.reg [oM 11 4,
 oO 12 (.bin .geq (.t 11) (kI 0))])
 (.cond (.t 12) (.skip)
 (.exit 0)))
 (.seq (.block 1 (.seq (.reg [oM 15 3,
 oM 16 4,
 oO 17 (.idxSl 1 (.t 15) (.t 16)),
 oO 18 (.load .sc (.t 17)),
 oO 19 (.bin .add (.t 18) (.k (.c (.d (.int .u8 1))))),
 oO 20 (.idxSl 1 (.t 15) (.t 16)),
 oN (.store .sc (.t 20) (.t 19))])
 (.seq (.reg [oM 21 3,
 oM 22 4,
 oO 23 (.idxSl 1 (.t 21) (.t 22)),
 oO 24 (.load .sc (.t 23)),
 oO 25 (.bin .neq (.t 24) (.k (.c (.d (.int .u8 0)))))])
 (.cond (.t 25) (.exit 0)
 (.skip)))))
 (.reg [oM 13 4,
 oO 14 (.bin .sub (.t 13) (kI 1)),
 oM 4 14]))
def sf_rnex:SFn:=⟨1,27,
 .seq (.reg [oO 2 (.mv (.k (.c .nil)))])
 (.seq (.seq (.reg [oM 5 0,
 oO 6 (.len (.t 5)),
 oO 7 (.bin .neq (.t 6) (kI 16))])
 (.cond (.t 7) (.seq (.reg [oO 2 (.mv (.k (.c .nil)))])
 (.ret))
 (.skip)))
 (.seq (.reg [oM 8 0,
 oO 9 (.bldSl false 1 1 (.sl []) [(0,(.t 8))]),
 oO 10 (.call 36 [(.t 9)] (some (0,1))),
 oM 3 10])
 (.seq (.seq (.reg [oO 4 (.mv (kI 15))])
 (.block 0 (.loop lp_rnex_0)))
 (.seq (.reg [oM 26 3,
 oM 2 26])
 (.ret))))),
 [(2,none)]⟩
theorem cf_rnex:compFn Tryz.prog { own:=[10],comp:=[],frz:=[],nils:=[] } Tryz.f82=some sf_rnex:=by kernel_rfl
theorem rnex_c (G:Glob) (c:List UInt8) (hc:c.length≤140737488355328):Den Tryz.prog G 82 [.sl (c.map bD)] (.w (.c (.fr 1 ((nexV c).map bD)))):=by
  refine den_walk Tryz.func82 cf_rnex rfl rfl ?_
  unfold nexV
  by_cases h:c.length=16
  ·rw[if_pos h]
   have hj:=rjoin_c G [c] (by simp) (by simp; omega)
   have hf:[c].flatten=c:=by simp
   rw[hf] at hj
   have hs:=cntL_start c
   rw[h] at hs
   simp only[sf_rnex,putAll,wal,stV,seval,iteOmega,toNatUp,reduceCtorEq,h]
   refine sD (hj) ?_
   refine loop_st (nxSt c) (fun m=>m) (fun m=>m≤16∧carry c m) 16 ⟨Nat.le_refl _,by have:=carry_start c; rwa [h] at this⟩ ?_ ?_
   ·refine ent_l (fun i=>80) ?_ ?_ rfl rfl <;> simp only[wx,wex,wez,stV,seval,iteOmega,toNatUp,reduceCtorEq,hs,h] <;> rfl
   ·rintro m ⟨hm,hcar⟩
    rcases m with _ | q
    ·have e0:=cntL_zero c
     have hl:(nextC c).length=16:=by rw[nextC_len]; exact h
     simp only[lp_rnex_0,nxSt,e0,Int.natCast_zero,Int.zero_sub,wal,stV,seval,iteOmega,toNatUp,reduceCtorEq]
     exact ret_own (id:=1) (n:=16) (s:=1) (by simp only[wx,stV,seval,iteOmega,toNatUp,reduceCtorEq]) (by simp only[wx,stV,seval,iteOmega,toNatUp,reduceCtorEq]) (by simp[hl])
    ·have hq:q<c.length:=by omega
     have hl1:(cntL c (q+1)).length=16:=by rw[cntL_len]; exact h
     have hl0:(cntL c q).length=16:=by rw[cntL_len]; exact h
     have g1:=cnt_get hq
     have h3:q<(cntL c (q+1)).length:=by omega
     have h5:=cnt_set hq hcar
     have g2:(cntL c q)[q]?=some (c.getD q 0+1):=by
       rw[← h5,List.getElem?_set_self (by omega)]
     have x1:=bl_add (c.getD q 0) 1 1 rfl
     have x2:=bl_neq (c.getD q 0+1) 0 0 rfl
     have hcs:=carry_step hq hcar
     have sub:((q:Int)+1-1)=(q:Int):=by omega
     by_cases hz:c.getD q 0+1=0
     ·have hz2:(c.getD q 0+1 != 0)=false:=by rw[hz]; rfl
      rw[hz2] at x2
      have hcar2:carry c q:=by unfold carry; rw[hcs,hz]; rfl
      simp only[lp_rnex_0,nxSt,wal,stV,seval,iteOmega,toNatUp,reduceCtorEq,sub,get_map,g1,x1,stO_bs h3 (one_b _),set_bs,h5,g2,x2,hl1,hl0]
      refine lop_next q (by omega) ⟨by omega,hcar2⟩ (ent_l (fun i=>i) ?_ ?_ rfl rfl) <;> simp only[wx,wex,wez,stV,seval,iteOmega,toNatUp,reduceCtorEq]
     ·have hz2:(c.getD q 0+1 != 0)=true:=bne_iff_ne.2 hz
      rw[hz2] at x2
      have e0:cntL c q=nextC c:=cnt_end (by rw[hcs]; exact beq_eq_false_iff_ne.2 hz)
      rw[e0] at hl0 g2 h5
      simp only[lp_rnex_0,nxSt,wal,stV,seval,iteOmega,toNatUp,reduceCtorEq,sub,get_map,g1,x1,stO_bs h3 (one_b _),set_bs,h5,g2,x2,hl1,e0]
      exact ret_own (id:=1) (n:=16) (s:=1) (by simp only[wx,stV,seval,iteOmega,toNatUp,reduceCtorEq]) (by simp only[wx,stV,seval,iteOmega,toNatUp,reduceCtorEq]) (by simp[hl0])
  ·rw[if_neg h]
   simp only[sf_rnex,putAll,wal,stV,seval,iteOmega,toNatUp,reduceCtorEq]
   exact qf1
def blkE (key b:List UInt8):Int:=if key.length≠16 then 5 else if b.length≠16 then 3 else 0
def blkV (key b:List UInt8):List UInt8:=if key.length=16∧b.length=16 then blockC key b else []
def sf_blk:SFn:=⟨2,18,
 .seq (.reg [oO 4 (.mv (.k (.c .nil))),
 oO 5 (.mv (kI 0))])
 (.seq (.seq (.reg [oM 7 0,
 oO 8 (.len (.t 7)),
 oO 9 (.bin .neq (.t 8) (kI 16))])
 (.cond (.t 9) (.seq (.reg [oO 4 (.mv (.k (.c .nil))),
 oO 5 (.mv (kI 5))])
 (.ret))
 (.skip)))
 (.seq (.seq (.reg [oM 10 1,
 oO 11 (.len (.t 10)),
 oO 12 (.bin .neq (.t 11) (kI 16))])
 (.cond (.t 12) (.seq (.reg [oO 4 (.mv (.k (.c .nil))),
 oO 5 (.mv (kI 3))])
 (.ret))
 (.skip)))
 (.seq (.reg [oM 13 0,
 oO 14 (.call 89 [(.t 13)] none),
 oM 15 1,
 oO 16 (.call 91 [(.t 14),(.t 15)] none),
 oO 6 (.allocArr [(.int .u8 0),(.int .u8 0),(.int .u8 0),(.int .u8 0),(.int .u8 0),(.int .u8 0),(.int .u8 0),(.int .u8 0),(.int .u8 0),(.int .u8 0),(.int .u8 0),(.int .u8 0),(.int .u8 0),(.int .u8 0),(.int .u8 0),(.int .u8 0)]),
 oN (.store (.ag 16) (.t 6) (.t 16))])
 (.seq (.reg [oO 17 (.sliceArr 1 16 (.t 6) none none),
 oM 4 17,
 oO 5 (.mv (kI 0))])
 (.ret))))),
 [(4,none),(5,none)]⟩
theorem cf_blk:compFn Tryz.prog { own:=[],comp:=[],frz:=[],nils:=[] } Tryz.f111=some sf_blk:=by kernel_rfl
theorem blk_f (G:Glob) (key b:List UInt8) (hk:key.length≤9223372036854775807) (hb:b.length≤9223372036854775807):Den Tryz.prog G 111 [.sl (key.map bD),.sl (b.map bD)] (.tup [.c (.fr 1 ((blkV key b).map bD)),.c (.d (.int .i64 (blkE key b)))]):=by
  refine den_walk Tryz.func111 cf_blk rfl rfl ?_
  unfold blkV blkE
  by_cases h:key.length=16
  ·by_cases h2:b.length=16
   ·have hr:=rkK_len h
    have hl:(blockC key b).length=16:=encK_len _ _
    have ht:(blockC key b).take 16=blockC key b:=List.take_of_length_le (by omega)
    rw[if_pos ⟨h,h2⟩,if_neg (by simp[h]),if_neg (by simp[h2])]
    simp only[sf_blk,putAll,wal,stV,seval,iteOmega,toNatUp,reduceCtorEq,h,h2,z16]
    refine sD (expd_c G key h) ?_
    refine sC (encd_c G (rkK key) b hr h2) ?_
    simp only[encK_len,repL_len,hl,wal,stV,seval,iteOmega,toNatUp,reduceCtorEq]
    exact ret_f2 (by simp only[wal,stV,seval,iteOmega,toNatUp,reduceCtorEq,toFr,encK_len,hl,len_map]; rfl) (by simp only[wal,stV,seval,iteOmega,toNatUp,reduceCtorEq])
   ·rw[if_neg (fun k=>h2 k.2),if_neg (by simp[h]),if_pos h2]
    simp only[sf_blk,putAll,wal,stV,seval,iteOmega,toNatUp,reduceCtorEq,h]
    exact qf2
  ·rw[if_neg (fun k=>h k.1),if_pos h]
   simp only[sf_blk,putAll,wal,stV,seval,iteOmega,toNatUp,reduceCtorEq]
   exact qf2
def keyE (key:List UInt8):Int:=if key.length≠16 then 5 else 0
def padC0 (r n:Nat):Nat:=(n-r%n)%n
def padN (b:List UInt8) (n:Int):List UInt8:=if 1≤n∧n≤64 then b++List.replicate (padC0 b.length n.toNat) 0 else b
theorem padN_in (b:List UInt8) {n:Nat} (h:1≤n∧n≤64):padN b (n:Int)=b++List.replicate (padC0 b.length n) 0:=by
  unfold padN; rw[if_pos (by omega),Int.toNat_natCast]
theorem padN_out (b:List UInt8) {n:Int} (h:¬ (1≤n∧n≤64)):padN b n=b:=if_neg h
theorem padC0_lt (r:Nat) {n:Nat} (h:1≤n):padC0 r n<n:=Nat.mod_lt _ (by omega)
theorem putL_z3 (n:Nat):putL 0 n=List.replicate n 0:=by
  unfold putL
  simp only[Nat.zero_div]
  induction n with
  | zero=>rfl
  | succ n ih=>rw[List.range_succ,List.map_append,ih,List.replicate_succ']; rfl
theorem pad_more {r n i:Nat} (hn:1≤n) (h:i<padC0 r n):(r+i)%n≠0:=by
  unfold padC0 at h
  have hr:r%n<n:=Nat.mod_lt _ (by omega)
  have hm:=Nat.mod_le (n-r%n) n
  have hz:r%n≠0:=fun e=>by rw[e,Nat.sub_zero,Nat.mod_self] at h; omega
  have e:(r+i)%n=(r%n+i)%n:=by rw[Nat.add_mod,Nat.add_mod (r%n) i,Nat.mod_mod]
  rw[e,Nat.mod_eq_of_lt (by omega)]
  omega
theorem pad_done {r n:Nat} (hn:1≤n):(r+padC0 r n)%n=0:=by
  unfold padC0
  have hr:r%n<n:=Nat.mod_lt _ (by omega)
  by_cases hz:r%n=0
  ·rw[hz,Nat.sub_zero,Nat.mod_self,Nat.add_zero,hz]
  ·rw[Nat.mod_eq_of_lt (show n-r%n<n by omega),Nat.add_mod,Nat.mod_eq_of_lt (show n-r%n<n by omega),Nat.add_sub_cancel' (by omega),Nat.mod_self]
theorem tmodNN (a b:Nat):Int.tmod (a:Int) (b:Int)=((a%b:Nat):Int):=rfl
def sf_pad:SFn:=⟨2,28,
 .seq (.reg [oO 4 (.mv (.k (.c .nil)))])
 (.seq (.seq (.reg [oM 6 1,
 oO 7 (.bin .lss (.t 6) (kI 1)),
 oM 8 7,
 oG 9 (.mv (.t 1)) 8 false,
 oG 10 (.bin .gtr (.t 9) (kI 64)) 8 false,
 oO 11 (.pick (.t 8) (.k (.c (.d (.bool true)))) (.t 10))])
 (.cond (.t 11) (.seq (.reg [oM 12 0,
 oO 13 (.bldSl false 1 1 (.sl []) [(0,(.t 12))]),
 oO 14 (.call 31 [(.t 13)] (some (0,1))),
 oM 4 14])
 (.ret))
 (.skip)))
 (.seq (.reg [oM 15 1,
 oM 16 0,
 oO 17 (.len (.t 16)),
 oM 18 1,
 oO 19 (.bin .rem (.t 17) (.t 18)),
 oO 20 (.bin .sub (.t 15) (.t 19)),
 oM 21 1,
 oO 22 (.bin .rem (.t 20) (.t 21)),
 oM 5 22])
 (.seq (.reg [oM 23 0,
 oM 24 5,
 oO 25 (.call 32 [(.k (.c (.d (.int .u64 0)))),(.t 24)] none),
 oO 26 (.bldSl false 2 1 (.sl []) [(0,(.t 23)),(1,(.t 25))]),
 oO 27 (.call 31 [(.t 26)] (some (0,1))),
 oM 4 27])
 (.ret)))),
 [(4,none)]⟩
theorem cf_pad:compFn Tryz.prog { own:=[14,27],comp:=[],frz:=[],nils:=[] } Tryz.f120=some sf_pad:=by kernel_rfl
theorem pad_c (G:Glob) (b:List UInt8) (n:Int) (hb:b.length≤70368744177664):Den Tryz.prog G 120 [.sl (b.map bD),.int .i64 n] (.w (.c (.fr 1 ((padN b n).map bD)))):=by
  refine den_walk Tryz.func120 cf_pad rfl rfl ?_
  by_cases hc:1≤n∧n≤64
  ·obtain⟨m,rfl⟩:=Int.eq_ofNat_of_zero_le (show 0≤n by omega)
   rw[padN_in b (by omega)]
   have hr:b.length%m<m:=Nat.mod_lt _ (by omega)
   have hk:padC0 b.length m=(m-b.length%m)%m:=rfl
   have hlt:=padC0_lt b.length (n:=m) (by omega)
   have e1:=tmodNN b.length m
   have e2:Int.tmod ((m:Int)-((b.length%m:Nat):Int)) (m:Int)=((padC0 b.length m:Nat):Int):=by
     rw[show (m:Int)-((b.length%m:Nat):Int)=((m-b.length%m:Nat):Int) by omega,tmodNN,hk]
   have hm:((m:Int)=0)=False:=eq_false (by omega)
   have hp:=put_in G 0 (padC0 b.length m) (by omega)
   have hj:=join_c G [b,putL 0 (padC0 b.length m)] (by simp) (by simp[putL_length]; omega)
   have hf:[b,putL 0 (padC0 b.length m)].flatten=b++List.replicate (padC0 b.length m) 0:=by rw[putL_z3]; simp
   rw[hf] at hj
   generalize padC0 b.length m=k at *
   simp only[sf_pad,putAll,wal,stV,seval,iteOmega,toNatUp,reduceCtorEq,e1,e2,hm]
   refine sD (hp) ?_
   refine sD (hj) ?_
   exact qf1
  ·rw[padN_out b hc]
   have hj:=join_c G [b] (by simp) (by simp; omega)
   have hf:[b].flatten=b:=by simp
   rw[hf] at hj
   by_cases h1:n<1
   ·simp only[sf_pad,putAll,wal,stV,seval,iteOmega,toNatUp,reduceCtorEq]
    refine sD (hj) ?_
    exact qf1
   ·have h2:64<n:=by omega
    simp only[sf_pad,putAll,wal,stV,seval,iteOmega,toNatUp,reduceCtorEq]
    refine sD (hj) ?_
    exact qf1
theorem rep_sn3 (b:List UInt8) (i:Nat):b++List.replicate i 0++[0]=b++List.replicate (i+1) 0:=by rw[List.replicate_succ',List.append_assoc]
def padO (b:List UInt8) (i:Nat):List UInt8:=b++List.replicate i 0
theorem padO_len (b:List UInt8) (i:Nat):(padO b i).length=b.length+i:=by unfold padO; rw[List.length_append,List.length_replicate]
theorem padO_snoc (b:List UInt8) (i:Nat):(padO b i).map bD++[D.int .u8 0]=(padO b (i+1)).map bD:=by unfold padO; rw[← rep_sn3,List.map_append (l₂:=[0])]; rfl
def rpadSt (b:List UInt8) (n:Int) (i:Nat):St:=⟨ofL [(1,.w (.c (.d (.int .i64 n)))),(5,.w (.c (.own 1 1 0 (padO b i).length)))],hL [(1,.row 1 ((padO b i).map bD))],uL [1]⟩
def lp_rpad_0:SCode :=
 .seq (.seq (.reg [oM 9 1,
 oO 10 (.bin .geq (.t 9) (kI 1)),
 oM 11 10,
 oG 12 (.mv (.t 1)) 11 true,
 oG 13 (.bin .leq (.t 12) (kI 64)) 11 true,
 oO 14 (.pick (.t 11) (.t 13) (.k (.c (.d (.bool false))))),
 oM 15 14,
 oG 16 (.mv (.t 5)) 15 true,
 oG 17 (.len (.t 16)) 15 true,
 oG 18 (.mv (.t 1)) 15 true,
 oG 19 (.bin .rem (.t 17) (.t 18)) 15 true,
 oG 20 (.bin .neq (.t 19) (kI 0)) 15 true,
 oO 21 (.pick (.t 15) (.t 20) (.k (.c (.d (.bool false)))))])
 (.cond (.t 21) (.skip)
 (.exit 0)))
 (.block 1 (.reg [oM 22 5,
 oO 23 (.bldSl false 1 1 (.int .u8 0) [(0,(.k (.c (.d (.int .u8 0)))))]),
 oO 24 (.app false 1 1 (.t 22) (.t 23)),
 oM 5 24]))
def sf_rpad:SFn:=⟨2,26,
 .seq (.reg [oO 4 (.mv (.k (.c .nil)))])
 (.seq (.reg [oM 6 0,
 oO 7 (.bldSl false 1 1 (.sl []) [(0,(.t 6))]),
 oO 8 (.call 36 [(.t 7)] (some (0,1))),
 oM 5 8])
 (.seq (.block 0 (.loop lp_rpad_0))
 (.seq (.reg [oM 25 5,
 oM 4 25])
 (.ret)))),
 [(4,none)]⟩
theorem cf_rpad:compFn Tryz.prog { own:=[8],comp:=[],frz:=[],nils:=[] } Tryz.f96=some sf_rpad:=by kernel_rfl
theorem rpad_c (G:Glob) (b:List UInt8) (n:Int) (hb:b.length≤70368744177664):Den Tryz.prog G 96 [.sl (b.map bD),.int .i64 n] (.w (.c (.fr 1 ((padN b n).map bD)))):=by
  refine den_walk Tryz.func96 cf_rpad rfl rfl ?_
  have hj:=rjoin_c G [b] (by simp) (by simp; omega)
  have hf:[b].flatten=b:=by simp
  rw[hf] at hj
  have h0:padO b 0=b:=by simp[padO]
  by_cases hc:1≤n∧n≤64
  ·obtain⟨m,rfl⟩:=Int.eq_ofNat_of_zero_le (show 0≤n by omega)
   rw[padN_in b (by omega)]
   have hlt:=padC0_lt b.length (n:=m) (by omega)
   have hm:((m:Int)=0)=False:=eq_false (by omega)
   have more:∀ i,i<padC0 b.length m→(b.length+i)%m≠0:=fun i h=>pad_more (by omega) h
   have done:(b.length+padC0 b.length m)%m=0:=pad_done (by omega)
   simp only[sf_rpad,putAll,wal,stV,seval,iteOmega,toNatUp,reduceCtorEq]
   refine sD (hj) ?_
   refine loop_st (rpadSt b m) (fun i=>padC0 b.length m-i) (fun i=>i≤padC0 b.length m) 0 (Nat.zero_le _) ?_ ?_
   ·refine ent_l (fun _=>64) ?_ ?_ rfl rfl <;> simp only[wx,wex,wez,stV,seval,iteOmega,toNatUp,reduceCtorEq,h0]
   ·intro i hi
    have hl:=padO_len b i
    have hl1:=padO_len b (i+1)
    have e1:Int.tmod ((b.length:Int)+(i:Int)) (m:Int)=(((b.length+i)%m:Nat):Int):=rfl
    have hs:=padO_snoc b i
    by_cases hk:i<padC0 b.length m
    ·have hne:=more i hk
     generalize (b.length+i)%m=q at *
     simp only[lp_rpad_0,rpadSt,wal,stV,seval,iteOmega,toNatUp,reduceCtorEq,hl,e1,hm,srcV,hs]
     refine lop_next (i+1) (by omega) (by omega) (ent_l (fun _=>192) ?_ ?_ rfl rfl) <;> simp only[wx,wex,wez,stV,seval,iteOmega,toNatUp,reduceCtorEq,hl1]
    ·have hik:i=padC0 b.length m:=by omega
     rw[← hik] at done ⊢
     simp only[done,Int.natCast_zero,Int.cast_ofNat_Int] at e1
     have hd:b++List.replicate i 0=padO b i:=rfl
     rw[hd]
     simp only[lp_rpad_0,rpadSt,wal,stV,seval,iteOmega,toNatUp,reduceCtorEq,hl,e1,hm]
     exact ret_own (id:=1) (n:=b.length+i) (s:=1) (by simp only[wx,stV,seval,iteOmega,toNatUp,reduceCtorEq]) (by simp only[wx,stV,seval,iteOmega,toNatUp,reduceCtorEq]) (by simp[hl])
  ·rw[padN_out b hc]
   simp only[sf_rpad,putAll,wal,stV,seval,iteOmega,toNatUp,reduceCtorEq]
   refine sD (hj) ?_
   refine loop_st (rpadSt b n) (fun i=>0-i) (fun i=>i=0) 0 rfl ?_ ?_
   ·refine ent_l (fun _=>64) ?_ ?_ rfl rfl <;> simp only[wx,wex,wez,stV,seval,iteOmega,toNatUp,reduceCtorEq,h0]
   ·rintro i rfl
    by_cases h1:n<1
    ·simp only[lp_rpad_0,rpadSt,h0,wal,stV,seval,iteOmega,toNatUp,reduceCtorEq]
     exact ret_own (id:=1) (n:=b.length) (s:=1) (by simp only[wx,stV,seval,iteOmega,toNatUp,reduceCtorEq]) (by simp only[wx,stV,seval,iteOmega,toNatUp,reduceCtorEq]) (by simp)
    ·have h2:64<n:=by omega
     simp only[lp_rpad_0,rpadSt,h0,wal,stV,seval,iteOmega,toNatUp,reduceCtorEq]
     exact ret_own (id:=1) (n:=b.length) (s:=1) (by simp only[wx,stV,seval,iteOmega,toNatUp,reduceCtorEq]) (by simp only[wx,stV,seval,iteOmega,toNatUp,reduceCtorEq]) (by simp)
def dG (b:List UInt8) (j:Nat):UInt8:=if j<15 then orB (shlB (b.getD j 0) 1) (shrB (b.getD (j+1) 0) 7) else shlB (b.getD j 0) 1
def dGL (b:List UInt8):List UInt8:=(List.range 16).map (dG b)
theorem dGL_len (b:List UInt8):(dGL b).length=16:=by simp[dGL]
theorem dGL_get (b:List UInt8) {j:Nat} (h:j<16):(dGL b)[j]?=some (dG b j):=by simp[dGL,h]
def redB (b:List UInt8):UInt8:=selB (bitB (b.getD 0 0) 7) 135
theorem dblL_set {b:List UInt8} (h:b.length=16):(dGL b).set 15 (xorB (dG b 15) (redB b))=dblL b:=by
  unfold dblL
  rw[if_pos h]
  apply List.ext_getElem?
  intro j
  rw[List.getElem?_set]
  by_cases hj:j<16
  ·rw[toL_get _ hj]
   have hd:∀ k,ofB16 b k=b.getD k 0:=fun _=>rfl
   by_cases h15:15=j
   ·subst h15
    rw[if_pos rfl,if_pos (by rw[dGL_len]; decide)]
    simp only[dG,dblF,hd,redB,Nat.lt_irrefl,if_false,if_true,xorB_zero]
   ·rw[if_neg h15,dGL_get _ hj]
    have:j<15:=by omega
    simp only[dG,dblF,hd,if_pos this,if_neg (show ¬ j=15 by omega),xorB_zero,or_low]
  ·rw[if_neg (by omega),List.getElem?_eq_none (by rw[dGL_len]; omega),List.getElem?_eq_none (by rw[toL_len]; omega)]
theorem redB_mul (b:List UInt8):binV .mul (.w (.c (.d (bD (shrB (b.getD 0 0) 7))))) (.w (.c (.d (.int .u8 135))))=some (bD (redB b)):=by
  have key:=all_b (p:=fun x=>(shrB x 7).toNat*135%256==(selB (bitB x 7) 135).toNat) (by decide +kernel) (b.getD 0 0)
  rw[beq_iff_eq] at key
  show binI .mul .u8 _ .u8 _=_
  rw[binI_mul,IntKind.wrap_u8]
  unfold redB bD
  rw[← key]
  congr 2
theorem redB_eq (b:List UInt8):(shrB (b.getD 0 0) 7==1)=bitB (b.getD 0 0) 7:=by
  have key:=all_b (p:=fun x=>(shrB x 7==1)==bitB x 7) (by decide +kernel) (b.getD 0 0)
  rw[beq_iff_eq] at key
  exact key
theorem orB_zero (x:UInt8):orB x 0=x:=by
  have key:=all_b (p:=fun x=>orB x 0==x) (by decide +kernel) x
  rw[beq_iff_eq] at key
  exact key
theorem bD0:bD 0=.int .u8 0:=rfl
def cyB (b:List UInt8) (m:Nat):UInt8:=if m<16 then shrB (b.getD m 0) 7 else 0
theorem cyB_step (b:List UInt8) {q:Nat} (h:q<16):orB (shlB (b.getD q 0) 1) (cyB b (q+1))=dG b q:=by
  unfold cyB dG
  by_cases h2:q<15
  ·rw[if_pos (by omega),if_pos h2]
  ·rw[if_neg (by omega),if_neg h2,orB_zero]
theorem cyB_at (b:List UInt8) {q:Nat} (h:q<16):shrB (b.getD q 0) 7=cyB b q:=(if_pos h).symm
def dnL (l:List UInt8) (m:Nat):List UInt8:=List.replicate m 0++l.drop m
theorem dnL_len {l:List UInt8} {m:Nat} (h:m≤l.length):(dnL l m).length=l.length:=by
  unfold dnL; rw[List.length_append,List.length_replicate,List.length_drop]; omega
theorem dnL_zero (l:List UInt8):dnL l 0=l:=by simp[dnL]
theorem dnL_full {l:List UInt8} {m:Nat} (h:l.length=m):dnL l m=List.replicate m 0:=by
  unfold dnL; rw[List.drop_eq_nil_of_le (by omega),List.append_nil]
theorem dnL_step {l:List UInt8} {q:Nat} (h:q<l.length):(dnL l (q+1)).set q (l.getD q 0)=dnL l q:=by
  unfold dnL
  rw[List.replicate_succ',List.append_assoc,List.set_append_right _ _ (by simp),List.length_replicate,Nat.sub_self,List.drop_eq_getElem_cons h,List.getD_eq_getElem?_getD,List.getElem?_eq_getElem h]
  rfl
def dbSt (b:List UInt8) (m:Nat):St:=⟨ofL [(0,.w (.c (.d (.sl (b.map bD))))),(3,.w (.c (.own 1 1 0 16))),(4,.w (.c (.d (bD (cyB b m))))),(5,.w (.c (.d (.int .i64 ((m:Int)-1)))))],hL [(1,.row 1 ((dnL (dGL b) m).map bD))],uL [1]⟩
theorem dblL_no {b:List UInt8} (h:b.length≠16):dblL b=[]:=if_neg h
def lp_dbb_0:SCode :=
 .seq (.seq (.reg [oM 10 5,
 oO 11 (.bin .geq (.t 10) (kI 0))])
 (.cond (.t 11) (.skip)
 (.exit 0)))
 (.seq (.block 1 (.seq (.reg [oM 14 3,
 oM 15 5,
 oM 16 0,
 oM 17 5,
 oO 18 (.idxSl 1 (.t 16) (.t 17)),
 oO 19 (.load .sc (.t 18)),
 oO 20 (.bin .shl (.t 19) (.k (.c (.d (.int .u64 1))))),
 oM 21 4,
 oO 22 (.bin .or (.t 20) (.t 21)),
 oO 23 (.idxSl 1 (.t 14) (.t 15)),
 oN (.store .sc (.t 23) (.t 22))])
 (.reg [oM 24 0,
 oM 25 5,
 oO 26 (.idxSl 1 (.t 24) (.t 25)),
 oO 27 (.load .sc (.t 26)),
 oO 28 (.bin .shr (.t 27) (.k (.c (.d (.int .u64 7))))),
 oM 4 28])))
 (.reg [oM 12 5,
 oO 13 (.bin .sub (.t 12) (kI 1)),
 oM 5 13]))
def sf_dbb:SFn:=⟨1,37,
 .seq (.reg [oO 2 (.mv (.k (.c .nil)))])
 (.seq (.seq (.reg [oM 6 0,
 oO 7 (.len (.t 6)),
 oO 8 (.bin .neq (.t 7) (kI 16))])
 (.cond (.t 8) (.seq (.reg [oO 2 (.mv (.k (.c .nil)))])
 (.ret))
 (.skip)))
 (.seq (.reg [oO 9 (.make true 1 1 (.int .u8 0) (kI 16) (kI 16)),
 oM 3 9])
 (.seq (.reg [oO 4 (.mv (.k (.c (.d (.int .u8 0)))))])
 (.seq (.seq (.reg [oO 5 (.mv (kI 15))])
 (.block 0 (.loop lp_dbb_0)))
 (.seq (.reg [oM 29 3,
 oO 30 (.idxSl 1 (.t 29) (kI 15)),
 oO 31 (.load .sc (.t 30)),
 oM 32 4,
 oO 33 (.bin .mul (.t 32) (.k (.c (.d (.int .u8 135))))),
 oO 34 (.bin .xor (.t 31) (.t 33)),
 oO 35 (.idxSl 1 (.t 29) (kI 15)),
 oN (.store .sc (.t 35) (.t 34))])
 (.seq (.reg [oM 36 3,
 oM 2 36])
 (.ret))))))),
 [(2,none)]⟩
theorem cf_dbb:compFn Tryz.prog { own:=[],comp:=[],frz:=[],nils:=[] } Tryz.f112=some sf_dbb:=by kernel_rfl
theorem dbb_c (G:Glob) (b:List UInt8) (hb:b.length≤9223372036854775807):Den Tryz.prog G 112 [.sl (b.map bD)] (.w (.c (.fr 1 ((dblL b).map bD)))):=by
  refine den_walk Tryz.func112 cf_dbb rfl rfl ?_
  by_cases h:b.length=16
  ·have hd:=dblL_set h
   have hl:=dGL_len b
   simp only[sf_dbb,putAll,wal,stV,seval,iteOmega,toNatUp,reduceCtorEq,h,z16]
   refine loop_st (dbSt b) (fun m=>m) (fun m=>m≤16) 16 (Nat.le_refl _) ?_ ?_
   ·have e1:dnL (dGL b) 16=repL 16 0:=dnL_full hl
    have e2:cyB b 16=0:=rfl
    refine ent_l (fun i=>72) ?_ ?_ rfl rfl <;> simp only[wx,wex,wez,stV,seval,iteOmega,toNatUp,reduceCtorEq,e1,e2,bD0]
   ·intro m hm
    rcases m with _ | q
    ·have e0:=dnL_zero (dGL b)
     have c0:cyB b 0=shrB (b.getD 0 0) 7:=rfl
     have x1:=redB_mul b
     have g1:=dGL_get b (j:=15) (by decide)
     have x2:=binV_xorB (dG b 15) (redB b)
     have h3:15<(dGL b).length:=by omega
     have hdl:(dblL b).length=16:=dblL_len h
     simp only[lp_dbb_0,dbSt,e0,c0,Int.natCast_zero,Int.zero_sub,wal,stV,seval,iteOmega,toNatUp,reduceCtorEq,get_map,g1,x1,x2,stO_bs h3 (one_b _),set_bs,hd]
     exact ret_own (id:=1) (n:=16) (s:=1) (by simp only[wx,stV,seval,iteOmega,toNatUp,reduceCtorEq]) (by simp only[wx,stV,seval,iteOmega,toNatUp,reduceCtorEq]) (by simp[hdl])
    ·have hq:q<16:=by omega
     have g1:b[q]?=some (b.getD q 0):=get_lt (by omega)
     have hl1:=dnL_len (l:=dGL b) (m:=q+1) (by omega)
     have h3:q<(dnL (dGL b) (q+1)).length:=by omega
     have x1:=bl_shl (b.getD q 0) .u64 1 1 rfl (by decide)
     have x2:=binV_orB (shlB (b.getD q 0) 1) (cyB b (q+1))
     have x3:=bl_shr (b.getD q 0) .u64 7 7 rfl (by decide)
     have c1:=cyB_step b hq
     have c2:=cyB_at b hq
     have hs:=dnL_step (l:=dGL b) (q:=q) (by omega)
     have hg:(dGL b).getD q 0=dG b q:=by rw[List.getD_eq_getElem?_getD,dGL_get b hq]; rfl
     rw[hg] at hs
     have sub:((q:Int)+1-1)=(q:Int):=by omega
     simp only[lp_dbb_0,dbSt,wal,stV,seval,iteOmega,toNatUp,reduceCtorEq,sub,get_map,g1,x1,x2,x3,c1,c2,h,stO_bs h3 (one_b _),set_bs,hs]
     refine lop_next q (by omega) (by omega) (ent_l (fun i=>i) ?_ ?_ rfl rfl) <;> simp only[wx,wex,wez,stV,seval,iteOmega,toNatUp,reduceCtorEq]
  ·rw[dblL_no h]
   simp only[sf_dbb,putAll,wal,stV,seval,iteOmega,toNatUp,reduceCtorEq]
   exact qf1
def rdbSt (b:List UInt8) (i:Nat):St:=⟨ofL [(0,.w (.c (.d (.sl (b.map bD))))),(3,.w (.c (.own 1 1 0 16))),(4,.w (.c (.d (.int .i64 (i:Int)))))],hL [(1,.row 1 ((upL (dG b) (repL 16 0) i).map bD))],uL [1]⟩
def lp_rdbb_0:SCode :=
 .seq (.seq (.reg [oM 9 4,
 oO 10 (.bin .lss (.t 9) (kI 16))])
 (.cond (.t 10) (.skip)
 (.exit 0)))
 (.seq (.block 1 (.seq (.reg [oM 13 3,
 oM 14 4,
 oM 15 0,
 oM 16 4,
 oO 17 (.idxSl 1 (.t 15) (.t 16)),
 oO 18 (.load .sc (.t 17)),
 oO 19 (.bin .shl (.t 18) (.k (.c (.d (.int .u64 1))))),
 oO 20 (.idxSl 1 (.t 13) (.t 14)),
 oN (.store .sc (.t 20) (.t 19))])
 (.seq (.reg [oM 21 4,
 oO 22 (.bin .lss (.t 21) (kI 15))])
 (.cond (.t 22) (.reg [oM 23 3,
 oM 24 4,
 oM 25 3,
 oM 26 4,
 oO 27 (.idxSl 1 (.t 25) (.t 26)),
 oO 28 (.load .sc (.t 27)),
 oM 29 0,
 oM 30 4,
 oO 31 (.bin .add (.t 30) (kI 1)),
 oO 32 (.idxSl 1 (.t 29) (.t 31)),
 oO 33 (.load .sc (.t 32)),
 oO 34 (.bin .shr (.t 33) (.k (.c (.d (.int .u64 7))))),
 oO 35 (.bin .or (.t 28) (.t 34)),
 oO 36 (.idxSl 1 (.t 23) (.t 24)),
 oN (.store .sc (.t 36) (.t 35))])
 (.skip)))))
 (.reg [oM 11 4,
 oO 12 (.bin .add (.t 11) (kI 1)),
 oM 4 12]))
def sf_rdbb:SFn:=⟨1,49,
 .seq (.reg [oO 2 (.mv (.k (.c .nil)))])
 (.seq (.seq (.reg [oM 5 0,
 oO 6 (.len (.t 5)),
 oO 7 (.bin .neq (.t 6) (kI 16))])
 (.cond (.t 7) (.seq (.reg [oO 2 (.mv (.k (.c .nil)))])
 (.ret))
 (.skip)))
 (.seq (.reg [oO 8 (.make true 1 1 (.int .u8 0) (kI 16) (kI 16)),
 oM 3 8])
 (.seq (.seq (.reg [oO 4 (.mv (kI 0))])
 (.block 0 (.loop lp_rdbb_0)))
 (.seq (.seq (.reg [oM 37 0,
 oO 38 (.idxSl 1 (.t 37) (kI 0)),
 oO 39 (.load .sc (.t 38)),
 oO 40 (.bin .shr (.t 39) (.k (.c (.d (.int .u64 7))))),
 oO 41 (.bin .eql (.t 40) (.k (.c (.d (.int .u8 1)))))])
 (.cond (.t 41) (.reg [oM 42 3,
 oM 43 3,
 oO 44 (.idxSl 1 (.t 43) (kI 15)),
 oO 45 (.load .sc (.t 44)),
 oO 46 (.bin .xor (.t 45) (.k (.c (.d (.int .u8 135))))),
 oO 47 (.idxSl 1 (.t 42) (kI 15)),
 oN (.store .sc (.t 47) (.t 46))])
 (.skip)))
 (.seq (.reg [oM 48 3,
 oM 2 48])
 (.ret)))))),
 [(2,none)]⟩
theorem cf_rdbb:compFn Tryz.prog { own:=[],comp:=[],frz:=[],nils:=[] } Tryz.f95=some sf_rdbb:=by kernel_rfl
theorem rdbb_c (G:Glob) (b:List UInt8) (hb:b.length≤9223372036854775807):Den Tryz.prog G 95 [.sl (b.map bD)] (.w (.c (.fr 1 ((dblL b).map bD)))):=by
  refine den_walk Tryz.func95 cf_rdbb rfl rfl ?_
  by_cases h:b.length=16
  ·have hd:=dblL_set h
   have hl:=dGL_len b
   have zl:(repL 16 (0:UInt8)).length=16:=repL_len _ _
   simp only[sf_rdbb,putAll,wal,stV,seval,iteOmega,toNatUp,reduceCtorEq,h,z16]
   refine loop_st (rdbSt b) (fun i=>16-i) (fun i=>i≤16) 0 (Nat.zero_le _) ?_ ?_
   ·have e1:=upL_zero (dG b) (repL 16 0)
    refine ent_l (fun i=>64) ?_ ?_ rfl rfl <;> simp only[wx,wex,wez,stV,seval,iteOmega,toNatUp,reduceCtorEq,e1]
   ·intro i hi
    by_cases hlt:i<16
    ·have g1:b[i]?=some (b.getD i 0):=get_lt (by omega)
     have hl1:=upL_len (dG b) (repL 16 0) (i:=i) (by omega)
     have h3:i<(upL (dG b) (repL 16 0) i).length:=by omega
     have x1:=bl_shl (b.getD i 0) .u64 1 1 rfl (by decide)
     have hs:=upL_step (dG b) (repL 16 0) (i:=i) (by omega)
     by_cases h15:i<15
     ·have g2:b[i+1]?=some (b.getD (i+1) 0):=get_lt (by omega)
      have x2:=bl_shr (b.getD (i+1) 0) .u64 7 7 rfl (by decide)
      have x3:=binV_orB (shlB (b.getD i 0) 1) (shrB (b.getD (i+1) 0) 7)
      have hdg:orB (shlB (b.getD i 0) 1) (shrB (b.getD (i+1) 0) 7)=dG b i:=(if_pos h15).symm
      have h4:i<((upL (dG b) (repL 16 0) i).set i (shlB (b.getD i 0) 1)).length:=by rw[List.length_set]; omega
      have g3:((upL (dG b) (repL 16 0) i).set i (shlB (b.getD i 0) 1))[i]?=some (shlB (b.getD i 0) 1):=List.getElem?_set_self (by omega)
      have hs2:((upL (dG b) (repL 16 0) i).set i (shlB (b.getD i 0) 1)).set i (dG b i)=upL (dG b) (repL 16 0) (i+1):=by rw[List.set_set,hs]
      simp only[lp_rdbb_0,rdbSt,wal,stV,seval,iteOmega,toNatUp,reduceCtorEq,get_map,g1,x1,h,stO_bs h3 (one_b _),set_bs,g3,g2,x2,x3,stO_bs h4 (one_b _),hdg,hs2]
      refine lop_next (i+1) (by omega) (by omega) (ent_l (fun i=>i) ?_ ?_ rfl rfl) <;> simp only[wx,wex,wez,stV,seval,iteOmega,toNatUp,reduceCtorEq]
     ·have hdg:shlB (b.getD i 0) 1=dG b i:=(if_neg h15).symm
      rw[hdg] at x1
      simp only[lp_rdbb_0,rdbSt,wal,stV,seval,iteOmega,toNatUp,reduceCtorEq,get_map,g1,x1,h,stO_bs h3 (one_b _),set_bs,hs]
      refine lop_next (i+1) (by omega) (by omega) (ent_l (fun i=>i) ?_ ?_ rfl rfl) <;> simp only[wx,wex,wez,stV,seval,iteOmega,toNatUp,reduceCtorEq]
    ·obtain rfl:i=16:=by omega
     have e1:upL (dG b) (repL 16 0) 16=dGL b:=upL_full _ _ (by rw[repL_len]; decide)
     have g0:b[0]?=some (b.getD 0 0):=get_lt (by omega)
     have x1:=bl_shr (b.getD 0 0) .u64 7 7 rfl (by decide)
     have x2:=bl_eql (shrB (b.getD 0 0) 7) 1 1 rfl
     have hr:=redB_eq b
     rw[hr] at x2
     have g1:=dGL_get b (j:=15) (by decide)
     have h3:15<(dGL b).length:=by omega
     have hdl:(dblL b).length=16:=dblL_len h
     have hrb:redB b=selB (bitB (b.getD 0 0) 7) 135:=rfl
     cases hb7:bitB (b.getD 0 0) 7
     ·rw[hb7] at x2 hrb
      rw[hrb,show selB false 135=0 from rfl,xorB_zero] at hd
      have hs:(dGL b).set 15 (dG b 15)=dGL b:=by
        apply List.ext_getElem?
        intro j
        rw[List.getElem?_set]
        by_cases hj:15=j
        ·subst hj
         rw[if_pos rfl,if_pos h3,g1]
        ·rw[if_neg hj]
      rw[hs] at hd
      simp only[lp_rdbb_0,rdbSt,e1,wal,stV,seval,iteOmega,toNatUp,reduceCtorEq,get_map,g0,x1,x2,h,hd]
      exact ret_own (id:=1) (n:=16) (s:=1) (by simp only[wx,stV,seval,iteOmega,toNatUp,reduceCtorEq]) (by simp only[wx,stV,seval,iteOmega,toNatUp,reduceCtorEq]) (by simp[hdl])
     ·rw[hb7] at x2 hrb
      rw[hrb,show selB true 135=135 from rfl] at hd
      have x3:=bl_xor (dG b 15) 135 135 rfl
      simp only[lp_rdbb_0,rdbSt,e1,wal,stV,seval,iteOmega,toNatUp,reduceCtorEq,get_map,g0,x1,x2,h,g1,x3,stO_bs h3 (one_b _),set_bs,hd]
      exact ret_own (id:=1) (n:=16) (s:=1) (by simp only[wx,stV,seval,iteOmega,toNatUp,reduceCtorEq]) (by simp only[wx,stV,seval,iteOmega,toNatUp,reduceCtorEq]) (by simp[hdl])
  ·rw[dblL_no h]
   simp only[sf_rdbb,putAll,wal,stV,seval,iteOmega,toNatUp,reduceCtorEq]
   exact qf1
def xrF (a b:List UInt8) (j:Nat):UInt8:=xorB (a.getD j 0) (b.getD j 0)
theorem xorP_up {a b:List UInt8} {n:Nat} (ha:a.length=n) (hb:b.length=n):(List.range n).map (xrF a b)=xorP a b:=by
  apply List.ext_getElem?
  intro j
  by_cases hj:j<n
  ·have:=xorP_get a b j (by omega) (by omega)
   have hl:j<(xorP a b).length:=by rw[xorP_len]; omega
   rw[get_lt hl,this]
   simp[hj,xrF]
  ·rw[List.getElem?_eq_none (by simpa using hj),List.getElem?_eq_none (by rw[xorP_len]; omega)]
def cmbSt (a b:List UInt8) (i:Nat):St:=⟨ofL [(0,.w (.c (.d (.sl (a.map bD))))),(1,.w (.c (.d (.sl (b.map bD))))),(5,.w (.c (.own 1 1 0 16))),(9,.w (.c (.d (.int .i64 16)))),(10,.w (.c (.d (.int .i64 (i:Int)))))],hL [(1,.row 1 ((upL (xrF a b) (repL 16 0) i).map bD))],uL [1]⟩
def lp_cmb_0:SCode :=
 .seq (.reg [oO 11 (.bin .lss (.t 10) (.t 9))])
 (.seq (.cond (.t 11) (.skip)
 (.exit 0))
 (.seq (.block 1 (.seq (.reg [oM 12 10,
 oM 6 12])
 (.reg [oM 13 5,
 oM 14 6,
 oM 15 0,
 oM 16 6,
 oO 17 (.idxSl 1 (.t 15) (.t 16)),
 oO 18 (.load .sc (.t 17)),
 oM 19 1,
 oM 20 6,
 oO 21 (.idxSl 1 (.t 19) (.t 20)),
 oO 22 (.load .sc (.t 21)),
 oO 23 (.bin .xor (.t 18) (.t 22)),
 oO 24 (.idxSl 1 (.t 13) (.t 14)),
 oN (.store .sc (.t 24) (.t 23))])))
 (.reg [oO 25 (.bin .add (.t 10) (kI 1)),
 oM 10 25])))
def sf_cmb:SFn:=⟨2,27,
 .seq (.reg [oO 4 (.mv (.k (.c .nil)))])
 (.seq (.reg [oO 7 (.make true 1 1 (.int .u8 0) (kI 16) (kI 16)),
 oM 5 7])
 (.seq (.seq (.reg [oM 8 5,
 oO 9 (.len (.t 8)),
 oO 10 (.mv (kI 0))])
 (.block 0 (.loop lp_cmb_0)))
 (.seq (.reg [oM 26 5,
 oM 4 26])
 (.ret)))),
 [(4,none)]⟩
theorem cf_cmb:compFn Tryz.prog { own:=[],comp:=[],frz:=[],nils:=[] } Tryz.f114=some sf_cmb:=by kernel_rfl
theorem cmb_c (G:Glob) (a b:List UInt8) (ha:a.length=16) (hb:b.length=16):Den Tryz.prog G 114 [.sl (a.map bD),.sl (b.map bD)] (.w (.c (.fr 1 ((xorP a b).map bD)))):=by
  refine den_walk Tryz.func114 cf_cmb rfl rfl ?_
  have zl:(repL 16 (0:UInt8)).length=16:=repL_len _ _
  simp only[sf_cmb,putAll,wal,stV,seval,iteOmega,toNatUp,reduceCtorEq,z16]
  refine loop_st (cmbSt a b) (fun i=>16-i) (fun i=>i≤16) 0 (Nat.zero_le _) ?_ ?_
  ·have e1:=upL_zero (xrF a b) (repL 16 0)
   refine ent_l (fun i=>56) ?_ ?_ rfl rfl <;> simp only[wx,wex,wez,stV,seval,iteOmega,toNatUp,reduceCtorEq,e1]
  ·intro i hi
   by_cases hlt:i<16
   ·have g1:a[i]?=some (a.getD i 0):=get_lt (by omega)
    have g2:b[i]?=some (b.getD i 0):=get_lt (by omega)
    have hl1:=upL_len (xrF a b) (repL 16 0) (i:=i) (by omega)
    have h3:i<(upL (xrF a b) (repL 16 0) i).length:=by omega
    have x1:=binV_xorB (a.getD i 0) (b.getD i 0)
    have hx:xorB (a.getD i 0) (b.getD i 0)=xrF a b i:=rfl
    have hs:=upL_step (xrF a b) (repL 16 0) (i:=i) (by omega)
    simp only[lp_cmb_0,cmbSt,wal,stV,seval,iteOmega,toNatUp,reduceCtorEq,get_map,g1,g2,x1,ha,hb,stO_bs h3 (one_b _),set_bs,hx,hs]
    refine lop_next (i+1) (by omega) (by omega) (ent_l (fun i=>i) ?_ ?_ rfl rfl) <;> simp only[wx,wex,wez,stV,seval,iteOmega,toNatUp,reduceCtorEq]
   ·obtain rfl:i=16:=by omega
    have e1:upL (xrF a b) (repL 16 0) 16=xorP a b:=by rw[upL_full _ _ (by rw[repL_len]; decide),xorP_up ha hb]
    have hl:(xorP a b).length=16:=by rw[xorP_len]; exact ha
    simp only[lp_cmb_0,cmbSt,e1,wal,stV,seval,iteOmega,toNatUp,reduceCtorEq]
    exact ret_own (id:=1) (n:=16) (s:=1) (by simp only[wx,stV,seval,iteOmega,toNatUp,reduceCtorEq]) (by simp only[wx,stV,seval,iteOmega,toNatUp,reduceCtorEq]) (by simp[hl])
def xorI (a b:List UInt8) (i:Nat):List UInt8:=xorP a (b.take i)
theorem xorI_len (a b:List UInt8) (i:Nat):(xorI a b i).length=a.length:=xorP_len _ _
theorem xorI_at:∀ (a b:List UInt8) (i:Nat),i<b.length→(xorI a b i)[i]?=a[i]?
  | [],_,_,_=>by simp[xorI,xorP]
  | x::a,b,0,_=>by simp[xorI,xorP_nil]
  | x::a,[],i+1,h=>by simp at h
  | x::a,y::b,i+1,h=>by
    show (xorI a b i)[i]?=a[i]?
    exact xorI_at a b i (by simpa using h)
theorem xorI_step:∀ (a b:List UInt8) (i:Nat),i<a.length→i<b.length→(xorI a b i).set i (xorB (a.getD i 0) (b.getD i 0))=xorI a b (i+1)
  | [],_,_,h,_=>by simp at h
  | x::a,[],_,_,h=>by simp at h
  | x::a,y::b,0,_,_=>by simp[xorI,xorP_nil,xorP]
  | x::a,y::b,i+1,h,g=>by
    show xorB x y::(xorI a b i).set i _=xorB x y::xorI a b (i+1)
    rw[← xorI_step a b i (by simpa using h) (by simpa using g)]
    rfl
theorem xorI_end:∀ (a b:List UInt8) (i:Nat),min a.length b.length≤i→xorI a b i=xorP a b
  | [],_,_,_=>by simp[xorI,xorP]
  | x::a,[],i,_=>by simp[xorI]
  | x::a,y::b,0,h=>by simp at h
  | x::a,y::b,i+1,h=>by
    show xorB x y::xorI a b i=xorB x y::xorP a b
    rw[xorI_end a b i (by simp at h; omega)]
def rxrSt (a b:List UInt8) (i:Nat):St:=⟨ofL [(1,.w (.c (.d (.sl (b.map bD))))),(5,.w (.c (.own 1 1 0 a.length))),(6,.w (.c (.d (.int .i64 (i:Int)))))],hL [(1,.row 1 ((xorI a b i).map bD))],uL [1]⟩
def lp_rxor_0:SCode :=
 .seq (.seq (.reg [oM 10 6,
 oM 11 5,
 oO 12 (.len (.t 11)),
 oO 13 (.bin .lss (.t 10) (.t 12)),
 oM 14 13,
 oG 15 (.mv (.t 6)) 14 true,
 oG 16 (.mv (.t 1)) 14 true,
 oG 17 (.len (.t 16)) 14 true,
 oG 18 (.bin .lss (.t 15) (.t 17)) 14 true,
 oO 19 (.pick (.t 14) (.t 18) (.k (.c (.d (.bool false)))))])
 (.cond (.t 19) (.skip)
 (.exit 0)))
 (.seq (.block 1 (.reg [oM 22 5,
 oM 23 6,
 oM 24 5,
 oM 25 6,
 oO 26 (.idxSl 1 (.t 24) (.t 25)),
 oO 27 (.load .sc (.t 26)),
 oM 28 1,
 oM 29 6,
 oO 30 (.idxSl 1 (.t 28) (.t 29)),
 oO 31 (.load .sc (.t 30)),
 oO 32 (.bin .xor (.t 27) (.t 31)),
 oO 33 (.idxSl 1 (.t 22) (.t 23)),
 oN (.store .sc (.t 33) (.t 32))]))
 (.reg [oM 20 6,
 oO 21 (.bin .add (.t 20) (kI 1)),
 oM 6 21]))
def sf_rxor:SFn:=⟨2,35,
 .seq (.reg [oO 4 (.mv (.k (.c .nil)))])
 (.seq (.reg [oM 7 0,
 oO 8 (.bldSl false 1 1 (.sl []) [(0,(.t 7))]),
 oO 9 (.call 36 [(.t 8)] (some (0,1))),
 oM 5 9])
 (.seq (.seq (.reg [oO 6 (.mv (kI 0))])
 (.block 0 (.loop lp_rxor_0)))
 (.seq (.reg [oM 34 5,
 oM 4 34])
 (.ret)))),
 [(4,none)]⟩
theorem cf_rxor:compFn Tryz.prog { own:=[9],comp:=[],frz:=[],nils:=[] } Tryz.f94=some sf_rxor:=by kernel_rfl
theorem rxor_c (G:Glob) (a b:List UInt8) (ha:a.length≤140737488355328) (hb:b.length≤9223372036854775807):Den Tryz.prog G 94 [.sl (a.map bD),.sl (b.map bD)] (.w (.c (.fr 1 ((xorP a b).map bD)))):=by
  refine den_walk Tryz.func94 cf_rxor rfl rfl ?_
  have hj:=rjoin_c G [a] (by simp) (by simp; omega)
  have hf:[a].flatten=a:=by simp
  rw[hf] at hj
  simp only[sf_rxor,putAll,wal,stV,seval,iteOmega,toNatUp,reduceCtorEq]
  refine sD (hj) ?_
  obtain⟨M,hM⟩:∃ M,M=min a.length b.length:=⟨_,rfl⟩
  refine loop_st (rxrSt a b) (fun i=>M-i) (fun i=>i≤M) 0 (Nat.zero_le _) ?_ ?_
  ·have e1:xorI a b 0=a:=by simp[xorI,xorP_nil]
   refine ent_l (fun i=>72) ?_ ?_ rfl rfl <;> simp only[wx,wex,wez,stV,seval,iteOmega,toNatUp,reduceCtorEq,e1]
  ·intro i hi
   have hl:=xorI_len a b i
   by_cases h1:i<a.length
   ·by_cases h2:i<b.length
    ·have g1:a[i]?=some (a.getD i 0):=get_lt (by omega)
     have g2:b[i]?=some (b.getD i 0):=get_lt (by omega)
     have g3:=xorI_at a b i h2
     rw[g1] at g3
     have h3:i<(xorI a b i).length:=by omega
     have x1:=binV_xorB (a.getD i 0) (b.getD i 0)
     have hs:=xorI_step a b i h1 h2
     simp only[lp_rxor_0,rxrSt,wal,stV,seval,iteOmega,toNatUp,reduceCtorEq,get_map,g3,g2,x1,hl,stO_bs h3 (one_b _),set_bs,hs]
     refine lop_next (i+1) (by omega) (by omega) (ent_l (fun i=>i) ?_ ?_ rfl rfl) <;> simp only[wx,wex,wez,stV,seval,iteOmega,toNatUp,reduceCtorEq]
    ·have e1:=xorI_end a b i (by omega)
     rw[e1] at hl
     simp only[lp_rxor_0,rxrSt,e1,wal,stV,seval,iteOmega,toNatUp,reduceCtorEq]
     exact ret_own (id:=1) (n:=a.length) (s:=1) (by simp only[wx,stV,seval,iteOmega,toNatUp,reduceCtorEq]) (by simp only[wx,stV,seval,iteOmega,toNatUp,reduceCtorEq]) (by simp[hl])
   ·have e1:=xorI_end a b i (by omega)
    rw[e1] at hl
    simp only[lp_rxor_0,rxrSt,e1,wal,stV,seval,iteOmega,toNatUp,reduceCtorEq]
    exact ret_own (id:=1) (n:=a.length) (s:=1) (by simp only[wx,stV,seval,iteOmega,toNatUp,reduceCtorEq]) (by simp only[wx,stV,seval,iteOmega,toNatUp,reduceCtorEq]) (by simp[hl])
theorem blkV_ok {key b:List UInt8} (h:key.length=16) (hb:b.length=16):blkV key b=encK (rkK key) b:=if_pos ⟨h,hb⟩
theorem blkE_ok {key b:List UInt8} (h:key.length=16) (hb:b.length=16):blkE key b=0:=by unfold blkE; rw[if_neg (by omega),if_neg (by omega)]
theorem padN_16 (b:List UInt8):padN b 16=padL b:=rfl
def cdD (key:List UInt8):D:=.agg [.sl (key.map bD),.sl ((sub1 (rkK key)).map bD),.sl ((sub2 (rkK key)).map bD)]
def cdV (key:List UInt8):D:=if key.length=16 then cdD key else .agg [.sl [],.sl [],.sl []]
theorem fl_bt (s:Nat) (l:List UInt8) (k:IntKind) (n:Int):V.flat (.tup [.c (.fr s (l.map bD)),.c (.d (.int k n))])=true:=by
  have:=fl_b s l
  simp only[V.flat,W.flat,List.all_cons,List.all_nil,Bool.and_true] at this ⊢
  rw[this]; rfl
def sf_kenc:SFn:=⟨2,15,
 .seq (.reg [oO 2 (.box .roBox (.t 0)),
 oO 4 (.mv (.k (.c .nil)))])
 (.seq (.reg [oO 8 (.fieldAddr 0 (.t 2)),
 oO 9 (.load .sc (.t 8)),
 oM 10 1,
 oO 11 (.call 111 [(.t 9),(.t 10)] (some (0,1))),
 oM 7 11,
 oO 12 (.extract (.t 7) 0),
 oO 13 (.extract (.t 7) 1),
 oM 5 12,
 oM 6 13])
 (.seq (.reg [oM 14 5,
 oM 4 14])
 (.ret))),
 [(4,none)]⟩
theorem cf_kenc:compFn Tryz.prog { own:=[],comp:=[(11,0)],frz:=[],nils:=[] } Tryz.f117=some sf_kenc:=by kernel_rfl
theorem kenc_f (G:Glob) (key b:List UInt8) (h:key.length=16) (hb:b.length=16):Den Tryz.prog G 117 [.agg [.sl (key.map bD)],.sl (b.map bD)] (.w (.c (.fr 1 ((encK (rkK key) b).map bD)))):=by
  refine den_walk Tryz.func117 cf_kenc rfl rfl ?_
  have hx:=blk_f G key b (by omega) (by omega)
  rw[blkV_ok h hb,blkE_ok h hb] at hx
  simp only[sf_kenc,putAll,wal,stV,seval,iteOmega,toNatUp,reduceCtorEq]
  refine sD (hx) ?_
  exact qf1
theorem kenc_c (G:Glob) (key b:List UInt8) (h:key.length=16) (hb:b.length=16):Den Tryz.prog G 117 [.agg [.sl (key.map bD)],.sl (b.map bD)] (.w (.c (.d (.sl ((encK (rkK key) b).map bD))))):=den_ro (kenc_f G key b h hb)
def sf_cdof:SFn:=⟨1,25,
 .seq (.reg [oO 2 (.alloc [.nil,.nil,.nil]),
 oO 3 (.mv (kI 0))])
 (.seq (.reg [oM 8 0,
 oO 9 (.make true 1 1 (.int .u8 0) (kI 16) (kI 16)),
 oO 10 (.call 111 [(.t 8),(.t 9)] none),
 oM 7 10,
 oO 11 (.extract (.t 7) 0),
 oO 12 (.extract (.t 7) 1),
 oM 4 11,
 oM 5 12])
 (.seq (.seq (.reg [oM 13 5,
 oO 14 (.bin .neq (.t 13) (kI 0))])
 (.cond (.t 14) (.seq (.reg [oO 15 (.build [.nil,.nil,.nil] []),
 oM 16 5,
 oN (.store (.ag 3) (.t 2) (.t 15)),
 oM 3 16])
 (.ret))
 (.skip)))
 (.seq (.reg [oM 17 4,
 oO 18 (.call 112 [(.t 17)] none),
 oM 6 18])
 (.seq (.reg [oM 19 0,
 oO 20 (.build [.nil] [(0,1,(.t 19))]),
 oM 21 6,
 oM 22 6,
 oO 23 (.call 112 [(.t 22)] none),
 oO 24 (.build [.nil,.nil,.nil] [(0,1,(.t 20)),(1,1,(.t 21)),(2,1,(.t 23))]),
 oN (.store (.ag 3) (.t 2) (.t 24)),
 oO 3 (.mv (kI 0))])
 (.ret))))),
 [(2,(some (.ag 3))),(3,none)]⟩
theorem cf_cdof:compFn Tryz.prog { own:=[],comp:=[],frz:=[],nils:=[] } Tryz.f101=some sf_cdof:=by kernel_rfl
theorem cdof_c (G:Glob) (key:List UInt8) (hk:key.length≤9223372036854775807):Den Tryz.prog G 101 [.sl (key.map bD)] (.tup [.c (.d (cdV key)),.c (.d (.int .i64 (keyE key)))]):=by
  refine den_walk Tryz.func101 cf_cdof rfl rfl ?_
  have t0:(repL 16 (0:UInt8)).take 16=zero16:=rfl
  by_cases h:key.length=16
  ·have hx:=blk_f G key zero16 (by omega) (by decide)
   rw[blkV_ok h (by decide),blkE_ok h (by decide)] at hx
   have hv:cdV key=cdD key:=if_pos h
   have he:keyE key=0:=by unfold keyE; rw[if_neg (by omega)]
   have h1:=dbb_c G (encK (rkK key) zero16) (by rw[encK_len]; decide)
   have h2:=dbb_c G (sub1 (rkK key)) (by rw[sub1_len]; decide)
   have s1:dblL (encK (rkK key) zero16)=sub1 (rkK key):=rfl
   have s2:dblL (sub1 (rkK key))=sub2 (rkK key):=rfl
   rw[s1] at h1
   rw[s2] at h2
   rw[hv,he]
   simp only[sf_cdof,putAll,wal,stV,seval,iteOmega,toNatUp,reduceCtorEq,z16]
   refine st_call hx (by simp only[wal,stV,seval,iteOmega,toNatUp,reduceCtorEq,take_map,t0,repL_len]) (.inr (fl_bt _ _ _ _)) ?_
   simp only[wal,stV,seval,iteOmega,toNatUp,reduceCtorEq]
   refine sD (h1) ?_
   refine sD (h2) ?_
   exact ret_d2 (by simp only[wal,stV,seval,iteOmega,toNatUp,reduceCtorEq,cdD]) (by simp only[wal,stV,seval,iteOmega,toNatUp,reduceCtorEq])
  ·have hv:cdV key=.agg [.sl [],.sl [],.sl []]:=if_neg h
   have he:keyE key=5:=if_pos h
   have hx:=blk_f G key zero16 (by omega) (by decide)
   have v1:blkV key zero16=[]:=if_neg (fun k=>h k.1)
   have v2:blkE key zero16=5:=if_pos h
   rw[v1,v2] at hx
   rw[hv,he]
   simp only[sf_cdof,putAll,wal,stV,seval,iteOmega,toNatUp,reduceCtorEq,z16]
   refine st_call hx (by simp only[wal,stV,seval,iteOmega,toNatUp,reduceCtorEq,take_map,t0,repL_len]) (.inr (fl_bt _ _ _ _)) ?_
   simp only[wal,stV,seval,iteOmega,toNatUp,reduceCtorEq]
   exact qd2
def sf_fild:SFn:=⟨1,8,
 .seq (.reg [oO 2 (.mv (.k (.c .nil)))])
 (.seq (.reg [oM 3 0,
 oO 4 (.bldSl false 1 1 (.int .u8 0) [(0,(.k (.c (.d (.int .u8 128)))))]),
 oO 5 (.bldSl false 2 1 (.sl []) [(0,(.t 3)),(1,(.t 4))]),
 oO 6 (.call 31 [(.t 5)] none),
 oO 7 (.call 120 [(.t 6),(kI 16)] none),
 oM 2 7])
 (.ret)),
 [(2,none)]⟩
theorem cf_fild:compFn Tryz.prog { own:=[],comp:=[],frz:=[],nils:=[] } Tryz.f119=some sf_fild:=by kernel_rfl
theorem fild_c (G:Glob) (b:List UInt8) (hb:b.length≤70000):Den Tryz.prog G 119 [.sl (b.map bD)] (.w (.c (.d (.sl ((padL (b++[128])).map bD))))):=by
  refine den_walk Tryz.func119 cf_fild rfl rfl ?_
  have hj:=join_c G [b,[128]] (by simp) (by simp; omega)
  have hf:[b,[128]].flatten=b++[128]:=by simp
  rw[hf] at hj
  have hp:=pad_c G (b++[128]) 16 (by simp; omega)
  rw[padN_16] at hp
  simp only[sf_fild,putAll,wal,stV,seval,iteOmega,toNatUp,reduceCtorEq]
  refine sD (hj) ?_
  refine sD (hp) ?_
  exact qd1
theorem endM_full (rk:List UInt8) {e:List UInt8} (h:e.length=16):endM rk e=xorP e (sub1 rk):=if_pos h
theorem endM_part (rk:List UInt8) {e:List UInt8} (h:e.length≠16):endM rk e=xorP (padL (e++[128])) (sub2 rk):=if_neg h
def sf_clast:SFn:=⟨2,17,
 .seq (.reg [oO 2 (.box .roBox (.t 0)),
 oO 4 (.mv (.k (.c .nil)))])
 (.seq (.seq (.reg [oM 5 1,
 oO 6 (.len (.t 5)),
 oO 7 (.bin .eql (.t 6) (kI 16))])
 (.cond (.t 7) (.seq (.reg [oM 8 1,
 oO 9 (.fieldAddr 1 (.t 2)),
 oO 10 (.load .sc (.t 9)),
 oO 11 (.call 114 [(.t 8),(.t 10)] none),
 oM 4 11])
 (.ret))
 (.skip)))
 (.seq (.reg [oM 12 1,
 oO 13 (.call 119 [(.t 12)] none),
 oO 14 (.fieldAddr 2 (.t 2)),
 oO 15 (.load .sc (.t 14)),
 oO 16 (.call 114 [(.t 13),(.t 15)] none),
 oM 4 16])
 (.ret))),
 [(4,none)]⟩
theorem cf_clast:compFn Tryz.prog { own:=[],comp:=[],frz:=[],nils:=[] } Tryz.f118=some sf_clast:=by kernel_rfl
theorem clast_c (G:Glob) (key b:List UInt8) (hb:b.length≤16):Den Tryz.prog G 118 [cdD key,.sl (b.map bD)] (.w (.c (.d (.sl ((endM (rkK key) b).map bD))))):=by
  refine den_walk Tryz.func118 cf_clast rfl rfl ?_
  by_cases h:b.length=16
  ·rw[endM_full _ h]
   simp only[sf_clast,putAll,cdD,wal,stV,seval,iteOmega,toNatUp,reduceCtorEq,h]
   refine sD (cmb_c G b (sub1 (rkK key)) h (sub1_len _)) ?_
   exact qd1
  ·rw[endM_part _ h]
   simp only[sf_clast,putAll,cdD,wal,stV,seval,iteOmega,toNatUp,reduceCtorEq]
   refine sD (fild_c G b (by omega)) ?_
   refine sD (cmb_c G (padL (b++[128])) (sub2 (rkK key)) (padL_short (by omega)) (sub2_len _)) ?_
   exact qd1
def codV (key b:List UInt8):Nat→V
  | 0=>.w (.c (.own 1 1 0 16))
  | i+1=>.w (.c (.d (.sl ((cbcM (rkK key) b (i+1)).map bD))))
def codSt (key b:List UInt8) (i:Nat):St:=⟨ofL [(1,.w (.c (.d (.sl ((b.drop (16*i)).map bD))))),(2,.w (.c (.rp [.sl (key.map bD),.sl ((sub1 (rkK key)).map bD),.sl ((sub2 (rkK key)).map bD)]))),(5,codV key b i)],hL [(1,.row 1 ((repL 16 (0:UInt8)).map bD))],uL [1]⟩
theorem drop16 (b:List UInt8) (i:Nat):((b.drop (16*i)).drop 16).take ((b.drop (16*i)).length-16)=b.drop (16*(i+1)):=by
  rw[List.drop_drop,List.take_of_length_le (by simp only[List.length_drop]; omega)]; rfl
def lp_code_0:SCode :=
 .seq (.seq (.reg [oM 7 1,
 oO 8 (.len (.t 7)),
 oO 9 (.bin .gtr (.t 8) (kI 16))])
 (.cond (.t 9) (.skip)
 (.exit 0)))
 (.block 1 (.seq (.reg [oO 10 (.fieldAddr 0 (.t 2)),
 oO 11 (.load (.ag 1) (.t 10)),
 oM 12 5,
 oM 13 1,
 oO 14 (.slice 1 (.t 13) none (some (kI 16)) none),
 oO 15 (.call 114 [(.t 12),(.t 14)] none),
 oO 16 (.call 117 [(.t 11),(.t 15)] none),
 oM 5 16])
 (.reg [oM 17 1,
 oO 18 (.slice 1 (.t 17) (some (kI 16)) none none),
 oM 1 18])))
def sf_code:SFn:=⟨2,27,
 .seq (.reg [oO 2 (.box .roBox (.t 0)),
 oO 4 (.mv (.k (.c .nil)))])
 (.seq (.reg [oO 6 (.make true 1 1 (.int .u8 0) (kI 16) (kI 16)),
 oM 5 6])
 (.seq (.block 0 (.loop lp_code_0))
 (.seq (.reg [oO 19 (.fieldAddr 0 (.t 2)),
 oO 20 (.load (.ag 1) (.t 19)),
 oM 21 5,
 oO 22 (.load (.ag 3) (.t 2)),
 oM 23 1,
 oO 24 (.call 118 [(.t 22),(.t 23)] none),
 oO 25 (.call 114 [(.t 21),(.t 24)] none),
 oO 26 (.call 117 [(.t 20),(.t 25)] (some (0,1))),
 oM 4 26])
 (.ret)))),
 [(4,none)]⟩
theorem cf_code:compFn Tryz.prog { own:=[26],comp:=[],frz:=[],nils:=[] } Tryz.f113=some sf_code:=by kernel_rfl
theorem code_f (G:Glob) (key b:List UInt8) (h:key.length=16) (hb:b.length≤70000):Den Tryz.prog G 113 [cdD key,.sl (b.map bD)] (.w (.c (.fr 1 ((macM (rkK key) b).map bD)))):=by
  refine den_walk Tryz.func113 cf_code rfl rfl ?_
  have t0:(repL 16 (0:UInt8)).take 16=zero16:=rfl
  have hah:aheadM b=(b.length+15) / 16-1:=rfl
  have hm:∀ i,i=aheadM b→macM (rkK key) b=encK (rkK key) (xorP (cbcM (rkK key) b i) (endM (rkK key) (b.drop (16*i)))):=fun i e=>by rw[e]; rfl
  simp only[sf_code,putAll,cdD,wal,stV,seval,iteOmega,toNatUp,reduceCtorEq,z16]
  refine loop_st (codSt key b) (fun i=>aheadM b-i) (fun i=>i≤aheadM b) 0 (Nat.zero_le _) ?_ ?_
  ·refine ent_l (fun i=>48) ?_ ?_ rfl rfl <;> simp only[wx,wex,wez,stV,seval,iteOmega,toNatUp,reduceCtorEq,codV]
  ·intro i hi
   have hcl:(b.drop (16*i)).length=b.length-16*i:=List.length_drop
   have hdr:=drop16 b i
   by_cases hlt:i<aheadM b
   ·have hT:((b.drop (16*i)).take 16).length=16:=by rw[List.length_take]; omega
    have hstep:encK (rkK key) (xorP (cbcM (rkK key) b i) ((b.drop (16*i)).take 16))=cbcM (rkK key) b (i+1):=rfl
    have h1:=cmb_c G (cbcM (rkK key) b i) ((b.drop (16*i)).take 16) (cbcM_len _ _ _) hT
    have h2:=kenc_c G key (xorP (cbcM (rkK key) b i) ((b.drop (16*i)).take 16)) h (by rw[xorP_len,cbcM_len])
    rw[hstep] at h2
    rcases i with _ | i
    ·have hz:cbcM (rkK key) b 0=zero16:=rfl
     rw[hz] at h1 h2
     simp only[Nat.mul_zero,List.drop_zero,Nat.zero_add,Nat.mul_one] at hdr
     simp only[lp_code_0,codSt,codV,wal,stV,seval,iteOmega,toNatUp,reduceCtorEq]
     refine st_call h1 (by simp only[wal,stV,seval,iteOmega,toNatUp,reduceCtorEq,take_map,t0,repL_len]) (.inr (fl_b _ _)) ?_
     simp only[wal,stV,seval,iteOmega,toNatUp,reduceCtorEq]
     refine sC (h2) ?_
     simp only[hdr,wal,stV,seval,iteOmega,toNatUp,reduceCtorEq]
     refine lop_next (0+1) (by omega) (by omega) (ent_l (fun i=>i) ?_ ?_ rfl rfl) <;> simp only[wx,wex,wez,stV,seval,iteOmega,toNatUp,reduceCtorEq,codV]
    ·simp only[lp_code_0,codSt,codV,wal,stV,seval,iteOmega,toNatUp,reduceCtorEq]
     refine sD (h1) ?_
     refine sC (h2) ?_
     simp only[hdr,wal,stV,seval,iteOmega,toNatUp,reduceCtorEq]
     refine lop_next (i+1+1) (by omega) (by omega) (ent_l (fun i=>i) ?_ ?_ rfl rfl) <;> simp only[wx,wex,wez,stV,seval,iteOmega,toNatUp,reduceCtorEq,codV]
   ·rw[hm i (by omega)]
    have hl16:(b.drop (16*i)).length≤16:=by omega
    have h1:=clast_c G key (b.drop (16*i)) hl16
    have h2:=cmb_c G (cbcM (rkK key) b i) (endM (rkK key) (b.drop (16*i))) (cbcM_len _ _ _) (endM_len hl16)
    have h3:=kenc_f G key (xorP (cbcM (rkK key) b i) (endM (rkK key) (b.drop (16*i)))) h (by rw[xorP_len,cbcM_len])
    rcases i with _ | i
    ·have hz:cbcM (rkK key) b 0=zero16:=rfl
     rw[hz] at h2 h3 ⊢
     simp only[lp_code_0,codSt,codV,wal,stV,seval,iteOmega,toNatUp,reduceCtorEq]
     refine sD (h1) ?_
     refine st_call h2 (by simp only[wal,stV,seval,iteOmega,toNatUp,reduceCtorEq,take_map,t0,repL_len]) (.inr (fl_b _ _)) ?_
     simp only[wal,stV,seval,iteOmega,toNatUp,reduceCtorEq]
     refine sD (h3) ?_
     exact qf1
    ·simp only[lp_code_0,codSt,codV,wal,stV,seval,iteOmega,toNatUp,reduceCtorEq]
     refine sD (h1) ?_
     refine sD (h2) ?_
     refine sD (h3) ?_
     exact qf1
theorem code_c (G:Glob) (key b:List UInt8) (h:key.length=16) (hb:b.length≤70000):Den Tryz.prog G 113 [cdD key,.sl (b.map bD)] (.w (.c (.d (.sl ((macM (rkK key) b).map bD))))):=den_ro (code_f G key b h hb)
def sf_clsd:SFn:=⟨2,26,
 .seq (.reg [oO 4 (.mv (.k (.c .nil)))])
 (.seq (.reg [oM 6 0,
 oO 7 (.len (.t 6)),
 oO 8 (.bin .sub (.t 7) (kI 16)),
 oM 5 8])
 (.seq (.seq (.reg [oM 9 5,
 oO 10 (.bin .lss (.t 9) (kI 0))])
 (.cond (.t 10) (.seq (.reg [oM 11 1,
 oO 12 (.call 112 [(.t 11)] none),
 oM 13 0,
 oO 14 (.call 119 [(.t 13)] none),
 oO 15 (.call 114 [(.t 12),(.t 14)] none),
 oM 4 15])
 (.ret))
 (.skip)))
 (.seq (.reg [oM 16 0,
 oM 17 5,
 oO 18 (.slice 1 (.t 16) none (some (.t 17)) none),
 oM 19 0,
 oM 20 5,
 oO 21 (.slice 1 (.t 19) (some (.t 20)) none none),
 oM 22 1,
 oO 23 (.call 114 [(.t 21),(.t 22)] none),
 oO 24 (.bldSl false 2 1 (.sl []) [(0,(.t 18)),(1,(.t 23))]),
 oO 25 (.call 31 [(.t 24)] none),
 oM 4 25])
 (.ret)))),
 [(4,none)]⟩
theorem cf_clsd:compFn Tryz.prog { own:=[],comp:=[],frz:=[],nils:=[] } Tryz.f115=some sf_clsd:=by kernel_rfl
theorem clsd_c (G:Glob) (s d:List UInt8) (hs:s.length≤70000) (hd:d.length=16):Den Tryz.prog G 115 [.sl (s.map bD),.sl (d.map bD)] (.w (.c (.d (.sl ((if 16≤s.length then s.take (s.length-16)++xorP (s.drop (s.length-16)) d else xorP (dblL d) (padL (s++[128]))).map bD))))):=by
  refine den_walk Tryz.func115 cf_clsd rfl rfl ?_
  by_cases h:16≤s.length
  ·rw[if_pos h]
   have hl:(s.drop (s.length-16)).length=16:=by rw[List.length_drop]; omega
   have ht:(s.drop (s.length-16)).take (s.length-(s.length-16))=s.drop (s.length-16):=List.take_of_length_le (by omega)
   have hj:=join_c G [s.take (s.length-16),xorP (s.drop (s.length-16)) d] (by simp) (by simp[xorP_len]; omega)
   have hf:[s.take (s.length-16),xorP (s.drop (s.length-16)) d].flatten=s.take (s.length-16)++xorP (s.drop (s.length-16)) d:=by simp
   rw[hf] at hj
   have e1:(((s.length:Int)-16).toNat)=s.length-16:=by omega
   simp only[sf_clsd,putAll,wal,stV,seval,iteOmega,toNatUp,reduceCtorEq,e1,ht]
   refine sD (cmb_c G (s.drop (s.length-16)) d hl hd) ?_
   refine sD (hj) ?_
   exact qd1
  ·rw[if_neg h]
   simp only[sf_clsd,putAll,wal,stV,seval,iteOmega,toNatUp,reduceCtorEq]
   refine sD (dbb_c G d (by omega)) ?_
   refine sD (fild_c G s (by omega)) ?_
   refine sD (cmb_c G (dblL d) (padL (s++[128])) (dblL_len hd) (padL_short (by omega))) ?_
   exact qd1
def vecSt (key:List UInt8) (l:List (List UInt8)) (i:Nat):St:=⟨ofL [(1,.w (.c (.d (.sl (l.map fun l=>D.sl (l.map bD)))))),(2,.w (.c (.rp [.sl (key.map bD),.sl ((sub1 (rkK key)).map bD),.sl ((sub2 (rkK key)).map bD)]))),(5,.w (.c (.d (.sl ((vecD (rkK key) l i).map bD))))),(6,.w (.c (.d (.int .i64 ((l.length:Int)-1))))),(23,.w (.c (.d (.sl ((l.take (l.length-1)).map fun l=>D.sl (l.map bD)))))),(24,.w (.c (.d (.int .i64 ((l.length:Int)-1))))),(25,.w (.c (.d (.int .i64 (i:Int)))))],hL [(1,.row 1 ((repL 16 (0:UInt8)).map bD))],uL [1]⟩
theorem vecM_none (rk:List UInt8) {l:List (List UInt8)} (h:l.length=0):vecM rk l=macM rk (putL 1 16):=by
  unfold vecM; rw[if_pos h]; congr 1
theorem vecM_some (rk:List UInt8) {l:List (List UInt8)} (h:l.length≠0):vecM rk l=macM rk (if 16≤(l.getD (l.length-1) []).length then (l.getD (l.length-1) []).take ((l.getD (l.length-1) []).length-16)++xorP ((l.getD (l.length-1) []).drop ((l.getD (l.length-1) []).length-16)) (vecD rk l (l.length-1)) else xorP (dblL (vecD rk l (l.length-1))) (padL (l.getD (l.length-1) []++[128]))):=by
  unfold vecM; rw[if_neg h]; dsimp only; split <;> rfl
theorem getL_lt {l:List (List UInt8)} {j:Nat} (h:j<l.length):l[j]?=some (l.getD j []):=by
  rw[List.getD_eq_getElem?_getD,List.getElem?_eq_getElem h]; rfl
theorem getL_mem {l:List (List UInt8)} {j:Nat} (h:j<l.length):l.getD j []∈l:=by
  rw[List.getD_eq_getElem?_getD,List.getElem?_eq_getElem h]; exact List.getElem_mem h
def lp_vect_0:SCode :=
 .seq (.reg [oO 26 (.bin .lss (.t 25) (.t 24))])
 (.seq (.cond (.t 26) (.skip)
 (.exit 0))
 (.seq (.block 1 (.seq (.reg [oO 27 (.idxSl 1 (.t 23) (.t 25)),
 oO 28 (.load .sc (.t 27)),
 oM 8 28])
 (.reg [oM 29 5,
 oO 30 (.call 112 [(.t 29)] none),
 oO 31 (.load (.ag 3) (.t 2)),
 oM 32 8,
 oO 33 (.call 113 [(.t 31),(.t 32)] none),
 oO 34 (.call 114 [(.t 30),(.t 33)] none),
 oM 5 34])))
 (.reg [oO 35 (.bin .add (.t 25) (kI 1)),
 oM 25 35])))
def sf_vect:SFn:=⟨2,44,
 .seq (.reg [oO 2 (.box .roBox (.t 0)),
 oO 4 (.mv (.k (.c .nil)))])
 (.seq (.seq (.reg [oM 9 1,
 oO 10 (.len (.t 9)),
 oO 11 (.bin .eql (.t 10) (kI 0))])
 (.cond (.t 11) (.seq (.reg [oO 12 (.load (.ag 3) (.t 2)),
 oO 13 (.call 32 [(.k (.c (.d (.int .u64 1)))),(kI 16)] none),
 oO 14 (.call 113 [(.t 12),(.t 13)] (some (0,1))),
 oM 4 14])
 (.ret))
 (.skip)))
 (.seq (.reg [oO 15 (.load (.ag 3) (.t 2)),
 oO 16 (.make true 1 1 (.int .u8 0) (kI 16) (kI 16)),
 oO 17 (.call 113 [(.t 15),(.t 16)] none),
 oM 5 17])
 (.seq (.reg [oM 18 1,
 oO 19 (.len (.t 18)),
 oO 20 (.bin .sub (.t 19) (kI 1)),
 oM 6 20])
 (.seq (.seq (.reg [oM 21 1,
 oM 22 6,
 oO 23 (.slice 1 (.t 21) none (some (.t 22)) none),
 oO 24 (.len (.t 23)),
 oO 25 (.mv (kI 0))])
 (.block 0 (.loop lp_vect_0)))
 (.seq (.reg [oO 36 (.load (.ag 3) (.t 2)),
 oM 37 1,
 oM 38 6,
 oO 39 (.idxSl 1 (.t 37) (.t 38)),
 oO 40 (.load .sc (.t 39)),
 oM 41 5,
 oO 42 (.call 115 [(.t 40),(.t 41)] none),
 oO 43 (.call 113 [(.t 36),(.t 42)] (some (0,1))),
 oM 4 43])
 (.ret)))))),
 [(4,none)]⟩
theorem cf_vect:compFn Tryz.prog { own:=[14,43],comp:=[],frz:=[],nils:=[] } Tryz.f102=some sf_vect:=by kernel_rfl
theorem vect_f (G:Glob) (key:List UInt8) (l:List (List UInt8)) (h:key.length=16) (hl:l.length≤17) (hb:∀ x∈l,x.length≤65535):Den Tryz.prog G 102 [cdD key,.sl (l.map fun l=>D.sl (l.map bD))] (.w (.c (.fr 1 ((vecM (rkK key) l).map bD)))):=by
  refine den_walk Tryz.func102 cf_vect rfl rfl ?_
  have t0:(repL 16 (0:UInt8)).take 16=zero16:=rfl
  by_cases h0:l.length=0
  ·rw[vecM_none _ h0]
   simp only[sf_vect,putAll,cdD,wal,stV,seval,iteOmega,toNatUp,reduceCtorEq,h0]
   refine sD (put_in G 1 16 (by decide)) ?_
   refine sD (code_f G key (putL 1 16) h (by rw[putL_length]; decide)) ?_
   exact qf1
  ·rw[vecM_some _ h0]
   have e1:(((l.length:Int)-1).toNat)=l.length-1:=by omega
   have e2:(l.take (l.length-1)).length=l.length-1:=by rw[List.length_take]; omega
   have e3:((l.length-1:Nat):Int)=(l.length:Int)-1:=by omega
   simp only[sf_vect,putAll,cdD,wal,stV,seval,iteOmega,toNatUp,reduceCtorEq,z16]
   refine st_call (code_f G key zero16 h (by decide)) (by simp only[wal,stV,seval,iteOmega,toNatUp,reduceCtorEq,take_map,t0,repL_len,cdD]) (.inr (fl_b _ _)) ?_
   simp only[wal,stV,seval,iteOmega,toNatUp,reduceCtorEq,e1,e2,e3,allSz_ls]
   refine loop_st (vecSt key l) (fun i=>l.length-1-i) (fun i=>i≤l.length-1) 0 (Nat.zero_le _) ?_ ?_
   ·refine ent_l (fun i=>128) ?_ ?_ rfl rfl <;> simp only[wx,wex,wez,stV,seval,iteOmega,toNatUp,reduceCtorEq,vecD,e2,e3]
   ·intro i hi
    have hd:=vecD_len (rkK key) l i
    by_cases hlt:i<l.length-1
    ·have g1:(l.take (l.length-1))[i]?=some (l.getD i []):=by rw[List.getElem?_take,if_pos hlt,getL_lt (by omega)]
     have hx:=hb _ (getL_mem (l:=l) (j:=i) (by omega))
     have hs:xorP (dblL (vecD (rkK key) l i)) (macM (rkK key) (l.getD i []))=vecD (rkK key) l (i+1):=rfl
     have h1:=dbb_c G (vecD (rkK key) l i) (by omega)
     have h2:=code_c G key (l.getD i []) h (by omega)
     have h3:=cmb_c G (dblL (vecD (rkK key) l i)) (macM (rkK key) (l.getD i [])) (dblL_len hd) (macM_len _ _)
     rw[hs] at h3
     simp only[lp_vect_0,vecSt,wal,stV,seval,iteOmega,toNatUp,reduceCtorEq,get_map,g1,e2,e3]
     refine sD (h1) ?_
     refine sD (h2) ?_
     refine sD (h3) ?_
     refine lop_next (i+1) (by omega) (by omega) (ent_l (fun i=>i) ?_ ?_ rfl rfl) <;> simp only[wx,wex,wez,stV,seval,iteOmega,toNatUp,reduceCtorEq]
    ·obtain rfl:i=l.length-1:=by omega
     have g1:l[l.length-1]?=some (l.getD (l.length-1) []):=getL_lt (by omega)
     have hx:=hb _ (getL_mem (l:=l) (j:=l.length-1) (by omega))
     have h1:=clsd_c G (l.getD (l.length-1) []) (vecD (rkK key) l (l.length-1)) (by omega) hd
     have hcl:∀ s d:List UInt8,s.length≤65535→d.length=16→(if 16≤s.length then s.take (s.length-16)++xorP (s.drop (s.length-16)) d else xorP (dblL d) (padL (s++[128]))).length≤70000:=by
       intro s d h1 h2
       split
       ·rw[List.length_append,xorP_len,← List.length_append,List.take_append_drop]; omega
       ·rw[xorP_len,dblL_len h2]; decide
     have h2:=code_f G key _ h (hcl _ _ hx hd)
     simp only[lp_vect_0,vecSt,wal,stV,seval,iteOmega,toNatUp,reduceCtorEq,get_map,g1,e1,e3]
     refine sD (h1) ?_
     refine sD (h2) ?_
     exact qf1
def longL (l:List (List UInt8)):Bool:=l.any fun x=>decide (65535<x.length)
def vctE (key:List UInt8) (l:List (List UInt8)):Int:=if key.length≠16 then 5 else if 17<l.length then 8 else if longL l=true then 2 else 0
def vctV (key:List UInt8) (l:List (List UInt8)):List UInt8:=if key.length=16∧l.length≤17∧longL l=false then vecM (rkK key) l else []
theorem longL_no {l:List (List UInt8)} (h:∀ j,j<l.length→(l.getD j []).length≤65535):longL l=false:=by
  unfold longL
  rw[List.any_eq_false]
  intro x hx
  obtain⟨j,hj,rfl⟩:=List.getElem_of_mem hx
  have:=h j hj
  rw[List.getD_eq_getElem?_getD,List.getElem?_eq_getElem hj] at this
  simpa using this
theorem longL_yes {l:List (List UInt8)} {j:Nat} (hj:j<l.length) (h:65535<(l.getD j []).length):longL l=true:=by
  unfold longL
  rw[List.any_eq_true]
  exact⟨_,getL_mem hj,decide_eq_true h⟩
theorem longL_all {l:List (List UInt8)} (h:longL l=false):∀ x∈l,x.length≤65535:=by
  unfold longL at h
  rw[List.any_eq_false] at h
  intro x hx
  have:=h x hx
  simpa using this
def vctSt (key:List UInt8) (l:List (List UInt8)) (i:Nat):St:=⟨ofL [(1,.w (.c (.d (.sl (l.map fun l=>D.sl (l.map bD)))))),(6,.w (.c (.ptr 1 1 0 0))),(21,.w (.c (.d (.sl (l.map fun l=>D.sl (l.map bD)))))),(22,.w (.c (.d (.int .i64 (l.length:Int))))),(23,.w (.c (.d (.int .i64 (i:Int)))))],hL [(1,.box [.d (.sl (key.map bD)),.d (.sl ((sub1 (rkK key)).map bD)),.d (.sl ((sub2 (rkK key)).map bD))])],uL [1]⟩
def lp_vctr_0:SCode :=
 .seq (.reg [oO 24 (.bin .lss (.t 23) (.t 22))])
 (.seq (.cond (.t 24) (.skip)
 (.exit 0))
 (.seq (.block 1 (.seq (.reg [oO 25 (.idxSl 1 (.t 21) (.t 23)),
 oO 26 (.load .sc (.t 25)),
 oM 9 26])
 (.seq (.reg [oM 27 9,
 oO 28 (.len (.t 27)),
 oO 29 (.bin .gtr (.t 28) (kI 65535))])
 (.cond (.t 29) (.seq (.reg [oO 4 (.mv (.k (.c .nil))),
 oO 5 (.mv (kI 2))])
 (.ret))
 (.skip)))))
 (.reg [oO 30 (.bin .add (.t 23) (kI 1)),
 oM 23 30])))
def sf_vctr:SFn:=⟨2,34,
 .seq (.reg [oO 4 (.mv (.k (.c .nil))),
 oO 5 (.mv (kI 0))])
 (.seq (.reg [oM 11 0,
 oO 12 (.call 101 [(.t 11)] none),
 oM 10 12,
 oO 13 (.extract (.t 10) 0),
 oO 14 (.extract (.t 10) 1),
 oO 6 (.alloc [.nil,.nil,.nil]),
 oN (.store (.ag 3) (.t 6) (.t 13)),
 oM 7 14])
 (.seq (.seq (.reg [oM 15 7,
 oO 16 (.bin .neq (.t 15) (kI 0))])
 (.cond (.t 16) (.seq (.reg [oM 17 7,
 oO 4 (.mv (.k (.c .nil))),
 oM 5 17])
 (.ret))
 (.skip)))
 (.seq (.seq (.reg [oM 18 1,
 oO 19 (.len (.t 18)),
 oO 20 (.bin .gtr (.t 19) (kI 17))])
 (.cond (.t 20) (.seq (.reg [oO 4 (.mv (.k (.c .nil))),
 oO 5 (.mv (kI 8))])
 (.ret))
 (.skip)))
 (.seq (.seq (.reg [oM 21 1,
 oO 22 (.len (.t 21)),
 oO 23 (.mv (kI 0))])
 (.block 0 (.loop lp_vctr_0)))
 (.seq (.reg [oO 31 (.load (.ag 3) (.t 6)),
 oM 32 1,
 oO 33 (.call 102 [(.t 31),(.t 32)] (some (0,1))),
 oM 4 33,
 oO 5 (.mv (kI 0))])
 (.ret)))))),
 [(4,none),(5,none)]⟩
theorem cf_vctr:compFn Tryz.prog { own:=[33],comp:=[],frz:=[],nils:=[] } Tryz.f86=some sf_vctr:=by kernel_rfl
theorem vctr_f (G:Glob) (key:List UInt8) (l:List (List UInt8)) (hk:key.length≤9223372036854775807) (hl:l.length≤9223372036854775807) (hb:∀ x∈l,x.length≤9223372036854775807):Den Tryz.prog G 86 [.sl (key.map bD),.sl (l.map fun l=>D.sl (l.map bD))] (.tup [.c (.fr 1 ((vctV key l).map bD)),.c (.d (.int .i64 (vctE key l)))]):=by
  refine den_walk Tryz.func86 cf_vctr rfl rfl ?_
  have hx:=cdof_c G key hk
  unfold vctV vctE
  by_cases h:key.length=16
  ·have hv:cdV key=cdD key:=if_pos h
   have he:keyE key=0:=by unfold keyE; rw[if_neg (by omega)]
   rw[hv,he] at hx
   by_cases h2:l.length≤17
   ·rw[if_neg (by omega:¬ key.length≠16),if_neg (by omega:¬ 17<l.length)]
    simp only[sf_vctr,putAll,wal,stV,seval,iteOmega,toNatUp,reduceCtorEq]
    refine sC (hx) ?_
    simp only[cdD,wal,stV,seval,iteOmega,toNatUp,reduceCtorEq]
    refine loop_st (vctSt key l) (fun i=>l.length-i) (fun i=>i≤l.length∧∀ j,j<i→(l.getD j []).length≤65535) 0 ⟨Nat.zero_le _,fun j hj=>by omega⟩ ?_ ?_
    ·refine ent_l (fun i=>48) ?_ ?_ rfl rfl <;> simp only[wx,wex,wez,stV,seval,iteOmega,toNatUp,reduceCtorEq]
    ·rintro i ⟨hi,hok⟩
     by_cases hlt:i<l.length
     ·have g1:=getL_lt hlt
      have hx:=hb _ (getL_mem hlt)
      by_cases hlong:65535<(l.getD i []).length
      ·have hL:=longL_yes hlt hlong
       rw[hL,if_neg (by simp),if_pos rfl]
       simp only[lp_vctr_0,vctSt,wal,stV,seval,iteOmega,toNatUp,reduceCtorEq,get_map,g1]
       exact qf2
      ·simp only[lp_vctr_0,vctSt,wal,stV,seval,iteOmega,toNatUp,reduceCtorEq,get_map,g1]
       refine lop_next (i+1) (by omega) ⟨by omega,fun j hj=>?_⟩ (ent_l (fun i=>i) ?_ ?_ rfl rfl)
       ·rcases Nat.lt_or_ge j i with h | h
        ·exact hok j h
        ·obtain rfl:j=i:=by omega
         omega
       all_goals simp only[wx,wex,wez,stV,seval,iteOmega,toNatUp,reduceCtorEq]
     ·have hL:=longL_no (l:=l) (fun j hj=>hok j (by omega))
      rw[hL,if_pos ⟨h,h2,rfl⟩,if_neg (by simp)]
      simp only[lp_vctr_0,vctSt,wal,stV,seval,iteOmega,toNatUp,reduceCtorEq]
      refine sD (vect_f G key l h h2 (longL_all hL)) ?_
      exact qf2
   ·rw[if_neg (by omega),if_neg (by omega),if_pos (by omega)]
    have h3:17<l.length:=by omega
    simp only[sf_vctr,putAll,wal,stV,seval,iteOmega,toNatUp,reduceCtorEq]
    refine sC (hx) ?_
    simp only[cdD,wal,stV,seval,iteOmega,toNatUp,reduceCtorEq]
    exact qf2
  ·have hv:cdV key=.agg [.sl [],.sl [],.sl []]:=if_neg h
   have he:keyE key=5:=if_pos h
   rw[hv,he] at hx
   rw[if_neg (by omega),if_pos h]
   simp only[sf_vctr,putAll,wal,stV,seval,iteOmega,toNatUp,reduceCtorEq]
   refine sD (hx) ?_
   exact qf2
set_option maxHeartbeats 6400000
theorem blockC_rk (key b:List UInt8):blockC key b=encK (rkK key) b:=rfl
def rcV (key b:List UInt8):Nat→V
  | 0=>.w (.c (.own 1 1 0 16))
  | i+1=>.w (.c (.d (.sl ((cbcM (rkK key) b (i+1)).map bD))))
def rcStM (key b:List UInt8) (last:Int) (i:Nat):St:=⟨ofL [(1,.w (.c (.d (.sl (b.map bD))))),(2,.w (.c (.rp ((macM4 key).map bD)))),(5,.w (.c (.d (.sl ((sub1 (rkK key)).map bD))))),(6,.w (.c (.d (.int .i64 last)))),(7,rcV key b i),(8,.w (.c (.d (.int .i64 ((16*i:Nat):Int)))))],hL [(1,.row 1 ((repL 16 (0:UInt8)).map bD))],uL [1]⟩
theorem slice16 (b:List UInt8) (i:Nat):(b.drop (16*i)).take (16*i+16-16*i)=(b.drop (16*i)).take 16:=by rw[show 16*i+16-16*i=16 by omega]
def lp_rmcc_0:SCode :=
 .seq (.seq (.reg [oM 24 8,
 oM 25 6,
 oO 26 (.bin .lss (.t 24) (.t 25))])
 (.cond (.t 26) (.skip)
 (.exit 0)))
 (.seq (.block 1 (.reg [oO 29 (.load (.ag 688) (.t 2)),
 oM 30 7,
 oM 31 1,
 oM 32 8,
 oM 33 8,
 oO 34 (.bin .add (.t 33) (kI 16)),
 oO 35 (.slice 1 (.t 31) (some (.t 32)) (some (.t 34)) none),
 oO 36 (.call 94 [(.t 30),(.t 35)] none),
 oO 37 (.call 81 [(.t 29),(.t 36)] none),
 oM 7 37]))
 (.reg [oM 27 8,
 oO 28 (.bin .add (.t 27) (kI 16)),
 oM 8 28]))
def sf_rmcc:SFn:=⟨2,61,
 .seq (.reg [oO 2 (.box .roBox (.t 0)),
 oO 4 (.mv (.k (.c .nil)))])
 (.seq (.reg [oO 10 (.load (.ag 688) (.t 2)),
 oO 11 (.make true 1 1 (.int .u8 0) (kI 16) (kI 16)),
 oO 12 (.call 81 [(.t 10),(.t 11)] none),
 oO 13 (.call 95 [(.t 12)] none),
 oM 5 13])
 (.seq (.reg [oM 14 1,
 oO 15 (.len (.t 14)),
 oO 16 (.bin .add (.t 15) (kI 15)),
 oO 17 (.bin .quo (.t 16) (kI 16)),
 oO 18 (.bin .mul (.t 17) (kI 16)),
 oO 19 (.bin .sub (.t 18) (kI 16)),
 oM 6 19])
 (.seq (.seq (.reg [oM 20 1,
 oO 21 (.len (.t 20)),
 oO 22 (.bin .eql (.t 21) (kI 0))])
 (.cond (.t 22) (.reg [oO 6 (.mv (kI 0))])
 (.skip)))
 (.seq (.reg [oO 23 (.make true 1 1 (.int .u8 0) (kI 16) (kI 16)),
 oM 7 23])
 (.seq (.seq (.reg [oO 8 (.mv (kI 0))])
 (.block 0 (.loop lp_rmcc_0)))
 (.seq (.reg [oM 38 1,
 oM 39 6,
 oO 40 (.slice 1 (.t 38) (some (.t 39)) none none),
 oO 41 (.bldSl false 1 1 (.sl []) [(0,(.t 40))]),
 oO 42 (.call 36 [(.t 41)] (some (0,1))),
 oM 9 42])
 (.seq (.seq (.reg [oM 43 9,
 oO 44 (.len (.t 43)),
 oO 45 (.bin .eql (.t 44) (kI 16))])
 (.cond (.t 45) (.reg [oM 46 9,
 oM 47 5,
 oO 48 (.call 94 [(.t 46),(.t 47)] none),
 oM 9 48])
 (.reg [oM 49 9,
 oO 50 (.bldSl false 1 1 (.int .u8 0) [(0,(.k (.c (.d (.int .u8 128)))))]),
 oO 51 (.app false 1 1 (.t 49) (.t 50)),
 oO 52 (.call 96 [(.t 51),(kI 16)] none),
 oM 53 5,
 oO 54 (.call 95 [(.t 53)] none),
 oO 55 (.call 94 [(.t 52),(.t 54)] none),
 oM 9 55])))
 (.seq (.reg [oO 56 (.load (.ag 688) (.t 2)),
 oM 57 7,
 oM 58 9,
 oO 59 (.call 94 [(.t 57),(.t 58)] none),
 oO 60 (.call 81 [(.t 56),(.t 59)] (some (0,1))),
 oM 4 60])
 (.ret))))))))),
 [(4,none)]⟩
theorem cf_rmcc:compFn Tryz.prog { own:=[42,60],comp:=[],frz:=[],nils:=[] } Tryz.f93=some sf_rmcc:=by kernel_rfl
set_option maxRecDepth 20000 in
theorem rmcc_f (G:Glob) (key b:List UInt8) (h:key.length=16) (hb:b.length≤70000):Den Tryz.prog G 93 [.agg ((macM4 key).map bD),.sl (b.map bD)] (.w (.c (.fr 1 ((macM (rkK key) b).map bD)))):=by
  refine den_walk Tryz.func93 cf_rmcc rfl rfl ?_
  have t0:(repL 16 (0:UInt8)).take 16=zero16:=rfl
  have hM:=macM4_len h
  have t1:(macM4 key).take 688=macM4 key:=List.take_of_length_le (by omega)
  have hah:aheadM b=(b.length+15) / 16-1:=rfl
  have hm:∀ i,i=aheadM b→macM (rkK key) b=encK (rkK key) (xorP (cbcM (rkK key) b i) (endM (rkK key) (b.drop (16*i)))):=fun i e=>by rw[e]; rfl
  have hr0:=renc_c G key zero16 h (by decide)
  have h1:=rdbb_c G (encK (rkK key) zero16) (by rw[encK_len]; decide)
  have s1:dblL (encK (rkK key) zero16)=sub1 (rkK key):=rfl
  rw[s1] at h1
  rw[blockC_rk] at hr0
  have td:Int.tdiv ((b.length:Int)+15) 16=(((b.length+15) / 16:Nat):Int):=rfl
  have step:∀ i,i<aheadM b→((b.drop (16*i)).take 16).length=16:=fun i hi=>by rw[List.length_take,List.length_drop]; omega
  simp only[sf_rmcc,putAll,wal,stV,seval,iteOmega,toNatUp,reduceCtorEq,z16,allDn_bs,len_map,hM,take_map,t1]
  refine st_call hr0 (by simp only[wal,stV,seval,iteOmega,toNatUp,reduceCtorEq,take_map,t0,repL_len]) (.inr (fl_b _ _)) ?_
  simp only[wal,stV,seval,iteOmega,toNatUp,reduceCtorEq]
  refine sC (h1) ?_
  simp only[td,z16,wal,stV,seval,iteOmega,toNatUp,reduceCtorEq]
  by_cases hb0:b.length=0
  ·have hz0:aheadM b=0:=by omega
   simp only[wal,stV,seval,iteOmega,toNatUp,reduceCtorEq,z16]
   refine loop_st (rcStM key b (0)) (fun i=>aheadM b-i) (fun i=>i≤aheadM b) 0 (Nat.zero_le _) ?_ ?_
   ·refine ent_l (fun i=>184) ?_ ?_ rfl rfl <;> simp only[wx,wex,wez,stV,seval,iteOmega,toNatUp,reduceCtorEq,rcV]
   ·intro i hi
    have hcl:(b.drop (16*i)).length=b.length-16*i:=List.length_drop
    have hsl:=slice16 b i
    by_cases hlt:i<aheadM b
    ·exact absurd hlt (by omega)
    ·rw[hm i (by omega)]
     have hie:16*(aheadM b:Int)=16*(i:Int):=by omega
     have hl16:(b.drop (16*i)).length≤16:=by omega
     have ht:(b.drop (16*i)).take (b.length-16*i)=b.drop (16*i):=List.take_of_length_le (by omega)
     have toN:(0:Int).toNat=16*i:=by omega
     have e1:=rjoin_c G [b.drop (16*i)] (by simp) (by simp; omega)
     have hf:[b.drop (16*i)].flatten=b.drop (16*i):=by simp
     rw[hf] at e1
     have k1:=rxor_c G (cbcM (rkK key) b i) (endM (rkK key) (b.drop (16*i))) (by rw[cbcM_len]; decide) (by rw[endM_len hl16]; decide)
     have k2:=renc_c G key (xorP (cbcM (rkK key) b i) (endM (rkK key) (b.drop (16*i)))) h (by rw[xorP_len,cbcM_len])
     rw[blockC_rk] at k2
     have ht2:(b.drop (16*i)).take b.length=b.drop (16*i):=List.take_of_length_le (by omega)
     generalize hc:b.drop (16*i)=c at *
     have tc:c.take c.length=c:=List.take_length
     by_cases h16:c.length=16
     ·have tc16:c.take 16=c:=by rw[← h16]; exact tc
      have q1:=rxor_c G c (sub1 (rkK key)) (by omega) (by rw[sub1_len]; decide)
      rw[endM_full _ h16] at k1 k2 ⊢
      rcases i with _ | i
      ·have hz:cbcM (rkK key) b 0=zero16:=rfl
       rw[hz] at k1 k2 ⊢
       simp only[lp_rmcc_0,rcStM,rcV,wal,stV,seval,iteOmega,toNatUp,reduceCtorEq,toN,hc,ht,ht2]
       refine sC (e1) ?_
       simp only[h16,wal,stV,seval,iteOmega,toNatUp,reduceCtorEq]
       refine st_call q1 (by simp only[wal,stV,seval,iteOmega,toNatUp,reduceCtorEq,take_map,tc16,h16]) (.inr (fl_b _ _)) ?_
       simp only[wal,stV,seval,iteOmega,toNatUp,reduceCtorEq,len_map,hM,take_map,t1]
       refine st_call k1 (by simp only[wal,stV,seval,iteOmega,toNatUp,reduceCtorEq,take_map,t0,repL_len]) (.inr (fl_b _ _)) ?_
       simp only[wal,stV,seval,iteOmega,toNatUp,reduceCtorEq]
       refine sD (k2) ?_
       exact qf1
      ·exact absurd hi (by omega)
     ·have p1:=rpad_c G (c++[128]) 16 (by simp; omega)
      rw[padN_16] at p1
      have p2:=rdbb_c G (sub1 (rkK key)) (by rw[sub1_len]; decide)
      have s2:dblL (sub1 (rkK key))=sub2 (rkK key):=rfl
      rw[s2] at p2
      have p3:=rxor_c G (padL (c++[128])) (sub2 (rkK key)) (by rw[padL_short (by omega)]; decide) (by rw[sub2_len]; decide)
      have b128:c.map bD++[D.int .u8 128]=(c++[128]).map bD:=by rw[List.map_append]; rfl
      have tc2:(c++[128]).take (c.length+1)=c++[128]:=List.take_of_length_le (by simp)
      rw[endM_part _ h16] at k1 k2 ⊢
      have lc:(c++[(128:UInt8)]).length=c.length+1:=by simp
      rcases i with _ | i
      ·have hz:cbcM (rkK key) b 0=zero16:=rfl
       rw[hz] at k1 k2 ⊢
       simp only[lp_rmcc_0,rcStM,rcV,wal,stV,seval,iteOmega,toNatUp,reduceCtorEq,toN,hc,ht,ht2]
       refine sC (e1) ?_
       simp only[srcV,b128,wal,stV,seval,iteOmega,toNatUp,reduceCtorEq]
       refine st_call p1 (by simp only[wal,stV,seval,iteOmega,toNatUp,reduceCtorEq,take_map,tc2,lc]) (.inr (fl_b _ _)) ?_
       simp only[wal,stV,seval,iteOmega,toNatUp,reduceCtorEq]
       refine sD (p2) ?_
       refine sC (p3) ?_
       simp only[len_map,hM,take_map,t1,wal,stV,seval,iteOmega,toNatUp,reduceCtorEq]
       refine st_call k1 (by simp only[wal,stV,seval,iteOmega,toNatUp,reduceCtorEq,take_map,t0,repL_len]) (.inr (fl_b _ _)) ?_
       simp only[wal,stV,seval,iteOmega,toNatUp,reduceCtorEq]
       refine sD (k2) ?_
       exact qf1
      ·exact absurd hi (by omega)
  ·have hp:0<b.length:=by omega
   simp only[wal,stV,seval,iteOmega,toNatUp,reduceCtorEq,z16]
   refine loop_st (rcStM key b (((((b.length+15) / 16:Nat):Int)*16-16))) (fun i=>aheadM b-i) (fun i=>i≤aheadM b) 0 (Nat.zero_le _) ?_ ?_
   ·refine ent_l (fun i=>184) ?_ ?_ rfl rfl <;> simp only[wx,wex,wez,stV,seval,iteOmega,toNatUp,reduceCtorEq,rcV]
   ·intro i hi
    have hcl:(b.drop (16*i)).length=b.length-16*i:=List.length_drop
    have hsl:=slice16 b i
    by_cases hlt:i<aheadM b
    ·have hT:=step i hlt
     have hstep:encK (rkK key) (xorP (cbcM (rkK key) b i) ((b.drop (16*i)).take 16))=cbcM (rkK key) b (i+1):=rfl
     have k1:=rxor_c G (cbcM (rkK key) b i) ((b.drop (16*i)).take 16) (by rw[cbcM_len]; decide) (by omega)
     have k2:=renc_c G key (xorP (cbcM (rkK key) b i) ((b.drop (16*i)).take 16)) h (by rw[xorP_len,cbcM_len])
     rw[blockC_rk,hstep] at k2
     rcases i with _ | i
     ·have hz:cbcM (rkK key) b 0=zero16:=rfl
      rw[hz] at k1 k2
      simp only[Nat.mul_zero,List.drop_zero,Nat.zero_add,Nat.sub_zero] at hsl
      simp only[lp_rmcc_0,rcStM,rcV,wal,stV,seval,iteOmega,toNatUp,reduceCtorEq,len_map,hM,take_map,t1,hsl]
      refine st_call k1 (by simp only[wal,stV,seval,iteOmega,toNatUp,reduceCtorEq,take_map,t0,repL_len]) (.inr (fl_b _ _)) ?_
      simp only[wal,stV,seval,iteOmega,toNatUp,reduceCtorEq]
      refine sD (k2) ?_
      refine lop_next (0+1) (by omega) (by omega) (ent_l (fun i=>i) ?_ ?_ rfl rfl) <;> simp only[wx,wex,wez,stV,seval,iteOmega,toNatUp,reduceCtorEq,rcV]
     ·simp only[lp_rmcc_0,rcStM,rcV,wal,stV,seval,iteOmega,toNatUp,reduceCtorEq,len_map,hM,take_map,t1,hsl]
      refine sD (k1) ?_
      refine sD (k2) ?_
      refine lop_next (i+1+1) (by omega) (by omega) (ent_l (fun i=>i) ?_ ?_ rfl rfl) <;> simp only[wx,wex,wez,stV,seval,iteOmega,toNatUp,reduceCtorEq,rcV]
      rw[show (16*((i:Int)+1)+16)=16*((i:Int)+1+1) by omega]
    ·rw[hm i (by omega)]
     have hie:16*(aheadM b:Int)=16*(i:Int):=by omega
     have hl16:(b.drop (16*i)).length≤16:=by omega
     have ht:(b.drop (16*i)).take (b.length-16*i)=b.drop (16*i):=List.take_of_length_le (by omega)
     have toN:(((((b.length+15) / 16:Nat):Int)*16-16):Int).toNat=16*i:=by omega
     have e1:=rjoin_c G [b.drop (16*i)] (by simp) (by simp; omega)
     have hf:[b.drop (16*i)].flatten=b.drop (16*i):=by simp
     rw[hf] at e1
     have k1:=rxor_c G (cbcM (rkK key) b i) (endM (rkK key) (b.drop (16*i))) (by rw[cbcM_len]; decide) (by rw[endM_len hl16]; decide)
     have k2:=renc_c G key (xorP (cbcM (rkK key) b i) (endM (rkK key) (b.drop (16*i)))) h (by rw[xorP_len,cbcM_len])
     rw[blockC_rk] at k2
     have ht2:(b.drop (16*i)).take b.length=b.drop (16*i):=List.take_of_length_le (by omega)
     generalize hc:b.drop (16*i)=c at *
     have tc:c.take c.length=c:=List.take_length
     by_cases h16:c.length=16
     ·have tc16:c.take 16=c:=by rw[← h16]; exact tc
      have q1:=rxor_c G c (sub1 (rkK key)) (by omega) (by rw[sub1_len]; decide)
      rw[endM_full _ h16] at k1 k2 ⊢
      rcases i with _ | i
      ·have hz:cbcM (rkK key) b 0=zero16:=rfl
       rw[hz] at k1 k2 ⊢
       simp only[lp_rmcc_0,rcStM,rcV,wal,stV,seval,iteOmega,toNatUp,reduceCtorEq,toN,hc,ht,ht2]
       refine sC (e1) ?_
       simp only[h16,wal,stV,seval,iteOmega,toNatUp,reduceCtorEq]
       refine st_call q1 (by simp only[wal,stV,seval,iteOmega,toNatUp,reduceCtorEq,take_map,tc16,h16]) (.inr (fl_b _ _)) ?_
       simp only[wal,stV,seval,iteOmega,toNatUp,reduceCtorEq,len_map,hM,take_map,t1]
       refine st_call k1 (by simp only[wal,stV,seval,iteOmega,toNatUp,reduceCtorEq,take_map,t0,repL_len]) (.inr (fl_b _ _)) ?_
       simp only[wal,stV,seval,iteOmega,toNatUp,reduceCtorEq]
       refine sD (k2) ?_
       exact qf1
      ·simp only[lp_rmcc_0,rcStM,rcV,wal,stV,seval,iteOmega,toNatUp,reduceCtorEq,toN,hc,ht,ht2]
       refine sC (e1) ?_
       simp only[h16,wal,stV,seval,iteOmega,toNatUp,reduceCtorEq]
       refine st_call q1 (by simp only[wal,stV,seval,iteOmega,toNatUp,reduceCtorEq,take_map,tc16,h16]) (.inr (fl_b _ _)) ?_
       simp only[wal,stV,seval,iteOmega,toNatUp,reduceCtorEq,len_map,hM,take_map,t1]
       refine sD (k1) ?_
       refine sD (k2) ?_
       exact qf1
     ·have p1:=rpad_c G (c++[128]) 16 (by simp; omega)
      rw[padN_16] at p1
      have p2:=rdbb_c G (sub1 (rkK key)) (by rw[sub1_len]; decide)
      have s2:dblL (sub1 (rkK key))=sub2 (rkK key):=rfl
      rw[s2] at p2
      have p3:=rxor_c G (padL (c++[128])) (sub2 (rkK key)) (by rw[padL_short (by omega)]; decide) (by rw[sub2_len]; decide)
      have b128:c.map bD++[D.int .u8 128]=(c++[128]).map bD:=by rw[List.map_append]; rfl
      have tc2:(c++[128]).take (c.length+1)=c++[128]:=List.take_of_length_le (by simp)
      rw[endM_part _ h16] at k1 k2 ⊢
      have lc:(c++[(128:UInt8)]).length=c.length+1:=by simp
      rcases i with _ | i
      ·have hz:cbcM (rkK key) b 0=zero16:=rfl
       rw[hz] at k1 k2 ⊢
       simp only[lp_rmcc_0,rcStM,rcV,wal,stV,seval,iteOmega,toNatUp,reduceCtorEq,toN,hc,ht,ht2]
       refine sC (e1) ?_
       simp only[srcV,b128,wal,stV,seval,iteOmega,toNatUp,reduceCtorEq]
       refine st_call p1 (by simp only[wal,stV,seval,iteOmega,toNatUp,reduceCtorEq,take_map,tc2,lc]) (.inr (fl_b _ _)) ?_
       simp only[wal,stV,seval,iteOmega,toNatUp,reduceCtorEq]
       refine sD (p2) ?_
       refine sC (p3) ?_
       simp only[len_map,hM,take_map,t1,wal,stV,seval,iteOmega,toNatUp,reduceCtorEq]
       refine st_call k1 (by simp only[wal,stV,seval,iteOmega,toNatUp,reduceCtorEq,take_map,t0,repL_len]) (.inr (fl_b _ _)) ?_
       simp only[wal,stV,seval,iteOmega,toNatUp,reduceCtorEq]
       refine sD (k2) ?_
       exact qf1
      ·simp only[lp_rmcc_0,rcStM,rcV,wal,stV,seval,iteOmega,toNatUp,reduceCtorEq,toN,hc,ht,ht2]
       refine sC (e1) ?_
       simp only[srcV,b128,wal,stV,seval,iteOmega,toNatUp,reduceCtorEq]
       refine st_call p1 (by simp only[wal,stV,seval,iteOmega,toNatUp,reduceCtorEq,take_map,tc2,lc]) (.inr (fl_b _ _)) ?_
       simp only[wal,stV,seval,iteOmega,toNatUp,reduceCtorEq]
       refine sD (p2) ?_
       refine sC (p3) ?_
       simp only[len_map,hM,take_map,t1,wal,stV,seval,iteOmega,toNatUp,reduceCtorEq]
       refine sD (k1) ?_
       refine sD (k2) ?_
       exact qf1
theorem rmcc_c (G:Glob) (key b:List UInt8) (h:key.length=16) (hb:b.length≤70000):Den Tryz.prog G 93 [.agg ((macM4 key).map bD),.sl (b.map bD)] (.w (.c (.d (.sl ((macM (rkK key) b).map bD))))):=den_ro (rmcc_f G key b h hb)
def rv0St (key:List UInt8) (l:List (List UInt8)) (i:Nat):St:=⟨ofL [(0,.w (.c (.d (.sl (key.map bD))))),(1,.w (.c (.d (.sl (l.map fun l=>D.sl (l.map bD)))))),(6,.w (.c (.d (.int .i64 (i:Int)))))],hL [],uL []⟩
def rv1St (key:List UInt8) (l:List (List UInt8)) (i:Nat):St:=⟨ofL [(1,.w (.c (.d (.sl (l.map fun l=>D.sl (l.map bD)))))),(7,.w (.c (.ptr 2 1 0 0))),(9,.w (.c (.d (.sl ((vecD (rkK key) l i).map bD))))),(10,.w (.c (.d (.int .i64 (i:Int)))))],hL [(1,.row 1 ((repL 16 (0:UInt8)).map bD)),(2,.box ((macM4 key).map bC))],uL [1,2]⟩
theorem one16:(repL 16 (0:UInt8)).set 15 1=putL 1 16:=by decide
theorem vecM_long (rk:List UInt8) {l:List (List UInt8)} {s d:List UInt8} (h:l.length≠0) (hs:l.getD (l.length-1) []=s) (hd:vecD rk l (l.length-1)=d) (h16:16≤s.length):vecM rk l=macM rk (s.take (s.length-16)++xorP (s.drop (s.length-16)) d):=by
  rw[vecM_some rk h,hs,hd,if_pos h16]
theorem vecM_short (rk:List UInt8) {l:List (List UInt8)} {s d:List UInt8} (h:l.length≠0) (hs:l.getD (l.length-1) []=s) (hd:vecD rk l (l.length-1)=d) (h16:s.length<16):vecM rk l=macM rk (xorP (dblL d) (padL (s++[128]))):=by
  rw[vecM_some rk h,hs,hd,if_neg (by omega)]
def lp_rvctr_0:SCode :=
 .seq (.seq (.reg [oM 19 6,
 oM 20 1,
 oO 21 (.len (.t 20)),
 oO 22 (.bin .lss (.t 19) (.t 21))])
 (.cond (.t 22) (.skip)
 (.exit 0)))
 (.seq (.block 1 (.seq (.reg [oM 25 1,
 oM 26 6,
 oO 27 (.idxSl 1 (.t 25) (.t 26)),
 oO 28 (.load .sc (.t 27)),
 oO 29 (.len (.t 28)),
 oO 30 (.bin .gtr (.t 29) (kI 65535))])
 (.cond (.t 30) (.seq (.reg [oO 4 (.mv (.k (.c .nil))),
 oO 5 (.mv (kI 2))])
 (.ret))
 (.skip))))
 (.reg [oM 23 6,
 oO 24 (.bin .add (.t 23) (kI 1)),
 oM 6 24]))
def lp_rvctr_1:SCode :=
 .seq (.seq (.reg [oM 45 10,
 oM 46 1,
 oO 47 (.len (.t 46)),
 oO 48 (.bin .sub (.t 47) (kI 1)),
 oO 49 (.bin .lss (.t 45) (.t 48))])
 (.cond (.t 49) (.skip)
 (.exit 2)))
 (.seq (.block 3 (.reg [oM 52 9,
 oO 53 (.call 95 [(.t 52)] none),
 oO 54 (.loadB (.ag 688) (.t 7)),
 oM 55 1,
 oM 56 10,
 oO 57 (.idxSl 1 (.t 55) (.t 56)),
 oO 58 (.load .sc (.t 57)),
 oO 59 (.call 93 [(.t 54),(.t 58)] none),
 oO 60 (.call 94 [(.t 53),(.t 59)] none),
 oM 9 60]))
 (.reg [oM 50 10,
 oO 51 (.bin .add (.t 50) (kI 1)),
 oM 10 51]))
def sf_rvctr:SFn:=⟨2,96,
 .seq (.reg [oO 4 (.mv (.k (.c .nil))),
 oO 5 (.mv (kI 0))])
 (.seq (.seq (.reg [oM 13 0,
 oO 14 (.len (.t 13)),
 oO 15 (.bin .neq (.t 14) (kI 16))])
 (.cond (.t 15) (.seq (.reg [oO 4 (.mv (.k (.c .nil))),
 oO 5 (.mv (kI 5))])
 (.ret))
 (.skip)))
 (.seq (.seq (.reg [oM 16 1,
 oO 17 (.len (.t 16)),
 oO 18 (.bin .gtr (.t 17) (kI 17))])
 (.cond (.t 18) (.seq (.reg [oO 4 (.mv (.k (.c .nil))),
 oO 5 (.mv (kI 8))])
 (.ret))
 (.skip)))
 (.seq (.seq (.reg [oO 6 (.mv (kI 0))])
 (.block 0 (.loop lp_rvctr_0)))
 (.seq (.reg [oM 31 0,
 oO 32 (.call 80 [(.t 31)] none),
 oO 7 (.alloc (repL 688 (.d (.int .u8 0)))),
 oN (.store (.ag 688) (.t 7) (.t 32))])
 (.seq (.reg [oO 33 (.make true 1 1 (.int .u8 0) (kI 16) (kI 16)),
 oM 8 33])
 (.seq (.seq (.reg [oM 34 1,
 oO 35 (.len (.t 34)),
 oO 36 (.bin .eql (.t 35) (kI 0))])
 (.cond (.t 36) (.seq (.reg [oM 37 8,
 oO 38 (.idxSl 1 (.t 37) (kI 15)),
 oN (.store .sc (.t 38) (.k (.c (.d (.int .u8 1)))))])
 (.seq (.reg [oO 39 (.loadB (.ag 688) (.t 7)),
 oM 40 8,
 oO 41 (.call 93 [(.t 39),(.t 40)] (some (0,1))),
 oM 4 41,
 oO 5 (.mv (kI 0))])
 (.ret)))
 (.skip)))
 (.seq (.reg [oO 42 (.loadB (.ag 688) (.t 7)),
 oM 43 8,
 oO 44 (.call 93 [(.t 42),(.t 43)] none),
 oM 9 44])
 (.seq (.seq (.reg [oO 10 (.mv (kI 0))])
 (.block 2 (.loop lp_rvctr_1)))
 (.seq (.reg [oM 61 1,
 oM 62 1,
 oO 63 (.len (.t 62)),
 oO 64 (.bin .sub (.t 63) (kI 1)),
 oO 65 (.idxSl 1 (.t 61) (.t 64)),
 oO 66 (.load .sc (.t 65)),
 oM 11 66])
 (.seq (.seq (.reg [oM 67 11,
 oO 68 (.len (.t 67)),
 oO 69 (.bin .geq (.t 68) (kI 16))])
 (.cond (.t 69) (.seq (.reg [oM 70 11,
 oO 71 (.len (.t 70)),
 oO 72 (.bin .sub (.t 71) (kI 16)),
 oM 12 72])
 (.seq (.reg [oO 73 (.loadB (.ag 688) (.t 7)),
 oM 74 11,
 oM 75 12,
 oO 76 (.slice 1 (.t 74) none (some (.t 75)) none),
 oM 77 11,
 oM 78 12,
 oO 79 (.slice 1 (.t 77) (some (.t 78)) none none),
 oM 80 9,
 oO 81 (.call 94 [(.t 79),(.t 80)] none),
 oO 82 (.bldSl false 2 1 (.sl []) [(0,(.t 76)),(1,(.t 81))]),
 oO 83 (.call 36 [(.t 82)] none),
 oO 84 (.call 93 [(.t 73),(.t 83)] (some (0,1))),
 oM 4 84,
 oO 5 (.mv (kI 0))])
 (.ret)))
 (.skip)))
 (.seq (.reg [oO 85 (.loadB (.ag 688) (.t 7)),
 oM 86 9,
 oO 87 (.call 95 [(.t 86)] none),
 oM 88 11,
 oO 89 (.bldSl false 1 1 (.sl []) [(0,(.t 88))]),
 oO 90 (.call 36 [(.t 89)] (some (0,1))),
 oO 91 (.bldSl false 1 1 (.int .u8 0) [(0,(.k (.c (.d (.int .u8 128)))))]),
 oO 92 (.app false 1 1 (.t 90) (.t 91)),
 oO 93 (.call 96 [(.t 92),(kI 16)] none),
 oO 94 (.call 94 [(.t 87),(.t 93)] none),
 oO 95 (.call 93 [(.t 85),(.t 94)] (some (0,1))),
 oM 4 95,
 oO 5 (.mv (kI 0))])
 (.ret)))))))))))),
 [(4,none),(5,none)]⟩
theorem cf_rvctr:compFn Tryz.prog { own:=[41,84,90,95],comp:=[],frz:=[],nils:=[],bx:=[39,42,54,73,85] } Tryz.f79=some sf_rvctr:=by kernel_rfl
set_option maxRecDepth 20000 in
theorem rvctr_f (G:Glob) (key:List UInt8) (l:List (List UInt8)) (hk:key.length≤9223372036854775807) (hl:l.length≤9223372036854775807) (hb:∀ x∈l,x.length≤9223372036854775807):Den Tryz.prog G 79 [.sl (key.map bD),.sl (l.map fun l=>D.sl (l.map bD))] (.tup [.c (.fr 1 ((vctV key l).map bD)),.c (.d (.int .i64 (vctE key l)))]):=by
  refine den_walk Tryz.func79 cf_rvctr rfl rfl ?_
  unfold vctV vctE
  by_cases h:key.length=16
  ·by_cases h2:l.length≤17
   ·rw[if_neg (by omega:¬ key.length≠16),if_neg (by omega:¬ 17<l.length)]
    simp only[sf_rvctr,putAll,wal,stV,seval,iteOmega,toNatUp,reduceCtorEq]
    refine loop_st (rv0St key l) (fun i=>l.length-i) (fun i=>i≤l.length∧∀ j,j<i→(l.getD j []).length≤65535) 0 ⟨Nat.zero_le _,fun j hj=>by omega⟩ ?_ ?_
    ·refine ent_l (fun i=>0) ?_ ?_ rfl rfl <;> simp only[wx,wex,wez,stV,seval,iteOmega,toNatUp,reduceCtorEq] <;> rfl
    ·rintro i ⟨hi,hok⟩
     by_cases hlt:i<l.length
     ·have g1:=getL_lt hlt
      have hx:=hb _ (getL_mem hlt)
      by_cases hlong:65535<(l.getD i []).length
      ·have hL:=longL_yes hlt hlong
       rw[hL,if_neg (by simp),if_pos rfl]
       simp only[lp_rvctr_0,rv0St,wal,stV,seval,iteOmega,toNatUp,reduceCtorEq,get_map,g1]
       exact qf2
      ·simp only[lp_rvctr_0,rv0St,wal,stV,seval,iteOmega,toNatUp,reduceCtorEq,get_map,g1]
       refine lop_next (i+1) (by omega) ⟨by omega,fun j hj=>?_⟩ (ent_l (fun i=>i) ?_ ?_ rfl rfl)
       ·rcases Nat.lt_or_ge j i with h | h
        ·exact hok j h
        ·obtain rfl:j=i:=by omega
         omega
       all_goals simp only[wx,wex,wez,stV,seval,iteOmega,toNatUp,reduceCtorEq]
     ·have hL:=longL_no (l:=l) (fun j hj=>hok j (by omega))
      rw[hL,if_pos ⟨h,h2,rfl⟩,if_neg (by simp)]
      have hall:=longL_all hL
      have hM:=macM4_len h
      have r4:List.drop 688 (repL 688 (0:UInt8))=[]:=List.drop_eq_nil_of_le (by rw[repL_len]; omega)
      have t0:(repL 16 (0:UInt8)).take 16=zero16:=rfl
      have t1:(macM4 key).take 688=macM4 key:=List.take_of_length_le (by omega)
      simp only[lp_rvctr_0,rv0St,wal,stV,seval,iteOmega,toNatUp,reduceCtorEq,repL_bC]
      have k0:=rmcc_f G key zero16 h (by decide)
      by_cases h0:l.length=0
      ·rw[vecM_none _ h0]
       have z3:15<(repL 16 (0:UInt8)).length:=by rw[repL_len]; decide
       have z4:((repL 16 (0:UInt8)).map bD).set 15 (D.int .u8 1)=(putL 1 16).map bD:=by rw[← one16]; exact set_map bD _ 15 1
       have z5:(putL 1 16).take 16=putL 1 16:=List.take_of_length_le (by rw[putL_length]; decide)
       have z6:(putL 1 16).length=16:=putL_length _ _
       refine sC (prep_c G key h) ?_
       simp only[len_map,hM,repL_len,map_C,drop_map,app_map,r4,List.append_nil,z16,stO_bs z3 (one_int _ _),z4,take_map,t1,allD_bs,wal,stV,seval,iteOmega,toNatUp,reduceCtorEq]
       have k1:=rmcc_f G key (putL 1 16) h (by rw[putL_length]; decide)
       refine st_call k1 (by simp only[wal,stV,seval,iteOmega,toNatUp,reduceCtorEq,take_map,z5,repL_len]) (.inr (fl_b _ _)) ?_
       simp only[wal,stV,seval,iteOmega,toNatUp,reduceCtorEq]
       exact qf2
      ·refine sC (prep_c G key h) ?_
       simp only[len_map,hM,repL_len,map_C,drop_map,app_map,r4,List.append_nil,z16,take_map,t1,allD_bs,wal,stV,seval,iteOmega,toNatUp,reduceCtorEq]
       refine st_call k0 (by simp only[wal,stV,seval,iteOmega,toNatUp,reduceCtorEq,take_map,t0,repL_len]) (.inr (fl_b _ _)) ?_
       simp only[wal,stV,seval,iteOmega,toNatUp,reduceCtorEq]
       refine loop_st (rv1St key l) (fun i=>l.length-1-i) (fun i=>i≤l.length-1) 0 (Nat.zero_le _) ?_ ?_
       ·refine ent_l (fun i=>if i=1 then 264 else 56) ?_ ?_ rfl (by simp[V.ids,W.ids,C.ids,Ob.ids,ids_bC]) <;> simp only[wx,wex,wez,stV,seval,iteOmega,toNatUp,reduceCtorEq,ren_bC,ids_bC,vecD] <;> rfl
       ·intro i hi
        have hd:=vecD_len (rkK key) l i
        by_cases hlt:i<l.length-1
        ·have g1:=getL_lt (l:=l) (j:=i) (by omega)
         have hx:=hall _ (getL_mem (l:=l) (j:=i) (by omega))
         have hs:xorP (dblL (vecD (rkK key) l i)) (macM (rkK key) (l.getD i []))=vecD (rkK key) l (i+1):=rfl
         have h1:=rdbb_c G (vecD (rkK key) l i) (by omega)
         have h2:=rmcc_c G key (l.getD i []) h (by omega)
         have h3:=rxor_c G (dblL (vecD (rkK key) l i)) (macM (rkK key) (l.getD i [])) (by rw[dblL_len hd]; decide) (by rw[macM_len]; decide)
         rw[hs] at h3
         simp only[lp_rvctr_1,rv1St,wal,stV,seval,iteOmega,toNatUp,reduceCtorEq,len_map,hM,take_map,t1,allD_bs,get_map,g1]
         refine sC (h1) ?_
         simp only[len_map,hM,take_map,t1,allD_bs,get_map,g1,wal,stV,seval,iteOmega,toNatUp,reduceCtorEq]
         refine sD (h2) ?_
         refine sD (h3) ?_
         refine lop_next (i+1) (by omega) (by omega) (ent_l (fun i=>i) ?_ ?_ rfl (by simp[V.ids,W.ids,C.ids,Ob.ids,ids_bC])) <;> simp only[wx,wex,wez,stV,seval,iteOmega,toNatUp,reduceCtorEq,ren_bC,ids_bC]
        ·obtain rfl:i=l.length-1:=by omega
         have g1:=getL_lt (l:=l) (j:=l.length-1) (by omega)
         have hx:=hall _ (getL_mem (l:=l) (j:=l.length-1) (by omega))
         have e1:(((l.length:Int)-1).toNat)=l.length-1:=by omega
         generalize hs:l.getD (l.length-1) []=s at *
         generalize hdd:vecD (rkK key) l (l.length-1)=d at *
         have e2:(((s.length:Int)-16).toNat)=s.length-16:=by omega
         by_cases h16:16≤s.length
         ·rw[vecM_long _ h0 hs hdd h16]
          have hl:(s.drop (s.length-16)).length=16:=by rw[List.length_drop]; omega
          have ht:(s.drop (s.length-16)).take (s.length-(s.length-16))=s.drop (s.length-16):=List.take_of_length_le (by omega)
          have hj:=rjoin_c G [s.take (s.length-16),xorP (s.drop (s.length-16)) d] (by simp) (by simp[xorP_len]; omega)
          have hf:[s.take (s.length-16),xorP (s.drop (s.length-16)) d].flatten=s.take (s.length-16)++xorP (s.drop (s.length-16)) d:=by simp
          rw[hf] at hj
          have k3:=rmcc_f G key (s.take (s.length-16)++xorP (s.drop (s.length-16)) d) h (by rw[List.length_append,xorP_len,← List.length_append,List.take_append_drop]; omega)
          simp only[lp_rvctr_1,rv1St,hdd,wal,stV,seval,iteOmega,toNatUp,reduceCtorEq,len_map,hM,take_map,t1,allD_bs,get_map,g1,e1,e2,ht]
          refine sD (rxor_c G (s.drop (s.length-16)) d (by omega) (by omega)) ?_
          refine sD (hj) ?_
          refine sD (k3) ?_
          exact qf2
         ·have h15:s.length<16:=by omega
          rw[vecM_short _ h0 hs hdd h15]
          have hj:=rjoin_c G [s] (by simp) (by simp; omega)
          have hf:[s].flatten=s:=by simp
          rw[hf] at hj
          have p1:=rpad_c G (s++[128]) 16 (by simp; omega)
          rw[padN_16] at p1
          have b128:s.map bD++[D.int .u8 128]=(s++[128]).map bD:=by rw[List.map_append]; rfl
          have tc2:(s++[128]).take (s.length+1)=s++[128]:=List.take_of_length_le (by simp)
          have lc:(s++[(128:UInt8)]).length=s.length+1:=by simp
          have p3:=rxor_c G (dblL d) (padL (s++[128])) (by rw[dblL_len hd]; decide) (by rw[padL_short h15]; decide)
          have k3:=rmcc_f G key (xorP (dblL d) (padL (s++[128]))) h (by rw[xorP_len,dblL_len hd]; decide)
          simp only[lp_rvctr_1,rv1St,hdd,wal,stV,seval,iteOmega,toNatUp,reduceCtorEq,len_map,hM,take_map,t1,allD_bs,get_map,g1,e1]
          refine sD (rdbb_c G d (by omega)) ?_
          refine sC (hj) ?_
          simp only[srcV,b128,wal,stV,seval,iteOmega,toNatUp,reduceCtorEq]
          refine st_call p1 (by simp only[wal,stV,seval,iteOmega,toNatUp,reduceCtorEq,take_map,tc2,lc]) (.inr (fl_b _ _)) ?_
          simp only[wal,stV,seval,iteOmega,toNatUp,reduceCtorEq]
          refine sD (p3) ?_
          refine sD (k3) ?_
          exact qf2
   ·rw[if_neg (by omega),if_neg (by omega),if_pos (by omega)]
    have h3:17<l.length:=by omega
    simp only[sf_rvctr,putAll,wal,stV,seval,iteOmega,toNatUp,reduceCtorEq]
    exact qf2
  ·rw[if_neg (by omega),if_pos h]
   simp only[sf_rvctr,putAll,wal,stV,seval,iteOmega,toNatUp,reduceCtorEq]
   exact qf2
theorem padC_get (rk c:List UInt8) {n k:Nat} (hk:k<16):∀ {m:Nat},n<m→(padC rk c m)[16*n+k]?=(encK rk (ctrC c n))[k]?
  | 0,h=>by omega
  | m+1,h=>by
    rw[padC]
    by_cases e:n=m
    ·subst e
     rw[List.getElem?_append_right (by rw[padC_len]; omega),padC_len,Nat.add_sub_cancel_left]
    ·rw[List.getElem?_append_left (by rw[padC_len]; omega)]
     exact padC_get rk c hk (by omega)
theorem strm_get (rk c b:List UInt8) {n k:Nat} (hk:k<16) (h:16*n+k<b.length):(strmC rk c b)[16*n+k]?=some (xorB (b.getD (16*n+k) 0) ((encK rk (ctrC c n)).getD k 0)):=by
  unfold strmC xorL
  rw[List.getElem?_zipWith,padC_get rk c hk (by omega),get_lt h,get_lt (by rw[encK_len]; exact hk)]
def oT (rk c b:List UInt8) (j:Nat):List UInt8:=(strmC rk c b).take j
theorem oT_len (rk c b:List UInt8) (j:Nat):(oT rk c b j).length=min j b.length:=by unfold oT; rw[List.length_take,strmC_len]
theorem oT_full (rk c b:List UInt8) {j:Nat} (h:b.length≤j):oT rk c b j=strmC rk c b:=List.take_of_length_le (by rw[strmC_len]; exact h)
theorem oT_step (rk c b:List UInt8) {n k:Nat} (hk:k<16) (h:16*n+k<b.length):oT rk c b (16*n+k)++[xorB (b.getD (16*n+k) 0) ((encK rk (ctrC c n)).getD k 0)]=oT rk c b (16*n+k+1):=by
  unfold oT; rw[List.take_add_one,strm_get rk c b hk h]; rfl
theorem ctrC_16 {c:List UInt8} (h:c.length=16) (n:Nat):(ctrC c n).length=16:=by rw[ctrC_len]; exact h
theorem nexV_ctr {c:List UInt8} (h:c.length=16) (n:Nat):nexV (ctrC c n)=ctrC c (n+1):=by unfold nexV; rw[if_pos (ctrC_16 h n)]; rfl
def strmE (key c b:List UInt8):Int:=if key.length≠16 then 5 else if c.length≠16 then 3 else if 65535<b.length then 2 else 0
def strmV (key c b:List UInt8):List UInt8:=if key.length=16∧c.length=16∧b.length≤65535 then strmC (rkK key) c b else []
theorem strmE_key {key:List UInt8} (c b:List UInt8) (h:key.length≠16):strmE key c b=5:=if_pos h
theorem strmE_ctr {key c:List UInt8} (b:List UInt8) (h:key.length=16) (h2:c.length≠16):strmE key c b=3:=by unfold strmE; rw[if_neg (by simp[h]),if_pos h2]
theorem strmE_long {key c b:List UInt8} (h:key.length=16) (h2:c.length=16) (h3:65535<b.length):strmE key c b=2:=by unfold strmE; rw[if_neg (by simp[h]),if_neg (by simp[h2]),if_pos h3]
theorem strmE_ok {key c b:List UInt8} (h:key.length=16) (h2:c.length=16) (h3:b.length≤65535):strmE key c b=0:=by unfold strmE; rw[if_neg (by simp[h]),if_neg (by simp[h2]),if_neg (by omega)]
theorem strmV_ok {key c b:List UInt8} (h:key.length=16) (h2:c.length=16) (h3:b.length≤65535):strmV key c b=strmC (rkK key) c b:=if_pos ⟨h,h2,h3⟩
theorem strmV_no {key c b:List UInt8} (h:¬ (key.length=16∧c.length=16∧b.length≤65535)):strmV key c b=[]:=if_neg h
theorem oT0 (rk c b:List UInt8):oT rk c b 0=[]:=List.take_zero
def rst1 (key c b:List UInt8) (n:Nat):St:=⟨ofL [(1,.w (.c (.d (.sl ((ctrC c n).map bD))))),(2,.w (.c (.d (.sl (b.map bD))))),(8,.w (.c (.ptr 2 1 0 0))),(9,.w (.c (.own 1 1 0 (oT (rkK key) c b (16*n)).length))),(10,.w (.c (.d (.int .i64 ((16*n:Nat):Int)))))],hL [(1,.row 1 ((oT (rkK key) c b (16*n)).map bD)),(2,.box ((macM4 key).map bC))],uL [1,2]⟩
def rst0 (key c b:List UInt8) (n k:Nat):St:=⟨ofL [(1,.w (.c (.d (.sl ((ctrC c n).map bD))))),(2,.w (.c (.d (.sl (b.map bD))))),(8,.w (.c (.ptr 2 1 0 0))),(9,.w (.c (.own 1 1 0 (oT (rkK key) c b (16*n+k)).length))),(10,.w (.c (.d (.int .i64 ((16*n:Nat):Int))))),(11,.w (.c (.d (.sl ((encK (rkK key) (ctrC c n)).map bD))))),(12,.w (.c (.d (.int .i64 (k:Int)))))],hL [(1,.row 1 ((oT (rkK key) c b (16*n+k)).map bD)),(2,.box ((macM4 key).map bC))],uL [1,2]⟩
def lp_rstm_0:SCode :=
 .seq (.seq (.reg [oM 34 12,
 oO 35 (.bin .lss (.t 34) (kI 16)),
 oM 36 35,
 oG 37 (.mv (.t 10)) 36 true,
 oG 38 (.mv (.t 12)) 36 true,
 oG 39 (.bin .add (.t 37) (.t 38)) 36 true,
 oG 40 (.mv (.t 2)) 36 true,
 oG 41 (.len (.t 40)) 36 true,
 oG 42 (.bin .lss (.t 39) (.t 41)) 36 true,
 oO 43 (.pick (.t 36) (.t 42) (.k (.c (.d (.bool false)))))])
 (.cond (.t 43) (.skip)
 (.exit 2)))
 (.seq (.block 3 (.reg [oM 46 9,
 oM 47 2,
 oM 48 10,
 oM 49 12,
 oO 50 (.bin .add (.t 48) (.t 49)),
 oO 51 (.idxSl 1 (.t 47) (.t 50)),
 oO 52 (.load .sc (.t 51)),
 oM 53 11,
 oM 54 12,
 oO 55 (.idxSl 1 (.t 53) (.t 54)),
 oO 56 (.load .sc (.t 55)),
 oO 57 (.bin .xor (.t 52) (.t 56)),
 oO 58 (.bldSl false 1 1 (.int .u8 0) [(0,(.t 57))]),
 oO 59 (.app false 1 1 (.t 46) (.t 58)),
 oM 9 59]))
 (.reg [oM 44 12,
 oO 45 (.bin .add (.t 44) (kI 1)),
 oM 12 45]))
def lp_rstm_1:SCode :=
 .seq (.seq (.reg [oM 25 10,
 oM 26 2,
 oO 27 (.len (.t 26)),
 oO 28 (.bin .lss (.t 25) (.t 27))])
 (.cond (.t 28) (.skip)
 (.exit 0)))
 (.seq (.block 1 (.seq (.reg [oO 31 (.load (.ag 688) (.t 8)),
 oM 32 1,
 oO 33 (.call 81 [(.t 31),(.t 32)] none),
 oM 11 33])
 (.seq (.seq (.reg [oO 12 (.mv (kI 0))])
 (.block 2 (.loop lp_rstm_0)))
 (.reg [oM 60 1,
 oO 61 (.call 82 [(.t 60)] none),
 oM 1 61]))))
 (.reg [oM 29 10,
 oO 30 (.bin .add (.t 29) (kI 16)),
 oM 10 30]))
def sf_rstm:SFn:=⟨3,63,
 .seq (.reg [oO 6 (.mv (.k (.c .nil))),
 oO 7 (.mv (kI 0))])
 (.seq (.seq (.reg [oM 13 0,
 oO 14 (.len (.t 13)),
 oO 15 (.bin .neq (.t 14) (kI 16))])
 (.cond (.t 15) (.seq (.reg [oO 6 (.mv (.k (.c .nil))),
 oO 7 (.mv (kI 5))])
 (.ret))
 (.skip)))
 (.seq (.seq (.reg [oM 16 1,
 oO 17 (.len (.t 16)),
 oO 18 (.bin .neq (.t 17) (kI 16))])
 (.cond (.t 18) (.seq (.reg [oO 6 (.mv (.k (.c .nil))),
 oO 7 (.mv (kI 3))])
 (.ret))
 (.skip)))
 (.seq (.seq (.reg [oM 19 2,
 oO 20 (.len (.t 19)),
 oO 21 (.bin .gtr (.t 20) (kI 65535))])
 (.cond (.t 21) (.seq (.reg [oO 6 (.mv (.k (.c .nil))),
 oO 7 (.mv (kI 2))])
 (.ret))
 (.skip)))
 (.seq (.reg [oM 22 0,
 oO 23 (.call 80 [(.t 22)] none),
 oO 8 (.alloc (repL 688 (.d (.int .u8 0)))),
 oN (.store (.ag 688) (.t 8) (.t 23))])
 (.seq (.reg [oO 24 (.bldSl true 0 1 (.int .u8 0) []),
 oM 9 24])
 (.seq (.seq (.reg [oO 10 (.mv (kI 0))])
 (.block 0 (.loop lp_rstm_1)))
 (.seq (.reg [oM 62 9,
 oM 6 62,
 oO 7 (.mv (kI 0))])
 (.ret)))))))),
 [(6,none),(7,none)]⟩
theorem cf_rstm:compFn Tryz.prog { own:=[24],comp:=[],frz:=[],nils:=[] } Tryz.f65=some sf_rstm:=by kernel_rfl
set_option maxRecDepth 20000 in
set_option maxHeartbeats 3200000 in
theorem rstm_f (G:Glob) (key c b:List UInt8) (hk:key.length≤9223372036854775807) (hc:c.length≤9223372036854775807) (hb:b.length≤9223372036854775807):Den Tryz.prog G 65 [.sl (key.map bD),.sl (c.map bD),.sl (b.map bD)] (.tup [.c (.fr 1 ((strmV key c b).map bD)),.c (.d (.int .i64 (strmE key c b)))]):=by
  refine den_walk Tryz.func65 cf_rstm rfl rfl ?_
  by_cases h:key.length=16
  ·by_cases h2:c.length=16
   ·by_cases h3:b.length≤65535
    ·have hM:=macM4_len h
     have r4:List.drop 688 (repL 688 (0:UInt8))=[]:=List.drop_eq_nil_of_le (by rw[repL_len]; omega)
     rw[strmE_ok h h2 h3,strmV_ok h h2 h3]
     simp only[sf_rstm,putAll,wal,stV,seval,iteOmega,toNatUp,reduceCtorEq,h,h2,repL_bC]
     refine sC (prep_c G key h) ?_
     simp only[len_map,hM,repL_len,map_C,drop_map,app_map,r4,List.append_nil,wal,stV,seval,iteOmega,toNatUp,reduceCtorEq]
     refine loop_st (rst1 key c b) (fun n=>(b.length+15) / 16-n) (fun n=>16*n<b.length+16) 0 (by omega) ?_ ?_
     ·refine ent_l (fun i=>if i=1 then 192 else 64) ?_ ?_ rfl (by simp[V.ids,W.ids,C.ids,Ob.ids,ids_bC]) <;> simp only[wx,wex,wez,stV,seval,iteOmega,toNatUp,reduceCtorEq,ren_bC,ids_bC,Nat.mul_zero,oT0,List.length_nil,List.map_nil] <;> rfl
     ·intro n hn
      have hT:=oT_len (rkK key) c b (16*n)
      by_cases hlt:16*n<b.length
      ·have t1:(macM4 key).take 688=macM4 key:=List.take_of_length_le (by omega)
       simp only[lp_rstm_1,rst1,wal,stV,seval,iteOmega,toNatUp,reduceCtorEq,len_map,hM,take_map,t1,allD_bs]
       refine sD (renc_c G key (ctrC c n) h (ctrC_16 h2 n)) ?_
       have hen:blockC key (ctrC c n)=encK (rkK key) (ctrC c n):=rfl
       rw[hen]
       refine loop_st (rst0 key c b n) (fun k=>16-k) (fun k=>k≤16∧16*n+k≤b.length) 0 ⟨by omega,by omega⟩ ?_ ?_
       ·refine ent_l (fun i=>i) ?_ ?_ rfl (by simp[V.ids,W.ids,C.ids,Ob.ids,ids_bC]) <;> simp only[wx,wex,wez,stV,seval,iteOmega,toNatUp,reduceCtorEq,ren_bC,ids_bC,Nat.add_zero]
       ·rintro k ⟨hk16,hkb⟩
        have hTk:=oT_len (rkK key) c b (16*n+k)
        have hTk1:=oT_len (rkK key) c b (16*n+k+1)
        by_cases hgo:k<16∧16*n+k<b.length
        ·obtain⟨hk1,hk2⟩:=hgo
         have g1:b[16*n+k]?=some (b.getD (16*n+k) 0):=get_lt hk2
         have hel:=encK_len (rkK key) (ctrC c n)
         have g2:(encK (rkK key) (ctrC c n))[k]?=some ((encK (rkK key) (ctrC c n)).getD k 0):=get_lt (by omega)
         have x1:=binV_xorB (b.getD (16*n+k) 0) ((encK (rkK key) (ctrC c n)).getD k 0)
         have ho:=oT_step (rkK key) c b hk1 hk2
         simp only[lp_rstm_0,rst0,wal,stV,seval,iteOmega,toNatUp,reduceCtorEq,get_map,g1,g2,x1,hel,srcV]
         refine lop_next (k+1) (by omega) ⟨by omega,by omega⟩ (ent_l (fun i=>if i=1 then 472 else i) ?_ ?_ rfl (by simp[V.ids,W.ids,C.ids,Ob.ids,ids_bC])) <;> simp only[wx,wex,wez,stV,seval,iteOmega,toNatUp,reduceCtorEq,ren_bC,ids_bC]
         ·rw[show 16*n+(k+1)=16*n+k+1 from rfl,hTk,hTk1,show min (16*n+k) b.length+1=min (16*n+k+1) b.length by omega]
         ·rw[← Nat.add_assoc,← ho,List.map_append]; rfl
        ·have e:oT (rkK key) c b (16*n+k)=oT (rkK key) c b (16*(n+1)):=by
           by_cases h16:k=16
           ·rw[h16,show 16*n+16=16*(n+1) by omega]
           ·rw[oT_full _ _ _ (by omega),oT_full _ _ _ (by omega)]
         have hx:=rnex_c G (ctrC c n) (by rw[ctrC_16 h2]; omega)
         rw[nexV_ctr h2] at hx
         by_cases h16:k<16
         ·have hnl:¬ 16*n+k<b.length:=by omega
          simp only[lp_rstm_0,rst0,e,wal,stV,seval,iteOmega,toNatUp,reduceCtorEq]
          refine sD (hx) ?_
          refine lop_next (n+1) (by omega) (by omega) (ent_l (fun i=>i) ?_ ?_ rfl (by simp[V.ids,W.ids,C.ids,Ob.ids,ids_bC])) <;> simp only[wx,wex,wez,stV,seval,iteOmega,toNatUp,reduceCtorEq,ren_bC,ids_bC]
          rw[show (16*(n:Int)+16)=16*((n:Int)+1) by omega]
         ·simp only[lp_rstm_0,rst0,e,wal,stV,seval,iteOmega,toNatUp,reduceCtorEq]
          refine sD (hx) ?_
          refine lop_next (n+1) (by omega) (by omega) (ent_l (fun i=>i) ?_ ?_ rfl (by simp[V.ids,W.ids,C.ids,Ob.ids,ids_bC])) <;> simp only[wx,wex,wez,stV,seval,iteOmega,toNatUp,reduceCtorEq,ren_bC,ids_bC]
          rw[show (16*(n:Int)+16)=16*((n:Int)+1) by omega]
      ·have e:=oT_full (rkK key) c b (j:=16*n) (by omega)
       have hl:=strmC_len (rkK key) c b
       simp only[lp_rstm_1,rst1,e,wal,stV,seval,iteOmega,toNatUp,reduceCtorEq,hl]
       have ht:(strmC (rkK key) c b).take b.length=strmC (rkK key) c b:=List.take_of_length_le (by omega)
       exact ret_f2 (by simp only[wal,stV,seval,iteOmega,toNatUp,reduceCtorEq,len_map,hl,take_map,ht]) (by simp only[wal,stV,seval,iteOmega,toNatUp,reduceCtorEq])
    ·rw[strmE_long h h2 (by omega),strmV_no (by omega)]
     simp only[sf_rstm,putAll,wal,stV,seval,iteOmega,toNatUp,reduceCtorEq,h,h2]
     exact qf2
   ·rw[strmE_ctr b h h2,strmV_no (by omega)]
    simp only[sf_rstm,putAll,wal,stV,seval,iteOmega,toNatUp,reduceCtorEq,h]
    exact qf2
  ·rw[strmE_key c b h,strmV_no (by omega)]
   simp only[sf_rstm,putAll,wal,stV,seval,iteOmega,toNatUp,reduceCtorEq]
   exact qf2
theorem rstm_c (G:Glob) (key c b:List UInt8) (hk:key.length≤9223372036854775807) (hc:c.length≤9223372036854775807) (hb:b.length≤9223372036854775807):Den Tryz.prog G 65 [.sl (key.map bD),.sl (c.map bD),.sl (b.map bD)] (.tup [.c (.d (.sl ((strmV key c b).map bD))),.c (.d (.int .i64 (strmE key c b)))]):=den_ro2 (rstm_f G key c b hk hc hb)
theorem bD_ofNat {i:Nat} (h:i<256):bD (UInt8.ofNat i)=.int .u8 (i:Int):=by
  unfold bD; rw[UInt8.toNat_ofNat_of_lt' (by simpa [UInt8.size] using h)]
def sf_beq:SFn:=⟨2,10,
 .seq (.reg [oO 4 (.mv (.k (.c (.d (.bool false)))))])
 (.seq (.reg [oM 5 0,
 oO 6 (.b2s (.t 5)),
 oM 7 1,
 oO 8 (.b2s (.t 7)),
 oO 9 (.bin .eql (.t 6) (.t 8)),
 oM 4 9])
 (.ret)),
 [(4,none)]⟩
theorem cf_beq:compFn Tryz.prog { own:=[],comp:=[],frz:=[],nils:=[] } Tryz.f71=some sf_beq:=by kernel_rfl
theorem beq_c (G:Glob) (l m:List UInt8):Den Tryz.prog G 71 [.sl (l.map bD),.sl (m.map bD)] (.w (.c (.d (.bool (l==m))))):=by
  refine den_walk Tryz.func71 cf_beq rfl rfl ?_
  simp only[sf_beq,putAll,wx,stV,seval,iteOmega,toNatUp,reduceCtorEq,ofBs_map,binS_same]
  exact ret_d (by simp only[wx,stV,seval,iteOmega,toNatUp,reduceCtorEq])
def sf_same:SFn:=⟨2,8,
 .seq (.reg [oO 4 (.mv (.k (.c (.d (.bool false)))))])
 (.seq (.reg [oM 5 0,
 oM 6 1,
 oO 7 (.call 71 [(.t 5),(.t 6)] none),
 oM 4 7])
 (.ret)),
 [(4,none)]⟩
theorem cf_same:compFn Tryz.prog { own:=[],comp:=[],frz:=[],nils:=[] } Tryz.f51=some sf_same:=by kernel_rfl
theorem same_c (G:Glob) (l m:List UInt8):Den Tryz.prog G 51 [.sl (l.map bD),.sl (m.map bD)] (.w (.c (.d (.bool (l==m))))):=by
  refine den_walk Tryz.func51 cf_same rfl rfl ?_
  simp only[sf_same,putAll,wal,stV,seval,iteOmega,toNatUp,reduceCtorEq]
  refine sD (beq_c G l m) ?_
  exact qd1
theorem putL_snoc (v k:Nat):putL v (k+1)=putL (v / 256) k++[UInt8.ofNat v]:=by
  unfold putL
  rw[List.range_succ,List.map_append]
  congr 1
  ·apply List.map_congr_left
   intro i hi
   have hi':i<k:=List.mem_range.1 hi
   rw[show k+1-1-i=(k-1-i)+1 by omega,Nat.pow_succ,Nat.mul_comm,← Nat.div_div_eq_div_mul]
  ·simp
theorem getN_one (a:List UInt8) (x:UInt8):getN (a++[x])=(getN a*256+x.toNat)%18446744073709551616:=by simp[getN]
theorem pow_le8 {k:Nat} (h:k≤8):256^k≤18446744073709551616:=Nat.le_trans (Nat.pow_le_pow_right (by decide) h) (by decide)
theorem get_put (k:Nat) (h:k≤8):∀ v,getN (putL v k)=v%256^k:=by
  induction k with
  | zero=>intro v; rw[Nat.pow_zero,Nat.mod_one]; rfl
  | succ k ih =>
    intro v
    have hp:=pow_le8 h
    have hv:v%256^(k+1)<256^(k+1):=Nat.mod_lt _ (Nat.pow_pos (by decide))
    have e:v%256^(k+1)=v%256+256*(v / 256%256^k):=by rw[Nat.pow_succ',Nat.mod_mul]
    rw[putL_snoc,getN_one,ih (by omega),UInt8.toNat_ofNat',Nat.mod_eq_of_lt (by omega)]
    omega
theorem getN_lt_pow:∀ (k:Nat) (l:List UInt8),l.length=k→k≤8→getN l<256^k∧putL (getN l) k=l:=by
  intro k
  induction k with
  | zero=>intro l h _; rw[List.eq_nil_of_length_eq_zero h]; exact⟨by decide,rfl⟩
  | succ k ih =>
    intro l h h8
    rcases List.eq_nil_or_concat l with rfl | ⟨a,x,rfl⟩
    ·simp at h
    ·rw[List.concat_eq_append] at *
     obtain⟨a1,a2⟩:=ih a (by simpa using h) (by omega)
     have hx:x.toNat<256:=x.toNat_lt
     have hp:=pow_le8 h8
     have e:getN (a++[x])=getN a*256+x.toNat:=by
       rw[getN_one,Nat.mod_eq_of_lt]
       rw[Nat.pow_succ] at hp; omega
     refine⟨by rw[e,Nat.pow_succ]; omega,?_⟩
     rw[e,putL_snoc,show (getN a*256+x.toNat) / 256=getN a by omega,a2]
     congr 2
     rw[← UInt8.toNat_inj,UInt8.toNat_ofNat']
     omega
structure Hd where
  lp:Int
  vr:Int
  md:Int
  st:Int
  pl:Int
  pr:Int
  rd:Nat
  rp:Nat
  ri:Nat
  rf:Nat
  og:Nat
  rc:Nat
  tr:Nat
def Hd.z:Hd:=⟨0,0,0,0,0,0,0,0,0,0,0,0,0⟩
def hdR (h:Hd):Prop:=0≤h.lp∧h.lp≤3∧(h.vr=3∨h.vr=4)∧0≤h.md∧h.md≤7∧0≤h.st∧h.st≤255∧-128≤h.pl∧h.pl≤127∧-128≤h.pr∧h.pr≤127
instance (h:Hd):Decidable (hdR h):=by unfold hdR; infer_instance
def cutN (l:List UInt8) (a n:Nat):List UInt8:=(l.drop a).take n
theorem cutN_len {l:List UInt8} {a n:Nat} (h:a+n≤l.length):(cutN l a n).length=n:=by
  unfold cutN; rw[List.length_take,List.length_drop]; omega
theorem cutN_hit (p q r:List UInt8):cutN (p++(q++r)) p.length q.length=q:=by
  unfold cutN; rw[List.drop_left,List.take_left]
def firstK:List UInt32:=[0x6a09e667,0xbb67ae85,0x3c6ef372,0xa54ff53a,0x510e527f,0x9b05688c,0x1f83d9ab,0x5be0cd19]
def constK:List UInt32:=[
  0x428a2f98,0x71374491,0xb5c0fbcf,0xe9b5dba5,0x3956c25b,0x59f111f1,0x923f82a4,0xab1c5ed5,
  0xd807aa98,0x12835b01,0x243185be,0x550c7dc3,0x72be5d74,0x80deb1fe,0x9bdc06a7,0xc19bf174,
  0xe49b69c1,0xefbe4786,0x0fc19dc6,0x240ca1cc,0x2de92c6f,0x4a7484aa,0x5cb0a9dc,0x76f988da,
  0x983e5152,0xa831c66d,0xb00327c8,0xbf597fc7,0xc6e00bf3,0xd5a79147,0x06ca6351,0x14292967,
  0x27b70a85,0x2e1b2138,0x4d2c6dfc,0x53380d13,0x650a7354,0x766a0abb,0x81c2c92e,0x92722c85,
  0xa2bfe8a1,0xa81a664b,0xc24b8b70,0xc76c51a3,0xd192e819,0xd6990624,0xf40e3585,0x106aa070,
  0x19a4c116,0x1e376c08,0x2748774c,0x34b0bcb5,0x391c0cb3,0x4ed8aa4a,0x5b9cca4f,0x682e6ff3,
  0x748f82ee,0x78a5636f,0x84c87814,0x8cc70208,0x90befffa,0xa4506ceb,0xbef9a3f7,0xc67178f2]
theorem firstK_len:firstK.length=8:=rfl
theorem constK_len:constK.length=64:=rfl
def wordAt (b:List UInt8) (t:Nat):UInt32 :=
  orW (orW (orW (shlW (byteW (b.getD (4*t) 0)) 24) (shlW (byteW (b.getD (4*t+1) 0)) 16)) (shlW (byteW (b.getD (4*t+2) 0)) 8)) (byteW (b.getD (4*t+3) 0))
def smallA (x:UInt32):UInt32:=xorW (xorW (rotW x 7) (rotW x 18)) (shrW x 3)
def smallB (y:UInt32):UInt32:=xorW (xorW (rotW y 17) (rotW y 19)) (shrW y 10)
def nextW (s:List UInt32) (t:Nat):UInt32 :=
  addW (addW (addW (smallB (s.getD (t-2) 0)) (s.getD (t-7) 0)) (smallA (s.getD (t-15) 0))) (s.getD (t-16) 0)
def sched16 (b:List UInt8) (n:Nat):List UInt32:=(List.range n).map (wordAt b)
def schedN (b:List UInt8):Nat→List UInt32
  | 0=>sched16 b 16
  | n+1=>schedN b n++[nextW (schedN b n) (16+n)]
def sched (b:List UInt8):List UInt32:=schedN b 48
theorem sched_at (b:List UInt8) (m:Nat) (h:m=48):sched b=schedN b m:=by rw[h]; rfl
def bigE (e:UInt32):UInt32:=xorW (xorW (rotW e 6) (rotW e 11)) (rotW e 25)
def bigA (a:UInt32):UInt32:=xorW (xorW (rotW a 2) (rotW a 13)) (rotW a 22)
def chW (e f g:UInt32):UInt32:=xorW (andW e f) (andW (notW e) g)
def majW (a b c:UInt32):UInt32:=xorW (xorW (andW a b) (andW a c)) (andW b c)
structure Eight where
  (a b c d e f g h:UInt32)
def Eight.step (s:Eight) (k w:UInt32):Eight :=
  let t1:=addW (addW (addW (addW s.h (bigE s.e)) (chW s.e s.f s.g)) k) w
  let t2:=addW (bigA s.a) (majW s.a s.b s.c)
  ⟨addW t1 t2,s.a,s.b,s.c,addW s.d t1,s.e,s.f,s.g⟩
def Eight.of (h:List UInt32):Eight:=⟨h.getD 0 0,h.getD 1 0,h.getD 2 0,h.getD 3 0,h.getD 4 0,h.getD 5 0,h.getD 6 0,h.getD 7 0⟩
def Eight.rounds (s:Eight) (k w:List UInt32):Nat→Eight
  | 0=>s
  | n+1=>(s.rounds k w n).step (k.getD n 0) (w.getD n 0)
def Eight.sum (s:Eight) (h:List UInt32):List UInt32 :=
  [addW (h.getD 0 0) s.a,addW (h.getD 1 0) s.b,addW (h.getD 2 0) s.c,addW (h.getD 3 0) s.d,addW (h.getD 4 0) s.e,addW (h.getD 5 0) s.f,addW (h.getD 6 0) s.g,addW (h.getD 7 0) s.h]
def blockK (h:List UInt32) (b:List UInt8):List UInt32:=((Eight.of h).rounds constK (sched b) 64).sum h
theorem blockK_len (h:List UInt32) (b:List UInt8):(blockK h b).length=8:=rfl
theorem orW_comm (x y:UInt32):orW x y=orW y x:=UInt32.or_comm x y
def sf_rturn:SFn:=⟨2,15,
 .seq (.reg [oO 4 (.mv (.k (.c (.d (.int .u32 0)))))])
 (.seq (.reg [oM 5 0,
 oM 6 1,
 oO 7 (.conv .u64 (.t 6)),
 oO 8 (.bin .shr (.t 5) (.t 7)),
 oM 9 0,
 oM 10 1,
 oO 11 (.bin .sub (kI 32) (.t 10)),
 oO 12 (.conv .u64 (.t 11)),
 oO 13 (.bin .shl (.t 9) (.t 12)),
 oO 14 (.bin .or (.t 8) (.t 13)),
 oM 4 14])
 (.ret)),
 [(4,none)]⟩
theorem cf_rturn:compFn Tryz.prog { own:=[],comp:=[],frz:=[],nils:=[] } Tryz.f76=some sf_rturn:=by kernel_rfl
theorem rturn_c (G:Glob) (x:UInt32) (n:Nat) (h0:0<n) (hn:n<32):Den Tryz.prog G 76 [wD x,.int .i64 n] (.w (.c (.d (wD (rotW x n))))):=by
  refine den_walk Tryz.func76 cf_rturn rfl rfl ?_
  have e1:IntKind.u64.wrap (n:Int)=(n:Int):=IntWalk.u64_in _ (by omega)
  have e2:IntKind.i64.wrap (32-(n:Int))=((32-n:Nat):Int):=by rw[IntWalk.i64_in _ (by omega)]; omega
  have e3:IntKind.u64.wrap ((32-n:Nat):Int)=((32-n:Nat):Int):=IntWalk.u64_in _ (by omega)
  simp only[sf_rturn,putAll,wx,stV,seval,iteOmega,toNatUp,reduceCtorEq,e1,e2,e3]
  exact ret_d (by simp only[wx,stV,seval,iteOmega,toNatUp,reduceCtorEq] <;> rfl)
def sf_rotl:SFn:=⟨2,17,
 .seq (.reg [oO 4 (.mv (.k (.c (.d (.int .u32 0)))))])
 (.seq (.reg [oM 6 1,
 oO 7 (.conv .u64 (.t 6)),
 oO 8 (.bin .and (.t 7) (.k (.c (.d (.int .u64 31))))),
 oM 5 8])
 (.seq (.reg [oM 9 0,
 oM 10 5,
 oO 11 (.bin .shl (.t 9) (.t 10)),
 oM 12 0,
 oM 13 5,
 oO 14 (.bin .sub (.k (.c (.d (.int .u64 32)))) (.t 13)),
 oO 15 (.bin .shr (.t 12) (.t 14)),
 oO 16 (.bin .or (.t 11) (.t 15)),
 oM 4 16])
 (.ret))),
 [(4,none)]⟩
theorem cf_rotl:compFn Tryz.prog { own:=[],comp:=[],frz:=[],nils:=[] } Tryz.f103=some sf_rotl:=by kernel_rfl
theorem rotl_c (G:Glob) (x:UInt32) (n:Nat) (h0:0<n) (hn:n<32):Den Tryz.prog G 103 [wD x,.int .i64 (-(n:Int))] (.w (.c (.d (wD (rotW x n))))):=by
  refine den_walk Tryz.func103 cf_rotl rfl rfl ?_
  have e1:bits .and .u64 (IntKind.u64.wrap (-(n:Int))) 31=((32-n:Nat):Int):=by
    have h:=bits_mask .u64 64 (by decide) u64_in 5 (by decide) (IntKind.u64.wrap (-(n:Int))) (by rw[IntKind.wrap_u64]; omega) (by rw[IntKind.wrap_u64]; omega)
    rw[show (31:Int)=2^5-1 by decide,h,IntKind.wrap_u64]
    omega
  have e2:IntKind.u64.wrap (32-((32-n:Nat):Int))=((n:Nat):Int):=by rw[IntWalk.u64_in _ (by omega)]; omega
  simp only[sf_rotl,putAll,wx,stV,seval,iteOmega,toNatUp,reduceCtorEq,e1,e2]
  rw[orW_comm]
  exact ret_d (by simp only[wx,stV,seval,iteOmega,toNatUp,reduceCtorEq] <;> rfl)
def sf_turn:SFn:=⟨2,9,
 .seq (.reg [oO 4 (.mv (.k (.c (.d (.int .u32 0)))))])
 (.seq (.reg [oM 5 0,
 oM 6 1,
 oO 7 (.un .neg (.t 6)),
 oO 8 (.call 103 [(.t 5),(.t 7)] none),
 oM 4 8])
 (.ret)),
 [(4,none)]⟩
theorem cf_turn:compFn Tryz.prog { own:=[],comp:=[],frz:=[],nils:=[] } Tryz.f88=some sf_turn:=by kernel_rfl
theorem turn_c (G:Glob) (x:UInt32) (n:Nat) (h0:0<n) (hn:n<32):Den Tryz.prog G 88 [wD x,.int .i64 n] (.w (.c (.d (wD (rotW x n))))):=by
  refine den_walk Tryz.func88 cf_turn rfl rfl ?_
  have e1:IntKind.i64.wrap (0-(n:Int)) = -(n:Int):=by rw[IntWalk.i64_in _ (by omega)]; omega
  simp only[sf_turn,putAll,wx,stV,seval,iteOmega,toNatUp,reduceCtorEq,e1]
  refine st_call (rotl_c G x n h0 hn) rfl (.inr rfl) ?_
  simp only[wx,stV,seval,iteOmega,toNatUp,reduceCtorEq]
  exact ret_d (by simp only[wx,stV,seval,iteOmega,toNatUp,reduceCtorEq])
def sf_rfst:SFn:=⟨0,2,
 .seq (.reg [oO 0 (.mv (.k (.c .nil)))])
 (.seq (.reg [oO 1 (.bldSl true 8 1 (.int .u32 0) [(0,(.k (.c (.d (.int .u32 1779033703))))),(1,(.k (.c (.d (.int .u32 3144134277))))),(2,(.k (.c (.d (.int .u32 1013904242))))),(3,(.k (.c (.d (.int .u32 2773480762))))),(4,(.k (.c (.d (.int .u32 1359893119))))),(5,(.k (.c (.d (.int .u32 2600822924))))),(6,(.k (.c (.d (.int .u32 528734635))))),(7,(.k (.c (.d (.int .u32 1541459225)))))]),
 oM 0 1])
 (.ret)),
 [(0,none)]⟩
theorem cf_rfst:compFn Tryz.prog { own:=[1],comp:=[],frz:=[],nils:=[] } Tryz.f58=some sf_rfst:=by kernel_rfl
theorem rfst_c (G:Glob):Den Tryz.prog G 58 [] (.w (.c (.fr 1 (firstK.map wD)))):=by
  refine den_walk Tryz.func58 cf_rfst rfl rfl ?_
  simp only[sf_rfst,putAll,oO_do,oG_do,oN_do,oM_do,kI_do,sx]
  refine optK_mk (.w (.c (.own 8 1 0 8)),upd hN 8 (some (.row 1 (firstK.map wD))),upd uN 8 true) (by kernel_rfl) ?_
  simp only[wx,stV,seval,iteOmega,toNatUp,reduceCtorEq]
  exact ret_own (id:=8) (n:=8) (s:=1) (by simp only[wx,stV,seval,iteOmega,toNatUp,reduceCtorEq]) (by simp only[wx,stV,seval,iteOmega,toNatUp,reduceCtorEq]) rfl
def sf_rcon:SFn:=⟨0,2,
 .seq (.reg [oO 0 (.mv (.k (.c .nil)))])
 (.seq (.reg [oO 1 (.bldSl true 64 1 (.int .u32 0) [(0,(.k (.c (.d (.int .u32 1116352408))))),(1,(.k (.c (.d (.int .u32 1899447441))))),(2,(.k (.c (.d (.int .u32 3049323471))))),(3,(.k (.c (.d (.int .u32 3921009573))))),(4,(.k (.c (.d (.int .u32 961987163))))),(5,(.k (.c (.d (.int .u32 1508970993))))),(6,(.k (.c (.d (.int .u32 2453635748))))),(7,(.k (.c (.d (.int .u32 2870763221))))),(8,(.k (.c (.d (.int .u32 3624381080))))),(9,(.k (.c (.d (.int .u32 310598401))))),(10,(.k (.c (.d (.int .u32 607225278))))),(11,(.k (.c (.d (.int .u32 1426881987))))),(12,(.k (.c (.d (.int .u32 1925078388))))),(13,(.k (.c (.d (.int .u32 2162078206))))),(14,(.k (.c (.d (.int .u32 2614888103))))),(15,(.k (.c (.d (.int .u32 3248222580))))),(16,(.k (.c (.d (.int .u32 3835390401))))),(17,(.k (.c (.d (.int .u32 4022224774))))),(18,(.k (.c (.d (.int .u32 264347078))))),(19,(.k (.c (.d (.int .u32 604807628))))),(20,(.k (.c (.d (.int .u32 770255983))))),(21,(.k (.c (.d (.int .u32 1249150122))))),(22,(.k (.c (.d (.int .u32 1555081692))))),(23,(.k (.c (.d (.int .u32 1996064986))))),(24,(.k (.c (.d (.int .u32 2554220882))))),(25,(.k (.c (.d (.int .u32 2821834349))))),(26,(.k (.c (.d (.int .u32 2952996808))))),(27,(.k (.c (.d (.int .u32 3210313671))))),(28,(.k (.c (.d (.int .u32 3336571891))))),(29,(.k (.c (.d (.int .u32 3584528711))))),(30,(.k (.c (.d (.int .u32 113926993))))),(31,(.k (.c (.d (.int .u32 338241895))))),(32,(.k (.c (.d (.int .u32 666307205))))),(33,(.k (.c (.d (.int .u32 773529912))))),(34,(.k (.c (.d (.int .u32 1294757372))))),(35,(.k (.c (.d (.int .u32 1396182291))))),(36,(.k (.c (.d (.int .u32 1695183700))))),(37,(.k (.c (.d (.int .u32 1986661051))))),(38,(.k (.c (.d (.int .u32 2177026350))))),(39,(.k (.c (.d (.int .u32 2456956037))))),(40,(.k (.c (.d (.int .u32 2730485921))))),(41,(.k (.c (.d (.int .u32 2820302411))))),(42,(.k (.c (.d (.int .u32 3259730800))))),(43,(.k (.c (.d (.int .u32 3345764771))))),(44,(.k (.c (.d (.int .u32 3516065817))))),(45,(.k (.c (.d (.int .u32 3600352804))))),(46,(.k (.c (.d (.int .u32 4094571909))))),(47,(.k (.c (.d (.int .u32 275423344))))),(48,(.k (.c (.d (.int .u32 430227734))))),(49,(.k (.c (.d (.int .u32 506948616))))),(50,(.k (.c (.d (.int .u32 659060556))))),(51,(.k (.c (.d (.int .u32 883997877))))),(52,(.k (.c (.d (.int .u32 958139571))))),(53,(.k (.c (.d (.int .u32 1322822218))))),(54,(.k (.c (.d (.int .u32 1537002063))))),(55,(.k (.c (.d (.int .u32 1747873779))))),(56,(.k (.c (.d (.int .u32 1955562222))))),(57,(.k (.c (.d (.int .u32 2024104815))))),(58,(.k (.c (.d (.int .u32 2227730452))))),(59,(.k (.c (.d (.int .u32 2361852424))))),(60,(.k (.c (.d (.int .u32 2428436474))))),(61,(.k (.c (.d (.int .u32 2756734187))))),(62,(.k (.c (.d (.int .u32 3204031479))))),(63,(.k (.c (.d (.int .u32 3329325298)))))]),
 oM 0 1])
 (.ret)),
 [(0,none)]⟩
theorem cf_rcon:compFn Tryz.prog { own:=[1],comp:=[],frz:=[],nils:=[] } Tryz.f59=some sf_rcon:=by kernel_rfl
theorem rcon_c (G:Glob):Den Tryz.prog G 59 [] (.w (.c (.fr 1 (constK.map wD)))):=by
  refine den_walk Tryz.func59 cf_rcon rfl rfl ?_
  simp only[sf_rcon,putAll,oO_do,oG_do,oN_do,oM_do,kI_do,sx]
  refine optK_mk (.w (.c (.own 8 1 0 64)),upd hN 8 (some (.row 1 (constK.map wD))),upd uN 8 true) (by kernel_rfl) ?_
  simp only[wx,stV,seval,iteOmega,toNatUp,reduceCtorEq]
  exact ret_own (id:=8) (n:=64) (s:=1) (by simp only[wx,stV,seval,iteOmega,toNatUp,reduceCtorEq]) (by simp only[wx,stV,seval,iteOmega,toNatUp,reduceCtorEq]) rfl
theorem byteW_nat' (b:UInt8):(byteW b).toNat=b.toNat:=by have:=byteW_nat b; omega
theorem shlW_byte (b:UInt8) (n:Nat) (hn:n≤24):(shlW (byteW b) n).toNat=2^n*b.toNat:=by
  have hb:=b.toNat_lt
  have h:(2:Nat)^n≤2^24:=Nat.pow_le_pow_right (by decide) hn
  have h2:2^n*b.toNat≤2^24*255:=Nat.mul_le_mul h (by omega)
  unfold shlW
  rw[byteW_nat',UInt32.toNat_ofNat_of_lt' (by rw[Nat.mul_comm]; simp only[UInt32.size]; omega),Nat.mul_comm]
theorem orW_nat (x y:UInt32):(orW x y).toNat=x.toNat ||| y.toNat:=UInt32.toNat_or x y
theorem wordAt_nat (b:List UInt8) (t:Nat):(wordAt b t).toNat=((((b.getD (4*t) 0).toNat*256+(b.getD (4*t+1) 0).toNat)*256+(b.getD (4*t+2) 0).toNat)*256+(b.getD (4*t+3) 0).toNat):=by
  unfold wordAt
  generalize b.getD (4*t) 0=p
  generalize b.getD (4*t+1) 0=q
  generalize b.getD (4*t+2) 0=r
  generalize b.getD (4*t+3) 0=s
  have hp:=p.toNat_lt
  have hq:=q.toNat_lt
  have hr:=r.toNat_lt
  have hs:=s.toNat_lt
  rw[orW_nat,orW_nat,orW_nat,shlW_byte _ _ (by decide),shlW_byte _ _ (by decide),shlW_byte _ _ (by decide),byteW_nat']
  have e1:=Nat.two_pow_add_eq_or_of_lt (i:=24) (b:=2^16*q.toNat) (by omega) p.toNat
  rw[← e1]
  have e2:=Nat.two_pow_add_eq_or_of_lt (i:=16) (b:=2^8*r.toNat) (by omega) (2^8*p.toNat+q.toNat)
  have e3:2^24*p.toNat+2^16*q.toNat=2^16*(2^8*p.toNat+q.toNat):=by omega
  rw[e3,← e2]
  have e4:=Nat.two_pow_add_eq_or_of_lt (i:=8) (b:=s.toNat) (by omega) (2^8*(2^8*p.toNat+q.toNat)+r.toNat)
  have e5:2^16*(2^8*p.toNat+q.toNat)+2^8*r.toNat=2^8*(2^8*(2^8*p.toNat+q.toNat)+r.toNat):=by omega
  rw[e5,← e4]
  omega
theorem four (b:List UInt8) (t:Nat) (h:4*t+4≤b.length):(b.drop (4*t)).take 4=[b.getD (4*t) 0,b.getD (4*t+1) 0,b.getD (4*t+2) 0,b.getD (4*t+3) 0]:=by
  apply List.ext_getElem?
  intro j
  rw[List.getElem?_take,List.getElem?_drop]
  rcases j with _ | _ | _ | _ | j
  ·simp[List.getD,List.getElem?_eq_getElem (show 4*t<b.length by omega)]
  ·simp[List.getD,List.getElem?_eq_getElem (show 4*t+1<b.length by omega)]
  ·simp[List.getD,List.getElem?_eq_getElem (show 4*t+2<b.length by omega)]
  ·simp[List.getD,List.getElem?_eq_getElem (show 4*t+3<b.length by omega)]
  ·rw[if_neg (by omega)]
   rfl
theorem getW (b:List UInt8) (t:Nat) (h:4*t+4≤b.length):D.int .u32 (IntKind.u32.wrap (getN ((b.drop (4*t)).take 4):Int))=wD (wordAt b t):=by
  have h1:=wordAt_nat b t
  rw[four b t h]
  unfold wD
  rw[h1]
  generalize b.getD (4*t) 0=p
  generalize b.getD (4*t+1) 0=q
  generalize b.getD (4*t+2) 0=r
  generalize b.getD (4*t+3) 0=s
  have hp:=p.toNat_lt
  have hq:=q.toNat_lt
  have hr:=r.toNat_lt
  have hs:=s.toNat_lt
  have e:getN [p,q,r,s]=(((p.toNat*256+q.toNat)*256+r.toNat)*256+s.toNat):=by
    simp only[getN,List.foldl_cons,List.foldl_nil]
    omega
  rw[e,IntWalk.u32_in _ (by omega)]
theorem sched16_len (b:List UInt8) (n:Nat):(sched16 b n).length=n:=by simp[sched16]
theorem schedN_len (b:List UInt8):∀ n,(schedN b n).length=16+n
  | 0=>by simp[schedN,sched16_len]
  | n+1=>by rw[schedN,List.length_append,schedN_len b n]; simp; omega
theorem set_next {α:Type} (l:List α) (z x:α) (n:Nat) (h:0<n):(l++List.replicate n z).set l.length x=(l++[x])++List.replicate (n-1) z:=by
  obtain⟨k,rfl⟩:∃ k,n=k+1:=⟨n-1,by omega⟩
  rw[List.set_append_right _ _ (Nat.le_refl _),Nat.sub_self,List.replicate_succ,List.set_cons_zero]
  simp
theorem get_of {l:List UInt32} {r:List UInt32} {i:Nat} (h:i<l.length):(l++r)[i]?=some (l.getD i 0):=by
  rw[List.getElem?_append_left h]
  simp[h]
def spSt1 (b:List UInt8) (t:Nat):St:=⟨ofL [(0,.w (.c (.d (.sl (b.map bD))))),(2,.w (.c (.pa 1 1))),(3,.w (.c (.pa 2 1))),(10,.w (.c (.d (.int .i64 (t:Int)))))],hL [(1,.row 1 ((List.replicate 64 (0:UInt32)).map wD)),(2,.row 1 ((sched16 b t++List.replicate (64-t) 0).map wD))],uL [1,2]⟩
def spSt2 (b:List UInt8) (n:Nat):St:=⟨ofL [(2,.w (.c (.pa 1 1))),(3,.w (.c (.pa 2 1))),(5,.w (.c (.d (.int .i64 ((16+n:Nat):Int)))))],hL [(1,.row 1 ((List.replicate 64 (0:UInt32)).map wD)),(2,.row 1 ((schedN b n++List.replicate (48-n) 0).map wD))],uL [1,2]⟩
def lp_spread_0:SCode :=
 .seq (.reg [oO 11 (.bin .lss (.t 10) (kI 16))])
 (.seq (.cond (.t 11) (.skip)
 (.exit 0))
 (.seq (.block 1 (.seq (.reg [oM 12 10,
 oM 4 12])
 (.reg [oM 13 4,
 oM 14 0,
 oM 15 4,
 oO 16 (.bin .mul (.t 15) (kI 4)),
 oM 17 4,
 oO 18 (.bin .add (.t 17) (kI 1)),
 oO 19 (.bin .mul (.t 18) (kI 4)),
 oO 20 (.slice 1 (.t 14) (some (.t 16)) (some (.t 19)) none),
 oO 21 (.call 42 [(.t 20)] none),
 oO 22 (.conv .u32 (.t 21)),
 oO 23 (.idxPa 1 64 (.t 3) (.t 13)),
 oN (.store .sc (.t 23) (.t 22))])))
 (.reg [oO 24 (.bin .add (.t 10) (kI 1)),
 oM 10 24])))
def lp_spread_1:SCode :=
 .seq (.seq (.reg [oM 25 5,
 oO 26 (.bin .lss (.t 25) (kI 64))])
 (.cond (.t 26) (.skip)
 (.exit 2)))
 (.seq (.block 3 (.seq (.reg [oM 29 5,
 oO 30 (.bin .sub (.t 29) (kI 15)),
 oO 31 (.idxPa 1 64 (.t 3) (.t 30)),
 oO 32 (.load .sc (.t 31)),
 oM 33 5,
 oO 34 (.bin .sub (.t 33) (kI 2)),
 oO 35 (.idxPa 1 64 (.t 3) (.t 34)),
 oO 36 (.load .sc (.t 35)),
 oM 6 32,
 oM 7 36])
 (.seq (.reg [oM 37 6,
 oO 38 (.call 88 [(.t 37),(kI 7)] none),
 oM 39 6,
 oO 40 (.call 88 [(.t 39),(kI 18)] none),
 oO 41 (.bin .xor (.t 38) (.t 40)),
 oM 42 6,
 oO 43 (.bin .shr (.t 42) (.k (.c (.d (.int .u64 3))))),
 oO 44 (.bin .xor (.t 41) (.t 43)),
 oM 8 44])
 (.seq (.reg [oM 45 7,
 oO 46 (.call 88 [(.t 45),(kI 17)] none),
 oM 47 7,
 oO 48 (.call 88 [(.t 47),(kI 19)] none),
 oO 49 (.bin .xor (.t 46) (.t 48)),
 oM 50 7,
 oO 51 (.bin .shr (.t 50) (.k (.c (.d (.int .u64 10))))),
 oO 52 (.bin .xor (.t 49) (.t 51)),
 oM 9 52])
 (.reg [oM 53 5,
 oM 54 9,
 oM 55 5,
 oO 56 (.bin .sub (.t 55) (kI 7)),
 oO 57 (.idxPa 1 64 (.t 3) (.t 56)),
 oO 58 (.load .sc (.t 57)),
 oO 59 (.bin .add (.t 54) (.t 58)),
 oM 60 8,
 oO 61 (.bin .add (.t 59) (.t 60)),
 oM 62 5,
 oO 63 (.bin .sub (.t 62) (kI 16)),
 oO 64 (.idxPa 1 64 (.t 3) (.t 63)),
 oO 65 (.load .sc (.t 64)),
 oO 66 (.bin .add (.t 61) (.t 65)),
 oO 67 (.idxPa 1 64 (.t 3) (.t 53)),
 oN (.store .sc (.t 67) (.t 66))])))))
 (.reg [oM 27 5,
 oO 28 (.bin .add (.t 27) (kI 1)),
 oM 5 28]))
def sf_spread:SFn:=⟨1,69,
 .seq (.reg [oO 2 (.allocArr [(.int .u32 0),(.int .u32 0),(.int .u32 0),(.int .u32 0),(.int .u32 0),(.int .u32 0),(.int .u32 0),(.int .u32 0),(.int .u32 0),(.int .u32 0),(.int .u32 0),(.int .u32 0),(.int .u32 0),(.int .u32 0),(.int .u32 0),(.int .u32 0),(.int .u32 0),(.int .u32 0),(.int .u32 0),(.int .u32 0),(.int .u32 0),(.int .u32 0),(.int .u32 0),(.int .u32 0),(.int .u32 0),(.int .u32 0),(.int .u32 0),(.int .u32 0),(.int .u32 0),(.int .u32 0),(.int .u32 0),(.int .u32 0),(.int .u32 0),(.int .u32 0),(.int .u32 0),(.int .u32 0),(.int .u32 0),(.int .u32 0),(.int .u32 0),(.int .u32 0),(.int .u32 0),(.int .u32 0),(.int .u32 0),(.int .u32 0),(.int .u32 0),(.int .u32 0),(.int .u32 0),(.int .u32 0),(.int .u32 0),(.int .u32 0),(.int .u32 0),(.int .u32 0),(.int .u32 0),(.int .u32 0),(.int .u32 0),(.int .u32 0),(.int .u32 0),(.int .u32 0),(.int .u32 0),(.int .u32 0),(.int .u32 0),(.int .u32 0),(.int .u32 0),(.int .u32 0)])])
 (.seq (.reg [oO 3 (.allocArr [(.int .u32 0),(.int .u32 0),(.int .u32 0),(.int .u32 0),(.int .u32 0),(.int .u32 0),(.int .u32 0),(.int .u32 0),(.int .u32 0),(.int .u32 0),(.int .u32 0),(.int .u32 0),(.int .u32 0),(.int .u32 0),(.int .u32 0),(.int .u32 0),(.int .u32 0),(.int .u32 0),(.int .u32 0),(.int .u32 0),(.int .u32 0),(.int .u32 0),(.int .u32 0),(.int .u32 0),(.int .u32 0),(.int .u32 0),(.int .u32 0),(.int .u32 0),(.int .u32 0),(.int .u32 0),(.int .u32 0),(.int .u32 0),(.int .u32 0),(.int .u32 0),(.int .u32 0),(.int .u32 0),(.int .u32 0),(.int .u32 0),(.int .u32 0),(.int .u32 0),(.int .u32 0),(.int .u32 0),(.int .u32 0),(.int .u32 0),(.int .u32 0),(.int .u32 0),(.int .u32 0),(.int .u32 0),(.int .u32 0),(.int .u32 0),(.int .u32 0),(.int .u32 0),(.int .u32 0),(.int .u32 0),(.int .u32 0),(.int .u32 0),(.int .u32 0),(.int .u32 0),(.int .u32 0),(.int .u32 0),(.int .u32 0),(.int .u32 0),(.int .u32 0),(.int .u32 0)])])
 (.seq (.seq (.reg [oO 10 (.mv (kI 0))])
 (.block 0 (.loop lp_spread_0)))
 (.seq (.seq (.reg [oO 5 (.mv (kI 16))])
 (.block 2 (.loop lp_spread_1)))
 (.seq (.reg [oO 68 (.load (.ag 64) (.t 3)),
 oN (.store (.ag 64) (.t 2) (.t 68))])
 (.ret))))),
 [(2,(some (.ag 64)))]⟩
theorem cf_spread:compFn Tryz.prog { own:=[],comp:=[],frz:=[],nils:=[] } Tryz.f87=some sf_spread:=by kernel_rfl
set_option maxHeartbeats 800000 in
theorem spread_c (G:Glob) (b:List UInt8) (hb:b.length=64):Den Tryz.prog G 87 [.sl (b.map bD)] (.w (.c (.d (.agg ((sched b).map wD))))):=by
  refine den_walk Tryz.func87 cf_spread rfl rfl ?_
  simp only[sf_spread,putAll,wx,stV,seval,iteOmega,toNatUp,reduceCtorEq]
  refine loop_st (spSt1 b) (fun t=>16-t) (fun t=>t≤16) 0 (Nat.zero_le _) ?_ ?_
  ·refine ent_l (fun i=>8*(i+1)) ?_ ?_ rfl rfl <;> simp only[wx,wex,stV,seval,iteOmega,toNatUp,reduceCtorEq]
   exact⟨rfl,rfl⟩
  ·intro t ht
   by_cases hlt:t<16
   ·have e1:IntKind.i64.wrap ((t:Int)*4)=((4*t:Nat):Int):=by rw[IntWalk.i64_in _ (by omega)]; omega
    have e2:IntKind.i64.wrap ((t:Int)+1)=((t+1:Nat):Int):=by rw[IntWalk.i64_in _ (by omega)]; rfl
    have e3:IntKind.i64.wrap (((t+1:Nat):Int)*4)=((4*t+4:Nat):Int):=by rw[IntWalk.i64_in _ (by omega)]; omega
    have e4:4*t+4-4*t=4:=by omega
    simp only[lp_spread_0,spSt1,wx,stV,seval,iteOmega,toNatUp,reduceCtorEq,e1,e2,e3,e4]
    refine st_call (get_c G _ (by rw[List.length_take,List.length_drop]; omega)) rfl (.inr rfl) ?_
    have h1:t<(sched16 b t++List.replicate (64-t) 0).length:=by rw[List.length_append,sched16_len,List.length_replicate]; omega
    have h2:=set_next (sched16 b t) 0 (wordAt b t) (64-t) (by omega)
    rw[sched16_len] at h2
    have h3:sched16 b t++[wordAt b t]=sched16 b (t+1):=by simp[sched16,List.range_succ]
    have h4:64-t-1=64-(t+1):=by omega
    rw[h3,h4] at h2
    simp only[wx,stV,seval,iteOmega,toNatUp,reduceCtorEq,getW b t (by omega),Nat.zero_add,stO_ws h1 (one_w _),set_ws,h2,e2]
    refine lop_next (t+1) (by omega) (by omega) (ent_l id ?_ ?_ rfl rfl) <;> simp only[wx,wex,stV,seval,iteOmega,toNatUp,reduceCtorEq]
   ·obtain rfl:t=16:=by omega
    simp only[lp_spread_0,spSt1,wx,stV,seval,iteOmega,toNatUp,reduceCtorEq]
    refine loop_st (spSt2 b) (fun n=>48-n) (fun n=>n≤48) 0 (Nat.zero_le _) ?_ ?_
    ·have h0:sched16 b 16=schedN b 0:=rfl
     refine ent_l id ?_ ?_ rfl rfl <;> simp only[wx,wex,stV,seval,iteOmega,toNatUp,reduceCtorEq,h0]
    ·intro n hn
     by_cases hlt:n<48
     ·have hl:=schedN_len b n
      have w1:∀ k:Nat,k≤16→IntKind.i64.wrap (((16+n:Nat):Int)-(k:Int))=((16+n-k:Nat):Int):=fun k hk=>by rw[IntWalk.i64_in _ (by omega)]; omega
      have e15:IntKind.i64.wrap (((16+n:Nat):Int)-15)=((16+n-15:Nat):Int):=w1 15 (by decide)
      have e2:IntKind.i64.wrap (((16+n:Nat):Int)-2)=((16+n-2:Nat):Int):=w1 2 (by decide)
      have e7:IntKind.i64.wrap (((16+n:Nat):Int)-7)=((16+n-7:Nat):Int):=w1 7 (by decide)
      have e16:IntKind.i64.wrap (((16+n:Nat):Int)-16)=((16+n-16:Nat):Int):=w1 16 (by decide)
      have e0:IntKind.i64.wrap (((16+n:Nat):Int)+1)=((16+(n+1):Nat):Int):=by rw[IntWalk.i64_in _ (by omega)]; omega
      have g:∀ k,k<16+n→((schedN b n++List.replicate (48-n) 0).map wD)[k]?=some (wD ((schedN b n).getD k 0)):=fun k hk=>by
        rw[List.getElem?_map,get_of (by omega)]; rfl
      have g15:=g (16+n-15) (by omega)
      have g2:=g (16+n-2) (by omega)
      have g7:=g (16+n-7) (by omega)
      have g16:=g (16+n-16) (by omega)
      simp only[lp_spread_1,spSt2,wx,stV,seval,iteOmega,toNatUp,reduceCtorEq,e15,e2,e7,e16,e0,g15,g2,g7,g16]
      refine st_call (turn_c G _ 7 (by decide) (by decide)) rfl (.inr rfl) ?_
      simp only[wx,stV,seval,iteOmega,toNatUp,reduceCtorEq]
      refine st_call (turn_c G _ 18 (by decide) (by decide)) rfl (.inr rfl) ?_
      simp only[wx,stV,seval,iteOmega,toNatUp,reduceCtorEq]
      refine st_call (turn_c G _ 17 (by decide) (by decide)) rfl (.inr rfl) ?_
      simp only[wx,stV,seval,iteOmega,toNatUp,reduceCtorEq]
      refine st_call (turn_c G _ 19 (by decide) (by decide)) rfl (.inr rfl) ?_
      have h1:16+n<(schedN b n++List.replicate (48-n) 0).length:=by rw[List.length_append,hl,List.length_replicate]; omega
      have h2:=set_next (schedN b n) 0 (nextW (schedN b n) (16+n)) (48-n) (by omega)
      rw[hl] at h2
      have h4:48-n-1=48-(n+1):=by omega
      have h3:schedN b n++[nextW (schedN b n) (16+n)]=schedN b (n+1):=rfl
      rw[h3,h4] at h2
      simp only[nextW,smallA,smallB] at h2
      simp only[wx,stV,seval,iteOmega,toNatUp,reduceCtorEq,e15,e2,e7,e16,e0,g15,g2,g7,g16,stO_ws h1 (one_w _),set_ws,h2]
      refine lop_next (n+1) (by omega) (by omega) (ent_l id ?_ ?_ rfl rfl) <;> simp only[wx,wex,stV,seval,iteOmega,toNatUp,reduceCtorEq]
     ·have hn48:n=48:=by omega
      have hl:(schedN b n).length=64:=by rw[schedN_len]; omega
      have h0:48-n=0:=by omega
      simp only[lp_spread_1,spSt2,wx,stV,seval,iteOmega,toNatUp,reduceCtorEq,h0,List.append_nil,List.replicate_zero,hl]
      refine ret_d ?_
      simp only[wx,stV,seval,iteOmega,toNatUp,reduceCtorEq,sched_at b n hn48,hl]
end Go.Proofs.YtbkhllchjbjhgaaGreatDoor
