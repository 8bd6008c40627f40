/- Texts of one's own, merged: from: Layer 1 on data: Put,Get,Same,Join,Hex: what they return. Own work. -/
import Derived.Test.YtbkhllchjbjhgaaDoorProg
import Derived.Test.YtbkhllchjbjhgaaDoorMg27
set_option linter.unusedVariables false
set_option linter.unusedSimpArgs false
namespace Go.Proofs.YtbkhllchjbjhgaaDoor
open Go.RowKit IntWalk
set_option maxHeartbeats 400000
theorem stO_bs {l:List UInt8} {i:Nat} {x:D} (hi:i<l.length) (hx:x.one=true):stO .sc (.c (.d x)) i 0 (.row 1 (l.map bD))=some (.row 1 ((l.map bD).set i x)):=by
  simp[stO,get_map,List.getElem?_eq_getElem hi,bD,pureW,hx]
theorem stO_ws {l:List UInt32} {i:Nat} {x:D} (hi:i<l.length) (hx:x.one=true):stO .sc (.c (.d x)) i 0 (.row 1 (l.map wD))=some (.row 1 ((l.map wD).set i x)):=by
  simp[stO,get_map,List.getElem?_eq_getElem hi,wD,pureW,hx]
theorem set_bs (l:List UInt8) (i:Nat) (x:UInt8):(l.map bD).set i (bD x)=(l.set i x).map bD:=set_map bD l i x
theorem set_ws (l:List UInt32) (i:Nat) (x:UInt32):(l.map wD).set i (wD x)=(l.set i x).map wD:=set_map wD l i x
theorem rep_b (n:Nat):List.replicate n (D.int .u8 0)=(List.replicate n (0:UInt8)).map bD:=by simp[bD]
def putL (v n:Nat):List UInt8:=(List.range n).map fun i=>UInt8.ofNat (v / 256^(n-1-i))
def putS (v n m:Nat):List UInt8:=List.replicate m 0++(putL v n).drop m
def putN (v:Nat) (n:Int):List UInt8:=if 0≤n∧n≤64 then putL v n.toNat else []
theorem putL_length (v n:Nat):(putL v n).length=n:=by simp[putL]
theorem putS_length (v n m:Nat) (h:m≤n):(putS v n m).length=n:=by simp[putS,putL_length]; omega
theorem putS_zero (v n:Nat):putS v n 0=putL v n:=by simp[putS]
theorem putS_full (v n:Nat):putS v n n=List.replicate n 0:=by simp[putS,putL_length]
theorem putS_step (v n i:Nat) (h:i+1≤n):putS v n i=(putS v n (i+1)).set i (UInt8.ofNat (v / 256^(n-(i+1)))):=by
  apply List.ext_getElem?
  intro j
  rw[List.getElem?_set]
  have hl:i<(putL v n).length:=by rw[putL_length]; omega
  by_cases hj:i=j
  ·subst hj
   rw[if_pos rfl,if_pos (by rw[putS_length _ _ _ h]; omega)]
   simp only[putS,List.getElem?_append,List.length_replicate,Nat.lt_irrefl,if_false,Nat.sub_self,List.getElem?_drop,Nat.add_zero]
   rw[List.getElem?_eq_getElem hl]
   simp[putL,Nat.sub_sub,Nat.add_comm 1 i]
  ·rw[if_neg hj]
   simp only[putS,List.getElem?_append,List.length_replicate,List.getElem?_replicate,List.getElem?_drop]
   by_cases h1:j<i
   ·rw[if_pos h1,if_pos h1,if_pos (by omega),if_pos (by omega)]
   ·rw[if_neg h1,if_neg (by omega)]
    congr 1; omega
theorem byte_of (v:Nat):D.int .u8 (IntKind.u8.wrap (v:Int))=bD (UInt8.ofNat v):=by
  rw[IntKind.wrap_u8]
  simp[bD]
def putSt (v n m:Nat):St:=⟨ofL [(0,.w (.c (.d (.int .u64 ((v / 256^(n-m):Nat):Int))))),(5,.w (.c (.own 1 1 0 n))),(6,.w (.c (.d (.int .i64 ((m:Int)-1)))))],hL [(1,.row 1 ((putS v n m).map bD))],uL [1]⟩
def lp_put_0:SCode :=
 .seq (.seq (.reg [oM 17 6,
 oO 18 (.bin .geq (.t 17) (kI 0))])
 (.cond (.t 18) (.skip)
 (.exit 0)))
 (.seq (.block 1 (.seq (.reg [oM 21 5,
 oM 22 6,
 oM 23 0,
 oO 24 (.conv .u8 (.t 23)),
 oO 25 (.idxSl 1 (.t 21) (.t 22)),
 oN (.store .sc (.t 25) (.t 24))])
 (.reg [oM 26 0,
 oO 27 (.bin .shr (.t 26) (.k (.c (.d (.int .u64 8))))),
 oM 0 27])))
 (.reg [oM 19 6,
 oO 20 (.bin .sub (.t 19) (kI 1)),
 oM 6 20]))
def sf_put:SFn:=⟨2,29,
 .seq (.reg [oO 4 (.mv (.k (.c .nil)))])
 (.seq (.seq (.reg [oM 7 1,
 oO 8 (.bin .lss (.t 7) (kI 0)),
 oM 9 8,
 oG 10 (.mv (.t 1)) 9 false,
 oG 11 (.bin .gtr (.t 10) (kI 64)) 9 false,
 oO 12 (.pick (.t 9) (.k (.c (.d (.bool true)))) (.t 11))])
 (.cond (.t 12) (.seq (.reg [oO 4 (.mv (.k (.c .nil)))])
 (.ret))
 (.skip)))
 (.seq (.reg [oM 13 1,
 oO 14 (.make true 1 1 (.int .u8 0) (.t 13) (.t 13)),
 oM 5 14])
 (.seq (.seq (.reg [oM 15 1,
 oO 16 (.bin .sub (.t 15) (kI 1)),
 oM 6 16])
 (.block 0 (.loop lp_put_0)))
 (.seq (.reg [oM 28 5,
 oM 4 28])
 (.ret))))),
 [(4,none)]⟩
theorem cf_put:compFn Tryd.prog { own:=[],comp:=[],frz:=[],nils:=[] } Tryd.f25=some sf_put:=by kernel_rfl
theorem put_in (G:Glob) (v n:Nat) (hn:n≤64):Den Tryd.prog G 25 [.int .u64 v,.int .i64 n] (.w (.c (.fr 1 ((putL v n).map bD)))):=by
  refine den_walk Tryd.func25 cf_put rfl rfl ?_
  have e1:IntKind.i64.wrap ((n:Int)-1)=(n:Int)-1:=IntWalk.i64_in _ (by omega)
  simp only[sf_put,putAll,wx,stV,seval,iteOmega,toNatUp,reduceCtorEq,e1]
  refine loop_st (putSt v n) (fun m=>m) (fun m=>m≤n) n (Nat.le_refl _) ?_ ?_
  ·refine ent_l (fun _=>112) ?_ ?_ rfl rfl <;> simp only[wx,wex,stV,seval,iteOmega,toNatUp,reduceCtorEq,putS_full,rep_b,Nat.sub_self,Nat.pow_zero,Nat.div_one]
  ·intro m hm
   rcases Nat.eq_zero_or_pos m with rfl | hpos
   ·simp only[lp_put_0,putSt,wx,stV,seval,iteOmega,toNatUp,reduceCtorEq,putS_zero]
    refine ret_own (id:=1) (n:=n) (s:=1) ?_ ?_ ?_ <;> simp only[wx,stV,seval,iteOmega,toNatUp,reduceCtorEq,putL_length]
   ·obtain⟨i,rfl⟩:∃ i,m=i+1:=⟨m-1,by omega⟩
    have e2:((i+1:Nat):Int)-1=(i:Int):=by omega
    have hlt:i<(putS v n (i+1)).length:=by rw[putS_length _ _ _ hm]; omega
    have e3:IntKind.i64.wrap ((i:Int)-1)=(i:Int)-1:=IntWalk.i64_in _ (by omega)
    simp only[lp_put_0,putSt,wx,stV,seval,iteOmega,toNatUp,reduceCtorEq,e2,e3,Nat.zero_add,Nat.add_zero,byte_of,stO_bs hlt (one_b _),set_bs,← putS_step _ _ _ hm,IntKind.bits]
    refine lop_next i (by omega) (by omega) (ent_l id ?_ ?_ rfl rfl) <;> simp only[wx,wex,stV,seval,iteOmega,toNatUp,reduceCtorEq]
    have e4:v / 256^(n-(i+1)) / 256=v / 256^(n-i):=by
      rw[show n-i=n-(i+1)+1 by omega,Nat.pow_succ,← Nat.div_div_eq_div_mul]
    simpa using congrArg (Nat.cast:Nat→Int) e4
theorem put_c (G:Glob) (v:Nat) (n:Int):Den Tryd.prog G 25 [.int .u64 v,.int .i64 n] (.w (.c (.fr 1 ((putN v n).map bD)))):=by
  unfold putN
  by_cases h:0≤n∧n≤64
  ·rw[if_pos h]
   obtain⟨n,rfl⟩:=Int.eq_ofNat_of_zero_le h.1
   exact put_in G v n (by omega)
  ·rw[if_neg h]
   refine den_walk Tryd.func25 cf_put rfl rfl ?_
   by_cases h0:n<0
   ·simp only[sf_put,putAll,wx,stV,seval,iteOmega,toNatUp,reduceCtorEq]
    exact ret_nil (by simp[wx,stV,seval,iteOmega,toNatUp,reduceCtorEq])
   ·have h1:64<n:=by omega
    simp only[sf_put,putAll,wx,stV,seval,iteOmega,toNatUp,reduceCtorEq]
    exact ret_nil (by simp[wx,stV,seval,iteOmega,toNatUp,reduceCtorEq])
def lp_rput_0:SCode :=
 .seq (.seq (.reg [oM 17 6,
 oO 18 (.bin .geq (.t 17) (kI 0))])
 (.cond (.t 18) (.skip)
 (.exit 0)))
 (.seq (.block 1 (.seq (.reg [oM 21 5,
 oM 22 6,
 oM 23 0,
 oO 24 (.conv .u8 (.t 23)),
 oO 25 (.idxSl 1 (.t 21) (.t 22)),
 oN (.store .sc (.t 25) (.t 24))])
 (.reg [oM 26 0,
 oO 27 (.bin .shr (.t 26) (.k (.c (.d (.int .u64 8))))),
 oM 0 27])))
 (.reg [oM 19 6,
 oO 20 (.bin .sub (.t 19) (kI 1)),
 oM 6 20]))
def sf_rput:SFn:=⟨2,29,
 .seq (.reg [oO 4 (.mv (.k (.c .nil)))])
 (.seq (.seq (.reg [oM 7 1,
 oO 8 (.bin .lss (.t 7) (kI 0)),
 oM 9 8,
 oG 10 (.mv (.t 1)) 9 false,
 oG 11 (.bin .gtr (.t 10) (kI 64)) 9 false,
 oO 12 (.pick (.t 9) (.k (.c (.d (.bool true)))) (.t 11))])
 (.cond (.t 12) (.seq (.reg [oO 4 (.mv (.k (.c .nil)))])
 (.ret))
 (.skip)))
 (.seq (.reg [oM 13 1,
 oO 14 (.make true 1 1 (.int .u8 0) (.t 13) (.t 13)),
 oM 5 14])
 (.seq (.seq (.reg [oM 15 1,
 oO 16 (.bin .sub (.t 15) (kI 1)),
 oM 6 16])
 (.block 0 (.loop lp_rput_0)))
 (.seq (.reg [oM 28 5,
 oM 4 28])
 (.ret))))),
 [(4,none)]⟩
theorem cf_rput:compFn Tryd.prog { own:=[],comp:=[],frz:=[],nils:=[] } Tryd.f21=some sf_rput:=by kernel_rfl
theorem rput_in (G:Glob) (v n:Nat) (hn:n≤64):Den Tryd.prog G 21 [.int .u64 v,.int .i64 n] (.w (.c (.fr 1 ((putL v n).map bD)))):=by
  refine den_walk Tryd.func21 cf_rput rfl rfl ?_
  have e1:IntKind.i64.wrap ((n:Int)-1)=(n:Int)-1:=IntWalk.i64_in _ (by omega)
  simp only[sf_rput,putAll,wx,stV,seval,iteOmega,toNatUp,reduceCtorEq,e1]
  refine loop_st (putSt v n) (fun m=>m) (fun m=>m≤n) n (Nat.le_refl _) ?_ ?_
  ·refine ent_l (fun _=>112) ?_ ?_ rfl rfl <;> simp only[wx,wex,stV,seval,iteOmega,toNatUp,reduceCtorEq,putS_full,rep_b,Nat.sub_self,Nat.pow_zero,Nat.div_one]
  ·intro m hm
   rcases Nat.eq_zero_or_pos m with rfl | hpos
   ·simp only[lp_rput_0,putSt,wx,stV,seval,iteOmega,toNatUp,reduceCtorEq,putS_zero]
    refine ret_own (id:=1) (n:=n) (s:=1) ?_ ?_ ?_ <;> simp only[wx,stV,seval,iteOmega,toNatUp,reduceCtorEq,putL_length]
   ·obtain⟨i,rfl⟩:∃ i,m=i+1:=⟨m-1,by omega⟩
    have e2:((i+1:Nat):Int)-1=(i:Int):=by omega
    have hlt:i<(putS v n (i+1)).length:=by rw[putS_length _ _ _ hm]; omega
    have e3:IntKind.i64.wrap ((i:Int)-1)=(i:Int)-1:=IntWalk.i64_in _ (by omega)
    simp only[lp_rput_0,putSt,wx,stV,seval,iteOmega,toNatUp,reduceCtorEq,e2,e3,Nat.zero_add,Nat.add_zero,byte_of,stO_bs hlt (one_b _),set_bs,← putS_step _ _ _ hm,IntKind.bits]
    refine lop_next i (by omega) (by omega) (ent_l id ?_ ?_ rfl rfl) <;> simp only[wx,wex,stV,seval,iteOmega,toNatUp,reduceCtorEq]
    have e4:v / 256^(n-(i+1)) / 256=v / 256^(n-i):=by
      rw[show n-i=n-(i+1)+1 by omega,Nat.pow_succ,← Nat.div_div_eq_div_mul]
    simpa using congrArg (Nat.cast:Nat→Int) e4
theorem toList_mk (l:List UInt8):(⟨l.toArray⟩:ByteArray).toList=l:=Go.ByteArray.toList_mk l
theorem binS_same (l m:List UInt8):binS .eql ⟨l.toArray⟩ ⟨m.toArray⟩=some (.bool (l==m)):=by
  simp only[binS,toList_mk]
def sf_rsame:SFn:=⟨2,10,
 .seq (.reg [oO 4 (.mv (.k (.c (.d (.bool false)))))])
 (.seq (.reg [oM 5 0,
 oO 6 (.b2s (.t 5)),
 oM 7 1,
 oO 8 (.b2s (.t 7)),
 oO 9 (.bin .eql (.t 6) (.t 8)),
 oM 4 9])
 (.ret)),
 [(4,none)]⟩
theorem cf_rsame:compFn Tryd.prog { own:=[],comp:=[],frz:=[],nils:=[] } Tryd.f13=some sf_rsame:=by kernel_rfl
theorem rsame_c (G:Glob) (l m:List UInt8):Den Tryd.prog G 13 [.sl (l.map bD),.sl (m.map bD)] (.w (.c (.d (.bool (l==m))))):=by
  refine den_walk Tryd.func13 cf_rsame rfl rfl ?_
  simp only[sf_rsame,putAll,wx,stV,seval,iteOmega,toNatUp,reduceCtorEq,ofBs_map,binS_same]
  exact ret_d (by simp only[wx,stV,seval,iteOmega,toNatUp,reduceCtorEq])
theorem allSz_ls (ls:List (List UInt8)):allSz 1 (ls.map fun l=>D.sl (l.map bD))=true:=allSz_map _ (fun _=>rfl) ls
def rjoinSt (ls:List (List UInt8)) (i:Nat):St:=⟨ofL [(0,.w (.c (.d (.sl (ls.map fun l=>D.sl (l.map bD)))))),(3,.w (.c (.own 1 1 0 ((ls.take i).flatten).length))),(4,.w (.c (.d (.int .i64 (i:Int)))))],hL [(1,.row 1 (((ls.take i).flatten).map bD))],uL [1]⟩
theorem take_flat {α:Type} (ls:List (List α)) (i:Nat) (h:i<ls.length):(ls.take (i+1)).flatten=(ls.take i).flatten++ls[i]:=by
  rw[List.take_succ_eq_append_getElem h,List.flatten_append]; simp
theorem flat_le {α:Type} (ls:List (List α)) (i:Nat) (h:i<ls.length):(ls.take i).flatten.length+ls[i].length≤ls.flatten.length:=by
  have h1:=take_flat ls i h
  have h2:ls.flatten=(ls.take (i+1)).flatten++(ls.drop (i+1)).flatten:=by rw[← List.flatten_append,List.take_append_drop]
  have h3:=congrArg List.length h2
  rw[List.length_append,h1,List.length_append] at h3
  omega
def lp_rjoin_0:SCode :=
 .seq (.seq (.reg [oM 6 4,
 oM 7 0,
 oO 8 (.len (.t 7)),
 oO 9 (.bin .lss (.t 6) (.t 8))])
 (.cond (.t 9) (.skip)
 (.exit 0)))
 (.seq (.block 1 (.reg [oM 12 3,
 oM 13 0,
 oM 14 4,
 oO 15 (.idxSl 1 (.t 13) (.t 14)),
 oO 16 (.load .sc (.t 15)),
 oO 17 (.app false 1 1 (.t 12) (.t 16)),
 oM 3 17]))
 (.reg [oM 10 4,
 oO 11 (.bin .add (.t 10) (kI 1)),
 oM 4 11]))
def sf_rjoin:SFn:=⟨1,19,
 .seq (.reg [oO 2 (.mv (.k (.c .nil)))])
 (.seq (.reg [oO 5 (.bldSl true 0 1 (.int .u8 0) []),
 oM 3 5])
 (.seq (.seq (.reg [oO 4 (.mv (kI 0))])
 (.block 0 (.loop lp_rjoin_0)))
 (.seq (.reg [oM 18 3,
 oM 2 18])
 (.ret)))),
 [(2,none)]⟩
theorem cf_rjoin:compFn Tryd.prog { own:=[5],comp:=[],frz:=[],nils:=[] } Tryd.f16=some sf_rjoin:=by kernel_rfl
theorem rjoin_c (G:Glob) (ls:List (List UInt8)) (hl:ls.length≤9223372036854775807) (hf:ls.flatten.length≤140737488355328):Den Tryd.prog G 16 [.sl (ls.map fun l=>D.sl (l.map bD))] (.w (.c (.fr 1 (ls.flatten.map bD)))):=by
  refine den_walk Tryd.func16 cf_rjoin rfl rfl ?_
  simp only[sf_rjoin,putAll,wx,stV,seval,iteOmega,toNatUp,reduceCtorEq]
  refine loop_st (rjoinSt ls) (fun i=>ls.length-i) (fun i=>i≤ls.length) 0 (Nat.zero_le _) ?_ ?_
  ·refine ent_l (fun _=>40) ?_ ?_ rfl rfl <;> simp only[wx,wex,stV,seval,iteOmega,toNatUp,reduceCtorEq]
  ·intro i hi
   by_cases hlt:i<ls.length
   ·have e2:ls[i]?=some ls[i]:=List.getElem?_eq_getElem hlt
    have e4:IntKind.i64.wrap ((i:Int)+1)=((i+1:Nat):Int):=by rw[IntWalk.i64_in _ (by omega)]; rfl
    have h5:=flat_le ls i hlt
    simp only[lp_rjoin_0,rjoinSt,wx,stV,seval,iteOmega,toNatUp,reduceCtorEq,get_map,e2,e4,Nat.mul_one,srcV]
    refine lop_next (i+1) (by omega) (by omega) (ent_l (fun _=>136) ?_ ?_ rfl rfl) <;> simp only[wx,wex,stV,seval,iteOmega,toNatUp,reduceCtorEq,take_flat ls i hlt]
   ·have:ls.take i=ls:=List.take_of_length_le (by omega)
    simp only[lp_rjoin_0,rjoinSt,wx,stV,seval,iteOmega,toNatUp,reduceCtorEq,this]
    refine ret_own (id:=1) (n:=ls.flatten.length) (s:=1) ?_ ?_ ?_ <;> simp only[wx,stV,seval,iteOmega,toNatUp,reduceCtorEq]
def joinSt1 (ls:List (List UInt8)) (i:Nat):St:=⟨ofL [(0,.w (.c (.d (.sl (ls.map fun l=>D.sl (l.map bD)))))),(3,.w (.c (.d (.int .i64 (((ls.take i).flatten).length:Int))))),(9,.w (.c (.d (.sl (ls.map fun l=>D.sl (l.map bD)))))),(10,.w (.c (.d (.int .i64 (ls.length:Int))))),(11,.w (.c (.d (.int .i64 (i:Int)))))],hL [],uL []⟩
def joinSt2 (ls:List (List UInt8)) (i:Nat):St:=⟨ofL [(6,.w (.c (.own 1 1 0 ((ls.take i).flatten).length))),(22,.w (.c (.d (.sl (ls.map fun l=>D.sl (l.map bD)))))),(23,.w (.c (.d (.int .i64 (ls.length:Int))))),(24,.w (.c (.d (.int .i64 (i:Int)))))],hL [(1,.row 1 (((ls.take i).flatten).map bD))],uL [1]⟩
def lp_join_0:SCode :=
 .seq (.reg [oO 12 (.bin .lss (.t 11) (.t 10))])
 (.seq (.cond (.t 12) (.skip)
 (.exit 0))
 (.seq (.block 1 (.seq (.reg [oO 13 (.idxSl 1 (.t 9) (.t 11)),
 oO 14 (.load .sc (.t 13)),
 oM 5 14])
 (.reg [oM 15 3,
 oM 16 5,
 oO 17 (.len (.t 16)),
 oO 18 (.bin .add (.t 15) (.t 17)),
 oM 3 18])))
 (.reg [oO 19 (.bin .add (.t 11) (kI 1)),
 oM 11 19])))
def lp_join_1:SCode :=
 .seq (.reg [oO 25 (.bin .lss (.t 24) (.t 23))])
 (.seq (.cond (.t 25) (.skip)
 (.exit 2))
 (.seq (.block 3 (.seq (.reg [oO 26 (.idxSl 1 (.t 22) (.t 24)),
 oO 27 (.load .sc (.t 26)),
 oM 8 27])
 (.reg [oM 28 6,
 oM 29 8,
 oO 30 (.app false 1 1 (.t 28) (.t 29)),
 oM 6 30])))
 (.reg [oO 31 (.bin .add (.t 24) (kI 1)),
 oM 24 31])))
def sf_join:SFn:=⟨1,33,
 .seq (.reg [oO 2 (.mv (.k (.c .nil)))])
 (.seq (.reg [oO 3 (.mv (kI 0))])
 (.seq (.seq (.reg [oM 9 0,
 oO 10 (.len (.t 9)),
 oO 11 (.mv (kI 0))])
 (.block 0 (.loop lp_join_0)))
 (.seq (.reg [oM 20 3,
 oO 21 (.make true 1 1 (.int .u8 0) (kI 0) (.t 20)),
 oM 6 21])
 (.seq (.seq (.reg [oM 22 0,
 oO 23 (.len (.t 22)),
 oO 24 (.mv (kI 0))])
 (.block 2 (.loop lp_join_1)))
 (.seq (.reg [oM 32 6,
 oM 2 32])
 (.ret)))))),
 [(2,none)]⟩
theorem cf_join:compFn Tryd.prog { own:=[],comp:=[],frz:=[],nils:=[] } Tryd.f24=some sf_join:=by kernel_rfl
theorem join_c (G:Glob) (ls:List (List UInt8)) (hl:ls.length≤9223372036854775807) (hf:ls.flatten.length≤140737488355328):Den Tryd.prog G 24 [.sl (ls.map fun l=>D.sl (l.map bD))] (.w (.c (.fr 1 (ls.flatten.map bD)))):=by
  refine den_walk Tryd.func24 cf_join rfl rfl ?_
  simp only[sf_join,putAll,wx,stV,seval,iteOmega,toNatUp,reduceCtorEq]
  refine loop_st (joinSt1 ls) (fun i=>ls.length-i) (fun i=>i≤ls.length) 0 (Nat.zero_le _) ?_ ?_
  ·refine ent_l id ?_ ?_ rfl rfl <;> simp only[wx,wex,stV,seval,iteOmega,toNatUp,reduceCtorEq]
  ·intro i hi
   by_cases hlt:i<ls.length
   ·have e2:ls[i]?=some ls[i]:=List.getElem?_eq_getElem hlt
    have e4:IntKind.i64.wrap ((i:Int)+1)=((i+1:Nat):Int):=by rw[IntWalk.i64_in _ (by omega)]; rfl
    have h5:=flat_le ls i hlt
    have e5:IntKind.i64.wrap (((ls.take i).flatten.length:Int)+(ls[i].length:Int))=(((ls.take (i+1)).flatten.length:Nat):Int):=by
      rw[take_flat ls i hlt,List.length_append,IntWalk.i64_in _ (by omega)]; rfl
    simp only[lp_join_0,joinSt1,wx,stV,seval,iteOmega,toNatUp,reduceCtorEq,get_map,e2,e4,e5]
    refine lop_next (i+1) (by omega) (by omega) (ent_l id ?_ ?_ rfl rfl) <;> simp only[wx,wex,stV,seval,iteOmega,toNatUp,reduceCtorEq]
   ·have:ls.take i=ls:=List.take_of_length_le (by omega)
    simp only[lp_join_0,joinSt1,wx,stV,seval,iteOmega,toNatUp,reduceCtorEq,this,Nat.mul_one]
    refine loop_st (joinSt2 ls) (fun i=>ls.length-i) (fun i=>i≤ls.length) 0 (Nat.zero_le _) ?_ ?_
    ·refine ent_l (fun _=>168) ?_ ?_ rfl rfl <;> simp only[wx,wex,stV,seval,iteOmega,toNatUp,reduceCtorEq]
    ·intro i hi
     by_cases hlt:i<ls.length
     ·have e2:ls[i]?=some ls[i]:=List.getElem?_eq_getElem hlt
      have e4:IntKind.i64.wrap ((i:Int)+1)=((i+1:Nat):Int):=by rw[IntWalk.i64_in _ (by omega)]; rfl
      have h5:=flat_le ls i hlt
      simp only[lp_join_1,joinSt2,wx,stV,seval,iteOmega,toNatUp,reduceCtorEq,get_map,e2,e4,Nat.mul_one,srcV]
      refine lop_next (i+1) (by omega) (by omega) (ent_l (fun _=>240) ?_ ?_ rfl rfl) <;> simp only[wx,wex,stV,seval,iteOmega,toNatUp,reduceCtorEq,take_flat ls i hlt]
     ·have:ls.take i=ls:=List.take_of_length_le (by omega)
      simp only[lp_join_1,joinSt2,wx,stV,seval,iteOmega,toNatUp,reduceCtorEq,this]
      refine ret_own (id:=1) (n:=ls.flatten.length) (s:=1) ?_ ?_ ?_ <;> simp only[wx,stV,seval,iteOmega,toNatUp,reduceCtorEq]
def getN (l:List UInt8):Nat:=l.foldl (fun a x=>(a*256+x.toNat)%18446744073709551616) 0
theorem getN_lt (l:List UInt8):getN l<18446744073709551616:=by
  unfold getN
  rcases List.eq_nil_or_concat l with rfl | ⟨a,x,rfl⟩
  ·simp
  ·simp only[List.concat_eq_append,List.foldl_append,List.foldl_cons,List.foldl_nil]; omega
theorem u64_in (n:Int) (h₀:0≤n) (h₁:n<2^64):IntKind.u64.wrap n=n:=by rw[IntKind.wrap_u64]; omega
theorem getN_snoc (a:List UInt8) (x:UInt8):bits .or .u64 (IntKind.u64.wrap ((getN a:Int)*256)) (x.toNat:Int)=(getN (a++[x]):Int):=by
  have hx:x.toNat<256:=x.toNat_lt
  have h1:=bits_join .u64 64 (by decide) u64_in 8 (IntKind.u64.wrap ((getN a:Int)*256)) (x.toNat:Int)
    (by rw[IntKind.wrap_u64]; omega) (by rw[IntKind.wrap_u64]; omega) (by rw[IntKind.wrap_u64]; omega) (by omega) (by omega) (by omega)
  rw[h1,IntKind.wrap_u64]
  simp only[getN,List.foldl_append,List.foldl_cons,List.foldl_nil]
  omega
theorem getN_take (l:List UInt8) (j:Nat) (h:j<l.length):bits .or .u64 (IntKind.u64.wrap ((getN (l.take j):Int)*256)) (l[j].toNat:Int)=(getN (l.take (j+1)):Int):=by
  rw[getN_snoc,List.take_succ_eq_append_getElem h]
theorem getN_app (a b:List UInt8):getN (a++b)=(getN a*256^b.length+getN b)%18446744073709551616:=by
  have key:∀ (n:Nat) (b:List UInt8),b.length=n→getN (a++b)=(getN a*256^n+getN b)%18446744073709551616:=by
    intro n
    induction n with
    | zero =>
      intro b hb
      have:b=[]:=List.eq_nil_of_length_eq_zero hb
      subst this
      have h0:getN []=0:=rfl
      rw[List.append_nil,Nat.pow_zero,h0]
      have:=getN_lt a
      omega
    | succ n ih =>
      intro b hb
      rcases List.eq_nil_or_concat b with rfl | ⟨c,x,rfl⟩
      ·simp at hb
      ·rw[List.concat_eq_append] at hb ⊢
       rw[← List.append_assoc]
       have h1:∀ l:List UInt8,getN (l++[x])=(getN l*256+x.toNat)%18446744073709551616:=fun l=>by simp[getN]
       rw[h1,h1,ih c (by simpa using hb),Nat.pow_succ]
       generalize getN a=p
       generalize getN c=q
       generalize 256^n=r
       have e:p*(r*256)=p*r*256:=by rw[Nat.mul_assoc]
       rw[e]
       generalize p*r=z
       omega
  exact key _ b rfl
theorem getN_tail (l:List UInt8) (h:8<l.length):getN (l.drop (l.length-8))=getN l:=by
  have h1:=getN_app (l.take (l.length-8)) (l.drop (l.length-8))
  rw[List.take_append_drop] at h1
  have h2:(l.drop (l.length-8)).length=8:=by rw[List.length_drop]; omega
  rw[h2] at h1
  have h3:=getN_lt (l.drop (l.length-8))
  rw[h1]
  have:(256:Nat)^8=18446744073709551616:=by decide
  rw[this]
  omega
def getSt (l:List UInt8) (i:Nat):St:=⟨ofL [(3,.w (.c (.d (.int .u64 (getN (l.take i)))))),(14,.w (.c (.d (.sl (l.map bD))))),(15,.w (.c (.d (.int .i64 (l.length:Int))))),(16,.w (.c (.d (.int .i64 (i:Int)))))],hL [],uL []⟩
def lp_get_0:SCode :=
 .seq (.reg [oO 17 (.bin .lss (.t 16) (.t 15))])
 (.seq (.cond (.t 17) (.skip)
 (.exit 0))
 (.seq (.block 1 (.seq (.reg [oO 18 (.idxSl 1 (.t 14) (.t 16)),
 oO 19 (.load .sc (.t 18)),
 oM 5 19])
 (.reg [oM 20 3,
 oO 21 (.bin .shl (.t 20) (.k (.c (.d (.int .u64 8))))),
 oM 22 5,
 oO 23 (.conv .u64 (.t 22)),
 oO 24 (.bin .or (.t 21) (.t 23)),
 oM 3 24])))
 (.reg [oO 25 (.bin .add (.t 16) (kI 1)),
 oM 16 25])))
def sf_get:SFn:=⟨1,27,
 .seq (.reg [oO 2 (.mv (.k (.c (.d (.int .u64 0)))))])
 (.seq (.seq (.reg [oM 6 0,
 oO 7 (.len (.t 6)),
 oO 8 (.bin .gtr (.t 7) (kI 8))])
 (.cond (.t 8) (.reg [oM 9 0,
 oM 10 0,
 oO 11 (.len (.t 10)),
 oO 12 (.bin .sub (.t 11) (kI 8)),
 oO 13 (.slice 1 (.t 9) (some (.t 12)) none none),
 oM 0 13])
 (.skip)))
 (.seq (.reg [oO 3 (.mv (.k (.c (.d (.int .u64 0)))))])
 (.seq (.seq (.reg [oM 14 0,
 oO 15 (.len (.t 14)),
 oO 16 (.mv (kI 0))])
 (.block 0 (.loop lp_get_0)))
 (.seq (.reg [oM 26 3,
 oM 2 26])
 (.ret))))),
 [(2,none)]⟩
theorem cf_get:compFn Tryd.prog { own:=[],comp:=[],frz:=[],nils:=[] } Tryd.f31=some sf_get:=by kernel_rfl
theorem get_l (G:Glob) (Q:AX→St→Prop) (l:List UInt8) (hl:l.length≤8) (σ:St) (he:Ent σ (getSt l 0)) (hq:∀ f,f 3=.w (.c (.d (.int .u64 (getN l))))→Q (.ex 0) ⟨f,hN,uN⟩):awp Tryd.prog G (.loop lp_get_0) Q σ:=by
  refine loop_st (getSt l) (fun i=>l.length-i) (fun i=>i≤l.length) 0 (Nat.zero_le _) he ?_
  intro i hi
  by_cases hlt:i<l.length
  ·have hb:=l[i].toNat_lt
   have e2:l[i]?=some l[i]:=List.getElem?_eq_getElem hlt
   have e3:IntKind.u64.wrap (l[i].toNat:Int)=(l[i].toNat:Int):=u64_in _ (by omega) (by omega)
   have e4:IntKind.i64.wrap ((i:Int)+1)=((i+1:Nat):Int):=by rw[IntWalk.i64_in _ (by omega)]; rfl
   have e5:=getN_take l i hlt
   simp only[lp_get_0,getSt,wx,stV,seval,iteOmega,toNatUp,reduceCtorEq,get_map,e2,IntKind.bits,e3,e4]
   refine lop_next (i+1) (by omega) (by omega) (ent_l id ?_ ?_ rfl rfl) <;> simp only[wx,wex,stV,seval,iteOmega,toNatUp,reduceCtorEq,← e5]
  ·have:l.take i=l:=List.take_of_length_le (by omega)
   simp only[lp_get_0,getSt,wx,stV,seval,iteOmega,toNatUp,reduceCtorEq,this]
   exact hq _ (by simp only[wx,stV,seval,iteOmega,toNatUp,reduceCtorEq])
theorem get_c (G:Glob) (l:List UInt8) (hl:l.length≤9223372036854775807):Den Tryd.prog G 31 [.sl (l.map bD)] (.w (.c (.d (.int .u64 (getN l))))):=by
  refine den_walk Tryd.func31 cf_get rfl rfl ?_
  by_cases h8:8<l.length
  ·have e0:IntKind.i64.wrap ((l.length:Int)-8)=((l.length-8:Nat):Int):=by rw[IntWalk.i64_in _ (by omega)]; omega
   have e1:(l.drop (l.length-8)).take (l.length-(l.length-8))=l.drop (l.length-8):=List.take_of_length_le (by rw[List.length_drop]; omega)
   simp only[sf_get,putAll,wx,stV,seval,iteOmega,toNatUp,reduceCtorEq,e0,e1]
   refine get_l G _ (l.drop (l.length-8)) (by rw[List.length_drop]; omega) _ ?_ fun f hf=>?_
   ·refine ent_l id ?_ ?_ rfl rfl <;> simp only[wx,wex,stV,seval,iteOmega,toNatUp,reduceCtorEq] <;> rfl
   ·rw[getN_tail l h8] at hf
    simp only[wx,stV,seval,iteOmega,toNatUp,reduceCtorEq,hf]
    exact ret_d (by simp only[wx,stV,seval,iteOmega,toNatUp,reduceCtorEq])
  ·simp only[sf_get,putAll,wx,stV,seval,iteOmega,toNatUp,reduceCtorEq]
   refine get_l G _ l (by omega) _ ?_ fun f hf=>?_
   ·refine ent_l id ?_ ?_ rfl rfl <;> simp only[wx,wex,stV,seval,iteOmega,toNatUp,reduceCtorEq] <;> rfl
   ·simp only[wx,stV,seval,iteOmega,toNatUp,reduceCtorEq,hf]
    exact ret_d (by simp only[wx,stV,seval,iteOmega,toNatUp,reduceCtorEq])
end Go.Proofs.YtbkhllchjbjhgaaDoor
namespace Go.Proofs.YtbkhllchjbjhgaaDoor
open Go.RowKit IntWalk
theorem xt_cases (x:UInt8):xtB x=if shrB x 7==1 then xorB (shlB x 1) 27 else shlB x 1:=by
  have:=all_b (p:=fun x=>xtB x==if shrB x 7==1 then xorB (shlB x 1) 27 else shlB x 1) (by decide +kernel) x
  simpa using this
theorem xt_two (x:UInt8):timesK x 2=xtB x:=by
  have:=all_b (p:=fun x=>timesK x 2==xtB x) (by decide +kernel) x
  simpa using this
def sf_dbl:SFn:=⟨1,11,
 .seq (.reg [oO 2 (.mv (.k (.c (.d (.int .u8 0)))))])
 (.seq (.seq (.reg [oM 3 0,
 oO 4 (.bin .shr (.t 3) (.k (.c (.d (.int .u64 7))))),
 oO 5 (.bin .eql (.t 4) (.k (.c (.d (.int .u8 1)))))])
 (.cond (.t 5) (.seq (.reg [oM 6 0,
 oO 7 (.bin .shl (.t 6) (.k (.c (.d (.int .u64 1))))),
 oO 8 (.bin .xor (.t 7) (.k (.c (.d (.int .u8 27))))),
 oM 2 8])
 (.ret))
 (.skip)))
 (.seq (.reg [oM 9 0,
 oO 10 (.bin .shl (.t 9) (.k (.c (.d (.int .u64 1))))),
 oM 2 10])
 (.ret))),
 [(2,none)]⟩
theorem cf_dbl:compFn Tryd.prog { own:=[],comp:=[],frz:=[],nils:=[] } Tryd.f77=some sf_dbl:=by kernel_rfl
theorem dbl_c (G:Glob) (x:UInt8):Den Tryd.prog G 77 [bD x] (.w (.c (.d (bD (xtB x))))):=by
  refine den_walk Tryd.func77 cf_dbl rfl rfl ?_
  have h1:=bl_shr x .u64 7 7 rfl (by decide)
  have h2:=bl_eql (shrB x 7) 1 1 rfl
  have h3:=bl_shl x .u64 1 1 rfl (by decide)
  have h4:=bl_xor (shlB x 1) 27 27 rfl
  rw[xt_cases]
  cases h5:shrB x 7==1
  ·rw[h5] at h2
   simp only[sf_dbl,putAll,h1,h2,h3,h4,wal,stV,seval,iteOmega,toNatUp,reduceCtorEq,if_false,Bool.false_eq_true]
   exact qd1
  ·rw[h5] at h2
   simp only[sf_dbl,putAll,h1,h2,h3,h4,wal,stV,seval,iteOmega,toNatUp,reduceCtorEq,if_true]
   exact qd1
def boxT:List UInt8:=[99,124,119,123,242,107,111,197,48,1,103,43,254,215,171,118,202,130,201,125,250,89,71,240,173,212,162,175,156,164,114,192,183,253,147,38,54,63,247,204,52,165,229,241,113,216,49,21,4,199,35,195,24,150,5,154,7,18,128,226,235,39,178,117,9,131,44,26,27,110,90,160,82,59,214,179,41,227,47,132,83,209,0,237,32,252,177,91,106,203,190,57,74,76,88,207,208,239,170,251,67,77,51,133,69,249,2,127,80,60,159,168,81,163,64,143,146,157,56,245,188,182,218,33,16,255,243,210,205,12,19,236,95,151,68,23,196,167,126,61,100,93,25,115,96,129,79,220,34,42,144,136,70,238,184,20,222,94,11,219,224,50,58,10,73,6,36,92,194,211,172,98,145,149,228,121,231,200,55,109,141,213,78,169,108,86,244,234,101,122,174,8,186,120,37,46,28,166,180,198,232,221,116,31,75,189,139,138,112,62,181,102,72,3,246,14,97,53,87,185,134,193,29,158,225,248,152,17,105,217,142,148,155,30,135,233,206,85,40,223,140,161,137,13,191,230,66,104,65,153,45,15,176,84,187,22]
theorem boxT_eq:boxT=boxL:=by decide +kernel
set_option maxRecDepth 100000 in
theorem box_size:ByteArray.size ⟨#[99,124,119,123,242,107,111,197,48,1,103,43,254,215,171,118,202,130,201,125,250,89,71,240,173,212,162,175,156,164,114,192,183,253,147,38,54,63,247,204,52,165,229,241,113,216,49,21,4,199,35,195,24,150,5,154,7,18,128,226,235,39,178,117,9,131,44,26,27,110,90,160,82,59,214,179,41,227,47,132,83,209,0,237,32,252,177,91,106,203,190,57,74,76,88,207,208,239,170,251,67,77,51,133,69,249,2,127,80,60,159,168,81,163,64,143,146,157,56,245,188,182,218,33,16,255,243,210,205,12,19,236,95,151,68,23,196,167,126,61,100,93,25,115,96,129,79,220,34,42,144,136,70,238,184,20,222,94,11,219,224,50,58,10,73,6,36,92,194,211,172,98,145,149,228,121,231,200,55,109,141,213,78,169,108,86,244,234,101,122,174,8,186,120,37,46,28,166,180,198,232,221,116,31,75,189,139,138,112,62,181,102,72,3,246,14,97,53,87,185,134,193,29,158,225,248,152,17,105,217,142,148,155,30,135,233,206,85,40,223,140,161,137,13,191,230,66,104,65,153,45,15,176,84,187,22]⟩=256:=rfl
set_option maxRecDepth 100000 in
theorem box_at (x:UInt8):(ByteArray.data ⟨#[99,124,119,123,242,107,111,197,48,1,103,43,254,215,171,118,202,130,201,125,250,89,71,240,173,212,162,175,156,164,114,192,183,253,147,38,54,63,247,204,52,165,229,241,113,216,49,21,4,199,35,195,24,150,5,154,7,18,128,226,235,39,178,117,9,131,44,26,27,110,90,160,82,59,214,179,41,227,47,132,83,209,0,237,32,252,177,91,106,203,190,57,74,76,88,207,208,239,170,251,67,77,51,133,69,249,2,127,80,60,159,168,81,163,64,143,146,157,56,245,188,182,218,33,16,255,243,210,205,12,19,236,95,151,68,23,196,167,126,61,100,93,25,115,96,129,79,220,34,42,144,136,70,238,184,20,222,94,11,219,224,50,58,10,73,6,36,92,194,211,172,98,145,149,228,121,231,200,55,109,141,213,78,169,108,86,244,234,101,122,174,8,186,120,37,46,28,166,180,198,232,221,116,31,75,189,139,138,112,62,181,102,72,3,246,14,97,53,87,185,134,193,29,158,225,248,152,17,105,217,142,148,155,30,135,233,206,85,40,223,140,161,137,13,191,230,66,104,65,153,45,15,176,84,187,22]⟩).toList[x.toNat]?=some (subK x):=by
  have e:(ByteArray.data ⟨#[99,124,119,123,242,107,111,197,48,1,103,43,254,215,171,118,202,130,201,125,250,89,71,240,173,212,162,175,156,164,114,192,183,253,147,38,54,63,247,204,52,165,229,241,113,216,49,21,4,199,35,195,24,150,5,154,7,18,128,226,235,39,178,117,9,131,44,26,27,110,90,160,82,59,214,179,41,227,47,132,83,209,0,237,32,252,177,91,106,203,190,57,74,76,88,207,208,239,170,251,67,77,51,133,69,249,2,127,80,60,159,168,81,163,64,143,146,157,56,245,188,182,218,33,16,255,243,210,205,12,19,236,95,151,68,23,196,167,126,61,100,93,25,115,96,129,79,220,34,42,144,136,70,238,184,20,222,94,11,219,224,50,58,10,73,6,36,92,194,211,172,98,145,149,228,121,231,200,55,109,141,213,78,169,108,86,244,234,101,122,174,8,186,120,37,46,28,166,180,198,232,221,116,31,75,189,139,138,112,62,181,102,72,3,246,14,97,53,87,185,134,193,29,158,225,248,152,17,105,217,142,148,155,30,135,233,206,85,40,223,140,161,137,13,191,230,66,104,65,153,45,15,176,84,187,22]⟩).toList=boxT:=rfl
  rw[e,boxT_eq]; exact boxL_get x
set_option maxRecDepth 100000
def lit_sub_0:ByteArray:=⟨#[99,124,119,123,242,107,111,197,48,1,103,43,254,215,171,118,202,130,201,125,250,89,71,240,173,212,162,175,156,164,114,192,183,253,147,38,54,63,247,204,52,165,229,241,113,216,49,21,4,199,35,195,24,150,5,154,7,18,128,226,235,39,178,117,9,131,44,26,27,110,90,160,82,59,214,179,41,227,47,132,83,209,0,237,32,252,177,91,106,203,190,57,74,76,88,207,208,239,170,251,67,77,51,133,69,249,2,127,80,60,159,168,81,163,64,143,146,157,56,245,188,182,218,33,16,255,243,210,205,12,19,236,95,151,68,23,196,167,126,61,100,93,25,115,96,129,79,220,34,42,144,136,70,238,184,20,222,94,11,219,224,50,58,10,73,6,36,92,194,211,172,98,145,149,228,121,231,200,55,109,141,213,78,169,108,86,244,234,101,122,174,8,186,120,37,46,28,166,180,198,232,221,116,31,75,189,139,138,112,62,181,102,72,3,246,14,97,53,87,185,134,193,29,158,225,248,152,17,105,217,142,148,155,30,135,233,206,85,40,223,140,161,137,13,191,230,66,104,65,153,45,15,176,84,187,22]⟩
def sf_sub:SFn:=⟨1,5,
 .seq (.reg [oO 2 (.mv (.k (.c (.d (.int .u8 0)))))])
 (.seq (.reg [oM 3 0,
 oO 4 (.idxStr (.k (.c (.d (.str lit_sub_0)))) (.t 3)),
 oM 2 4])
 (.ret)),
 [(2,none)]⟩
theorem cf_sub:compFn Tryd.prog { own:=[],comp:=[],frz:=[],nils:=[] } Tryd.f88=some sf_sub:=by kernel_rfl
theorem sub_c (G:Glob) (x:UInt8):Den Tryd.prog G 88 [bD x] (.w (.c (.d (bD (subK x))))):=by
  refine den_walk Tryd.func88 cf_sub rfl rfl ?_
  have h:=byte_lt x
  have e:=box_at x
  simp only[sf_sub,lit_sub_0,putAll,wal,stV,seval,iteOmega,toNatUp,reduceCtorEq,box_size,e]
  exact qd1
end Go.Proofs.YtbkhllchjbjhgaaDoor
namespace Go.Proofs.YtbkhllchjbjhgaaDoor
open Go.RowKit
def upL (f:Nat→UInt8) (l:List UInt8) (i:Nat):List UInt8:=(List.range i).map f++l.drop i
theorem upL_len (f:Nat→UInt8) (l:List UInt8) {i:Nat} (h:i≤l.length):(upL f l i).length=l.length:=by
  unfold upL; rw[List.length_append,List.length_map,List.length_range,List.length_drop]; omega
theorem upL_zero (f:Nat→UInt8) (l:List UInt8):upL f l 0=l:=by simp[upL]
theorem upL_full (f:Nat→UInt8) (l:List UInt8) {i:Nat} (h:l.length≤i):upL f l i=(List.range i).map f:=by
  unfold upL; rw[List.drop_eq_nil_of_le h,List.append_nil]
theorem upL_get (f:Nat→UInt8) (l:List UInt8) {i j:Nat} (hj:i≤j):(upL f l i)[j]?=l[j]?:=by
  unfold upL
  rw[List.getElem?_append_right (by simpa using hj),List.getElem?_drop,List.length_map,List.length_range,show i+(j-i)=j by omega]
theorem upL_done (f:Nat→UInt8) (l:List UInt8) {i j:Nat} (hj:j<i):(upL f l i)[j]?=some (f j):=by
  unfold upL
  rw[List.getElem?_append_left (by simpa using hj)]
  simp[hj]
theorem upL_step (f:Nat→UInt8) (l:List UInt8) {i:Nat} (h:i<l.length):(upL f l i).set i (f i)=upL f l (i+1):=by
  unfold upL
  rw[List.set_append_right _ _ (by simp),List.length_map,List.length_range,Nat.sub_self,List.drop_eq_getElem_cons h,List.set_cons_zero,List.range_succ,List.map_append,List.append_assoc]
  rfl
theorem get_lt {l:List UInt8} {j:Nat} (h:j<l.length):l[j]?=some (l.getD j 0):=by
  rw[List.getD_eq_getElem?_getD,List.getElem?_eq_getElem h]; rfl
theorem bD1:bD 1=.int .u8 1:=rfl
end Go.Proofs.YtbkhllchjbjhgaaDoor
namespace Go.Proofs.YtbkhllchjbjhgaaDoor
open Go.RowKit IntWalk
set_option maxHeartbeats 1600000
def addL (s k:List UInt8):List UInt8:=toL (addF (ofB16 s) (ofB16 k))
def subL (s:List UInt8):List UInt8:=toL (shiftF (ofB16 s))
def mixL (s:List UInt8):List UInt8:=toL (mixF (ofB16 s))
theorem addL_len (s k:List UInt8):(addL s k).length=16:=toL_len _
theorem subL_len (s:List UInt8):(subL s).length=16:=toL_len _
theorem mixL_len (s:List UInt8):(mixL s).length=16:=toL_len _
theorem of_toL (f:B16):sameF (ofB16 (toL f)) f:=fun j hj=>by
  unfold ofB16; rw[List.getD_eq_getElem?_getD,toL_get f hj]; rfl
theorem addL_toL (f g:B16):addL (toL f) (toL g)=toL (addF f g):=toL_congr fun j hj=>by
  unfold addF; rw[of_toL f j hj,of_toL g j hj]
theorem subL_toL (f:B16):subL (toL f)=toL (shiftF f):=toL_congr fun j hj=>by
  unfold shiftF; rw[of_toL f _ (by omega)]
theorem mixL_toL (f:B16):mixL (toL f)=toL (mixF f):=toL_congr fun j hj=>by
  unfold mixF; rw[of_toL f _ (by omega),of_toL f _ (by omega),of_toL f _ (by omega),of_toL f _ (by omega)]
theorem z16:[D.int .u8 0,.int .u8 0,.int .u8 0,.int .u8 0,.int .u8 0,.int .u8 0,.int .u8 0,.int .u8 0,.int .u8 0,.int .u8 0,.int .u8 0,.int .u8 0,.int .u8 0,.int .u8 0,.int .u8 0,.int .u8 0]=(repL 16 (0:UInt8)).map bD:=rfl
theorem toL_upL (f:B16) {l:List UInt8} (h:l.length=16):upL f l 16=toL f:=upL_full f l (by omega)
theorem tmodN (a b:Nat):Int.tmod (a:Int) (b:Int)=((a%b:Nat):Int):=rfl
def comSt (s k:List UInt8) (i:Nat):St:=⟨ofL [(2,.w (.c (.pa 1 1))),(4,.w (.c (.pa 2 1))),(7,.w (.c (.d (.agg (k.map bD))))),(8,.w (.c (.d (.int .i64 (i:Int)))))],hL [(1,.row 1 ((upL (addF (ofB16 s) (ofB16 k)) s i).map bD)),(2,.row 1 ((repL 16 (0:UInt8)).map bD))],uL [1,2]⟩
def lp_com_0:SCode :=
 .seq (.reg [oO 9 (.bin .lss (.t 8) (kI 16))])
 (.seq (.cond (.t 9) (.skip)
 (.exit 0))
 (.seq (.block 1 (.seq (.reg [oM 10 8,
 oO 11 (.idxArr 1 16 .sc (.t 7) (.t 8)),
 oM 5 10,
 oM 6 11])
 (.reg [oM 12 5,
 oO 13 (.idxPa 1 16 (.t 2) (.t 12)),
 oO 14 (.load .sc (.t 13)),
 oM 15 6,
 oO 16 (.bin .xor (.t 14) (.t 15)),
 oO 17 (.idxPa 1 16 (.t 2) (.t 12)),
 oN (.store .sc (.t 17) (.t 16))])))
 (.reg [oO 18 (.bin .add (.t 8) (kI 1)),
 oM 8 18])))
def sf_com:SFn:=⟨2,20,
 .seq (.reg [oO 2 (.box .ownArr (.t 0)),
 oO 3 (.box .roArr (.t 1)),
 oO 4 (.allocArr [(.int .u8 0),(.int .u8 0),(.int .u8 0),(.int .u8 0),(.int .u8 0),(.int .u8 0),(.int .u8 0),(.int .u8 0),(.int .u8 0),(.int .u8 0),(.int .u8 0),(.int .u8 0),(.int .u8 0),(.int .u8 0),(.int .u8 0),(.int .u8 0)])])
 (.seq (.seq (.reg [oO 7 (.load (.ag 16) (.t 3)),
 oO 8 (.mv (kI 0))])
 (.block 0 (.loop lp_com_0)))
 (.seq (.reg [oO 19 (.load (.ag 16) (.t 2)),
 oN (.store (.ag 16) (.t 4) (.t 19))])
 (.ret))),
 [(4,(some (.ag 16)))]⟩
theorem cf_com:compFn Tryd.prog { own:=[2],comp:=[],frz:=[],nils:=[] } Tryd.f79=some sf_com:=by kernel_rfl
theorem com_c (G:Glob) (s k:List UInt8) (hs:s.length=16) (hk:k.length=16):Den Tryd.prog G 79 [.agg (s.map bD),.agg (k.map bD)] (.w (.c (.d (.agg ((addL s k).map bD))))):=by
  refine den_walk Tryd.func79 cf_com rfl rfl ?_
  simp only[sf_com,putAll,wal,stV,seval,iteOmega,toNatUp,reduceCtorEq,z16,flat_bs,hk]
  refine loop_st (comSt s k) (fun i=>16-i) (fun i=>i≤16) 0 (Nat.zero_le _) ?_ ?_
  ·refine ent_l (fun i=>if i=1 then 16 else 32) ?_ ?_ rfl rfl <;> simp only[wx,wex,wez,stV,seval,iteOmega,toNatUp,reduceCtorEq,upL_zero]
  ·intro i hi
   have hl:(upL (addF (ofB16 s) (ofB16 k)) s i).length=16:=by rw[upL_len _ _ (by omega)]; exact hs
   by_cases hlt:i<16
   ·have g1:k[i]?=some (k.getD i 0):=get_lt (by omega)
    have g2:(upL (addF (ofB16 s) (ofB16 k)) s i)[i]?=some (s.getD i 0):=by rw[upL_get _ _ (Nat.le_refl i)]; exact get_lt (by omega)
    have h3:i<(upL (addF (ofB16 s) (ofB16 k)) s i).length:=by omega
    have h4:=binV_xorB (s.getD i 0) (k.getD i 0)
    have h5:(upL (addF (ofB16 s) (ofB16 k)) s i).set i (xorB (s.getD i 0) (k.getD i 0))=upL (addF (ofB16 s) (ofB16 k)) s (i+1):=upL_step (addF (ofB16 s) (ofB16 k)) s (by omega)
    simp only[lp_com_0,comSt,wal,stV,seval,iteOmega,toNatUp,reduceCtorEq,get_map,g1,g2,h4,stO_bs h3 (one_b _),set_bs,h5]
    refine lop_next (i+1) (by omega) (by omega) (ent_l (fun i=>i) ?_ ?_ rfl rfl) <;> simp only[wx,wex,wez,stV,seval,iteOmega,toNatUp,reduceCtorEq]
   ·obtain rfl:i=16:=by omega
    have e:upL (addF (ofB16 s) (ofB16 k)) s 16=addL s k:=toL_upL _ hs
    have e2:=addL_len s k
    simp only[lp_com_0,comSt,e,wal,stV,seval,iteOmega,toNatUp,reduceCtorEq,e2,flat_bs,repL_len]
    exact qd1
def repSt (s:List UInt8) (i:Nat):St:=⟨ofL [(1,.w (.c (.ra (s.map bD)))),(2,.w (.c (.pa 2 1))),(3,.w (.c (.pa 1 1))),(6,.w (.c (.d (.int .i64 (i:Int)))))],hL [(1,.row 1 ((upL (shiftF (ofB16 s)) (repL 16 (0:UInt8)) i).map bD)),(2,.row 1 ((repL 16 (0:UInt8)).map bD))],uL [1,2]⟩
def lp_repl_0:SCode :=
 .seq (.reg [oO 7 (.bin .lss (.t 6) (kI 16))])
 (.seq (.cond (.t 7) (.skip)
 (.exit 0))
 (.seq (.block 1 (.seq (.reg [oM 8 6,
 oM 4 8])
 (.seq (.reg [oM 9 4,
 oO 10 (.bin .rem (.t 9) (kI 4)),
 oM 5 10])
 (.reg [oM 11 4,
 oM 12 4,
 oM 13 5,
 oO 14 (.bin .mul (.t 13) (kI 4)),
 oO 15 (.bin .add (.t 12) (.t 14)),
 oO 16 (.bin .rem (.t 15) (kI 16)),
 oO 17 (.idxPa 1 16 (.t 1) (.t 16)),
 oO 18 (.load .sc (.t 17)),
 oO 19 (.call 88 [(.t 18)] none),
 oO 20 (.idxPa 1 16 (.t 3) (.t 11)),
 oN (.store .sc (.t 20) (.t 19))]))))
 (.reg [oO 21 (.bin .add (.t 6) (kI 1)),
 oM 6 21])))
def sf_repl:SFn:=⟨1,23,
 .seq (.reg [oO 1 (.box .roArr (.t 0)),
 oO 2 (.allocArr [(.int .u8 0),(.int .u8 0),(.int .u8 0),(.int .u8 0),(.int .u8 0),(.int .u8 0),(.int .u8 0),(.int .u8 0),(.int .u8 0),(.int .u8 0),(.int .u8 0),(.int .u8 0),(.int .u8 0),(.int .u8 0),(.int .u8 0),(.int .u8 0)])])
 (.seq (.reg [oO 3 (.allocArr [(.int .u8 0),(.int .u8 0),(.int .u8 0),(.int .u8 0),(.int .u8 0),(.int .u8 0),(.int .u8 0),(.int .u8 0),(.int .u8 0),(.int .u8 0),(.int .u8 0),(.int .u8 0),(.int .u8 0),(.int .u8 0),(.int .u8 0),(.int .u8 0)])])
 (.seq (.seq (.reg [oO 6 (.mv (kI 0))])
 (.block 0 (.loop lp_repl_0)))
 (.seq (.reg [oO 22 (.load (.ag 16) (.t 3)),
 oN (.store (.ag 16) (.t 2) (.t 22))])
 (.ret)))),
 [(2,(some (.ag 16)))]⟩
theorem cf_repl:compFn Tryd.prog { own:=[],comp:=[],frz:=[],nils:=[] } Tryd.f81=some sf_repl:=by kernel_rfl
theorem repl_c (G:Glob) (s:List UInt8) (hs:s.length=16):Den Tryd.prog G 81 [.agg (s.map bD)] (.w (.c (.d (.agg ((subL s).map bD))))):=by
  refine den_walk Tryd.func81 cf_repl rfl rfl ?_
  simp only[sf_repl,putAll,wal,stV,seval,iteOmega,toNatUp,reduceCtorEq,z16]
  refine loop_st (repSt s) (fun i=>16-i) (fun i=>i≤16) 0 (Nat.zero_le _) ?_ ?_
  ·refine ent_l (fun i=>if i=1 then 24 else 16) ?_ ?_ rfl rfl <;> simp only[wx,wex,wez,stV,seval,iteOmega,toNatUp,reduceCtorEq,upL_zero]
  ·intro i hi
   have hl:(upL (shiftF (ofB16 s)) (repL 16 (0:UInt8)) i).length=16:=by rw[upL_len _ _ (by rw[repL_len]; omega),repL_len]
   by_cases hlt:i<16
   ·have hm:(i+i%4*4)%16=i%4+4*((i / 4+i%4)%4):=by omega
    have hm2:(i+i%4*4)%16<16:=by omega
    have g1:s[(i+i%4*4)%16]?=some (ofB16 s (i%4+4*((i / 4+i%4)%4))):=by rw[← hm]; exact get_lt (by omega)
    have h3:i<(upL (shiftF (ofB16 s)) (repL 16 (0:UInt8)) i).length:=by omega
    have h5:(upL (shiftF (ofB16 s)) (repL 16 (0:UInt8)) i).set i (subK (ofB16 s (i%4+4*((i / 4+i%4)%4))))=upL (shiftF (ofB16 s)) (repL 16 (0:UInt8)) (i+1):=upL_step (shiftF (ofB16 s)) _ (by rw[repL_len]; omega)
    have t1:Int.tmod (i:Int) 4=((i%4:Nat):Int):=tmodN i 4
    have t2:Int.tmod ((i:Int)+((i%4:Nat):Int)*4) 16=(((i+i%4*4)%16:Nat):Int):=tmodN (i+i%4*4) 16
    have hb:(i%4:Nat)<4:=Nat.mod_lt _ (by decide)
    generalize hq:i%4=q at *
    generalize hp:(i+q*4)%16=p at *
    simp only[lp_repl_0,repSt,wal,stV,seval,iteOmega,toNatUp,reduceCtorEq,get_map,t1,t2,g1]
    refine sC (sub_c G (ofB16 s (q+4*((i / 4+q)%4)))) ?_
    simp only[stO_bs h3 (one_b _),set_bs,h5,get_map,hl,wal,stV,seval,iteOmega,toNatUp,reduceCtorEq]
    refine lop_next (i+1) (by omega) (by omega) (ent_l (fun i=>i) ?_ ?_ rfl rfl) <;> simp only[wx,wex,wez,stV,seval,iteOmega,toNatUp,reduceCtorEq]
   ·obtain rfl:i=16:=by omega
    have e:upL (shiftF (ofB16 s)) (repL 16 (0:UInt8)) 16=subL s:=toL_upL _ (repL_len _ _)
    have e2:=subL_len s
    simp only[lp_repl_0,repSt,e,wal,stV,seval,iteOmega,toNatUp,reduceCtorEq,e2,flat_bs,repL_len]
    exact qd1
theorem mix_eq (a b c d:UInt8):xorB (xorB (xorB (xtB (xorB a b)) b) c) d=mix4 a b c d:=by
  unfold mix4 twB
  rw[xtB_lin a b,xt_two,xt_two]
def mixcSt (s:List UInt8) (i:Nat):St:=⟨ofL [(1,.w (.c (.ra (s.map bD)))),(2,.w (.c (.pa 2 1))),(3,.w (.c (.pa 1 1))),(8,.w (.c (.d (.int .i64 (i:Int)))))],hL [(1,.row 1 ((upL (mixF (ofB16 s)) (repL 16 (0:UInt8)) i).map bD)),(2,.row 1 ((repL 16 (0:UInt8)).map bD))],uL [1,2]⟩
def lp_mixd_0:SCode :=
 .seq (.reg [oO 9 (.bin .lss (.t 8) (kI 16))])
 (.seq (.cond (.t 9) (.skip)
 (.exit 0))
 (.seq (.block 1 (.seq (.reg [oM 10 8,
 oM 4 10])
 (.seq (.reg [oM 11 4,
 oO 12 (.bin .rem (.t 11) (kI 4)),
 oM 5 12])
 (.seq (.reg [oM 13 4,
 oM 14 5,
 oO 15 (.bin .sub (.t 13) (.t 14)),
 oM 16 4,
 oM 17 5,
 oO 18 (.bin .sub (.t 16) (.t 17)),
 oO 19 (.bin .add (.t 18) (kI 4)),
 oO 20 (.sliceArr 1 16 (.t 1) (some (.t 15)) (some (.t 19))),
 oM 6 20])
 (.seq (.reg [oM 21 6,
 oM 22 5,
 oO 23 (.bin .add (.t 22) (kI 1)),
 oO 24 (.bin .rem (.t 23) (kI 4)),
 oO 25 (.idxSl 1 (.t 21) (.t 24)),
 oO 26 (.load .sc (.t 25)),
 oM 7 26])
 (.reg [oM 27 4,
 oM 28 4,
 oO 29 (.idxPa 1 16 (.t 1) (.t 28)),
 oO 30 (.load .sc (.t 29)),
 oM 31 7,
 oO 32 (.bin .xor (.t 30) (.t 31)),
 oO 33 (.call 77 [(.t 32)] none),
 oM 34 7,
 oO 35 (.bin .xor (.t 33) (.t 34)),
 oM 36 6,
 oM 37 5,
 oO 38 (.bin .add (.t 37) (kI 2)),
 oO 39 (.bin .rem (.t 38) (kI 4)),
 oO 40 (.idxSl 1 (.t 36) (.t 39)),
 oO 41 (.load .sc (.t 40)),
 oO 42 (.bin .xor (.t 35) (.t 41)),
 oM 43 6,
 oM 44 5,
 oO 45 (.bin .add (.t 44) (kI 3)),
 oO 46 (.bin .rem (.t 45) (kI 4)),
 oO 47 (.idxSl 1 (.t 43) (.t 46)),
 oO 48 (.load .sc (.t 47)),
 oO 49 (.bin .xor (.t 42) (.t 48)),
 oO 50 (.idxPa 1 16 (.t 3) (.t 27)),
 oN (.store .sc (.t 50) (.t 49))]))))))
 (.reg [oO 51 (.bin .add (.t 8) (kI 1)),
 oM 8 51])))
def sf_mixd:SFn:=⟨1,53,
 .seq (.reg [oO 1 (.box .roArr (.t 0)),
 oO 2 (.allocArr [(.int .u8 0),(.int .u8 0),(.int .u8 0),(.int .u8 0),(.int .u8 0),(.int .u8 0),(.int .u8 0),(.int .u8 0),(.int .u8 0),(.int .u8 0),(.int .u8 0),(.int .u8 0),(.int .u8 0),(.int .u8 0),(.int .u8 0),(.int .u8 0)])])
 (.seq (.reg [oO 3 (.allocArr [(.int .u8 0),(.int .u8 0),(.int .u8 0),(.int .u8 0),(.int .u8 0),(.int .u8 0),(.int .u8 0),(.int .u8 0),(.int .u8 0),(.int .u8 0),(.int .u8 0),(.int .u8 0),(.int .u8 0),(.int .u8 0),(.int .u8 0),(.int .u8 0)])])
 (.seq (.seq (.reg [oO 8 (.mv (kI 0))])
 (.block 0 (.loop lp_mixd_0)))
 (.seq (.reg [oO 52 (.load (.ag 16) (.t 3)),
 oN (.store (.ag 16) (.t 2) (.t 52))])
 (.ret)))),
 [(2,(some (.ag 16)))]⟩
theorem cf_mixd:compFn Tryd.prog { own:=[],comp:=[],frz:=[],nils:=[] } Tryd.f80=some sf_mixd:=by kernel_rfl
theorem mixd_c (G:Glob) (s:List UInt8) (hs:s.length=16):Den Tryd.prog G 80 [.agg (s.map bD)] (.w (.c (.d (.agg ((mixL s).map bD))))):=by
  refine den_walk Tryd.func80 cf_mixd rfl rfl ?_
  simp only[sf_mixd,putAll,wal,stV,seval,iteOmega,toNatUp,reduceCtorEq,z16]
  refine loop_st (mixcSt s) (fun i=>16-i) (fun i=>i≤16) 0 (Nat.zero_le _) ?_ ?_
  ·refine ent_l (fun i=>if i=1 then 24 else 16) ?_ ?_ rfl rfl <;> simp only[wx,wex,wez,stV,seval,iteOmega,toNatUp,reduceCtorEq,upL_zero]
  ·intro i hi
   have hl:(upL (mixF (ofB16 s)) (repL 16 (0:UInt8)) i).length=16:=by rw[upL_len _ _ (by rw[repL_len]; omega),repL_len]
   by_cases hlt:i<16
   ·have h3:i<(upL (mixF (ofB16 s)) (repL 16 (0:UInt8)) i).length:=by omega
    have h5:(upL (mixF (ofB16 s)) (repL 16 (0:UInt8)) i).set i (mixF (ofB16 s) i)=upL (mixF (ofB16 s)) (repL 16 (0:UInt8)) (i+1):=upL_step (mixF (ofB16 s)) _ (by rw[repL_len]; omega)
    have g0:s[i]?=some (ofB16 s i):=get_lt (by omega)
    obtain⟨q,r,hr,rfl⟩:∃ q r,r<4∧i=4*q+r:=⟨i / 4,i%4,Nat.mod_lt _ (by decide),by omega⟩
    have hq:q<4:=by omega
    have col:∀ j,j<4→((s.drop (4*q)).take 4)[j]?=some (ofB16 s (4*q+j)):=fun j hj=>by
      rw[List.getElem?_take,if_pos hj,List.getElem?_drop]; exact get_lt (by omega)
    have g1:=col ((r+1)%4) (Nat.mod_lt _ (by decide))
    have g2:=col ((r+2)%4) (Nat.mod_lt _ (by decide))
    have g3:=col ((r+3)%4) (Nat.mod_lt _ (by decide))
    have t0:Int.tmod (4*(q:Int)+(r:Int)) 4=(r:Int):=by
      show Int.tmod ((4*q+r:Nat):Int) ((4:Nat):Int)=_
      rw[tmodN]; congr 1; omega
    have t1:Int.tmod ((r:Int)+1) 4=(((r+1)%4:Nat):Int):=tmodN (r+1) 4
    have t2:Int.tmod ((r:Int)+2) 4=(((r+2)%4:Nat):Int):=tmodN (r+2) 4
    have t3:Int.tmod ((r:Int)+3) 4=(((r+3)%4:Nat):Int):=tmodN (r+3) 4
    have b1:(r+1)%4<4:=Nat.mod_lt _ (by decide)
    have b2:(r+2)%4<4:=Nat.mod_lt _ (by decide)
    have b3:(r+3)%4<4:=Nat.mod_lt _ (by decide)
    have em:mixF (ofB16 s) (4*q+r)=mix4 (ofB16 s (4*q+r)) (ofB16 s (4*q+(r+1)%4)) (ofB16 s (4*q+(r+2)%4)) (ofB16 s (4*q+(r+3)%4)):=by
      unfold mixF
      rw[show (4*q+r) / 4=q by omega,show (4*q+r)%4=r by omega]
    rw[em,← mix_eq] at h5
    have s1:4*q+r-r=4*q:=by omega
    have s2:4*q+4-4*q=4:=by omega
    have s3:((s.drop (4*q)).take 4).length=4:=by rw[List.length_take,List.length_drop]; omega
    generalize (r+1)%4=r1 at *
    generalize (r+2)%4=r2 at *
    generalize (r+3)%4=r3 at *
    generalize ofB16 s (4*q+r)=a at *
    generalize ofB16 s (4*q+r1)=b at *
    generalize ofB16 s (4*q+r2)=c at *
    generalize ofB16 s (4*q+r3)=d at *
    have x1:=binV_xorB a b
    have x2:=binV_xorB (xtB (xorB a b)) b
    have x3:=binV_xorB (xorB (xtB (xorB a b)) b) c
    have x4:=binV_xorB (xorB (xorB (xtB (xorB a b)) b) c) d
    simp only[lp_mixd_0,mixcSt,wal,stV,seval,iteOmega,toNatUp,reduceCtorEq,get_map,t0,t1,t2,t3,g0,g1,g2,g3,s1,s2,s3,x1]
    refine sC (dbl_c G (xorB a b)) ?_
    simp only[get_map,t0,t1,t2,t3,g0,g1,g2,g3,s1,s2,s3,x2,x3,x4,stO_bs h3 (one_b _),set_bs,h5,hl,wal,stV,seval,iteOmega,toNatUp,reduceCtorEq]
    refine lop_next (4*q+r+1) (by omega) (by omega) (ent_l (fun i=>i) ?_ ?_ rfl rfl) <;> simp only[wx,wex,wez,stV,seval,iteOmega,toNatUp,reduceCtorEq]
   ·obtain rfl:i=16:=by omega
    have e:upL (mixF (ofB16 s)) (repL 16 (0:UInt8)) 16=mixL s:=toL_upL _ (repL_len _ _)
    have e2:=mixL_len s
    simp only[lp_mixd_0,mixcSt,e,wal,stV,seval,iteOmega,toNatUp,reduceCtorEq,e2,flat_bs,repL_len]
    exact qd1
end Go.Proofs.YtbkhllchjbjhgaaDoor
namespace Go.Proofs.YtbkhllchjbjhgaaDoor
open Go.RowKit IntWalk
def wV0 (l:List UInt8) (c:UInt8) (j:Nat):UInt8:=if j=0 then xorB (subK (l.getD 13 0)) c else if j=1 then subK (l.getD 14 0) else if j=2 then subK (l.getD 15 0) else subK (l.getD 12 0)
def wV (l:List UInt8) (c:UInt8):Nat→Nat→UInt8
  | 0,j=>wV0 l c j
  | n+1,j=>if j=n%4 then xorB (l.getD n 0) (wV l c n (n%4)) else wV l c n j
def folF (l:List UInt8) (c:UInt8) (n:Nat):UInt8:=xorB (l.getD n 0) (wV l c n (n%4))
def folL (l:List UInt8) (c:UInt8):List UInt8:=toL (folF l c)
theorem folL_len (l:List UInt8) (c:UInt8):(folL l c).length=16:=toL_len _
def wL (l:List UInt8) (c:UInt8) (i:Nat):List UInt8:=(List.range 4).map (wV l c i)
theorem wL_len (l:List UInt8) (c:UInt8) (i:Nat):(wL l c i).length=4:=by simp[wL]
theorem wL_get (l:List UInt8) (c:UInt8) (i:Nat) {j:Nat} (h:j<4):(wL l c i)[j]?=some (wV l c i j):=by simp[wL,h]
theorem wL_step (l:List UInt8) (c:UInt8) (i:Nat):(wL l c i).set (i%4) (folF l c i)=wL l c (i+1):=by
  apply List.ext_getElem?
  intro j
  by_cases hj:j<4
  ·rw[wL_get _ _ _ hj,List.getElem?_set]
   by_cases e:i%4=j
   ·rw[if_pos e,if_pos (by rw[wL_len]; omega),wV,if_pos e.symm]; rfl
   ·rw[if_neg e,wL_get _ _ _ hj,wV,if_neg (fun h=>e h.symm)]
  ·rw[List.getElem?_eq_none (by rw[List.length_set,wL_len]; omega),List.getElem?_eq_none (by rw[wL_len]; omega)]
theorem wL_zero (l:List UInt8) (c:UInt8):[xorB (subK (l.getD 13 0)) c,subK (l.getD 14 0),subK (l.getD 15 0),subK (l.getD 12 0)]=wL l c 0:=rfl
def folSt (l:List UInt8) (c:UInt8) (i:Nat):St:=⟨ofL [(2,.w (.c (.pa 1 1))),(4,.w (.c (.pa 2 1))),(5,.w (.c (.pa 3 1))),(22,.w (.c (.d (.int .i64 (i:Int)))))],hL [(1,.row 1 ((upL (folF l c) l i).map bD)),(2,.row 1 ((repL 16 (0:UInt8)).map bD)),(3,.row 1 ((wL l c i).map bD))],uL [1,2,3]⟩
def lp_fol_0:SCode :=
 .seq (.reg [oO 23 (.bin .lss (.t 22) (kI 16))])
 (.seq (.cond (.t 23) (.skip)
 (.exit 0))
 (.seq (.block 1 (.seq (.reg [oM 24 22,
 oM 6 24])
 (.seq (.reg [oM 25 6,
 oO 26 (.idxPa 1 16 (.t 2) (.t 25)),
 oO 27 (.load .sc (.t 26)),
 oM 28 6,
 oO 29 (.bin .rem (.t 28) (kI 4)),
 oO 30 (.idxPa 1 4 (.t 5) (.t 29)),
 oO 31 (.load .sc (.t 30)),
 oO 32 (.bin .xor (.t 27) (.t 31)),
 oO 33 (.idxPa 1 16 (.t 2) (.t 25)),
 oN (.store .sc (.t 33) (.t 32))])
 (.reg [oM 34 6,
 oO 35 (.bin .rem (.t 34) (kI 4)),
 oM 36 6,
 oO 37 (.idxPa 1 16 (.t 2) (.t 36)),
 oO 38 (.load .sc (.t 37)),
 oO 39 (.idxPa 1 4 (.t 5) (.t 35)),
 oN (.store .sc (.t 39) (.t 38))]))))
 (.reg [oO 40 (.bin .add (.t 22) (kI 1)),
 oM 22 40])))
def sf_fol:SFn:=⟨2,42,
 .seq (.reg [oO 2 (.box .ownArr (.t 0)),
 oO 4 (.allocArr [(.int .u8 0),(.int .u8 0),(.int .u8 0),(.int .u8 0),(.int .u8 0),(.int .u8 0),(.int .u8 0),(.int .u8 0),(.int .u8 0),(.int .u8 0),(.int .u8 0),(.int .u8 0),(.int .u8 0),(.int .u8 0),(.int .u8 0),(.int .u8 0)])])
 (.seq (.reg [oO 7 (.idxPa 1 16 (.t 2) (kI 13)),
 oO 8 (.load .sc (.t 7)),
 oO 9 (.call 88 [(.t 8)] none),
 oM 10 1,
 oO 11 (.bin .xor (.t 9) (.t 10)),
 oO 12 (.idxPa 1 16 (.t 2) (kI 14)),
 oO 13 (.load .sc (.t 12)),
 oO 14 (.call 88 [(.t 13)] none),
 oO 15 (.idxPa 1 16 (.t 2) (kI 15)),
 oO 16 (.load .sc (.t 15)),
 oO 17 (.call 88 [(.t 16)] none),
 oO 18 (.idxPa 1 16 (.t 2) (kI 12)),
 oO 19 (.load .sc (.t 18)),
 oO 20 (.call 88 [(.t 19)] none),
 oO 21 (.build [(.d (.int .u8 0)),(.d (.int .u8 0)),(.d (.int .u8 0)),(.d (.int .u8 0))] [(0,1,(.t 11)),(1,1,(.t 14)),(2,1,(.t 17)),(3,1,(.t 20))]),
 oO 5 (.allocArr [(.int .u8 0),(.int .u8 0),(.int .u8 0),(.int .u8 0)]),
 oN (.store (.ag 4) (.t 5) (.t 21))])
 (.seq (.seq (.reg [oO 22 (.mv (kI 0))])
 (.block 0 (.loop lp_fol_0)))
 (.seq (.reg [oO 41 (.load (.ag 16) (.t 2)),
 oN (.store (.ag 16) (.t 4) (.t 41))])
 (.ret)))),
 [(4,(some (.ag 16)))]⟩
theorem cf_fol:compFn Tryd.prog { own:=[2],comp:=[],frz:=[],nils:=[] } Tryd.f76=some sf_fol:=by kernel_rfl
set_option maxHeartbeats 3200000 in
theorem fol_c (G:Glob) (l:List UInt8) (c:UInt8) (hl:l.length=16):Den Tryd.prog G 76 [.agg (l.map bD),bD c] (.w (.c (.d (.agg ((folL l c).map bD))))):=by
  refine den_walk Tryd.func76 cf_fol rfl rfl ?_
  have a13:l[13]?=some (l.getD 13 0):=get_lt (by omega)
  have a14:l[14]?=some (l.getD 14 0):=get_lt (by omega)
  have a15:l[15]?=some (l.getD 15 0):=get_lt (by omega)
  have a12:l[12]?=some (l.getD 12 0):=get_lt (by omega)
  have x0:=binV_xorB (subK (l.getD 13 0)) c
  have w0:=congrArg (List.map bD) (wL_zero l c)
  have wl:=wL_len l c 0
  simp only[List.map_cons,List.map_nil] at w0
  simp only[sf_fol,putAll,wal,stV,seval,iteOmega,toNatUp,reduceCtorEq,z16,hl,get_map,a13]
  refine sC (sub_c G (l.getD 13 0)) ?_
  simp only[x0,get_map,a14,hl,wal,stV,seval,iteOmega,toNatUp,reduceCtorEq]
  refine sC (sub_c G (l.getD 14 0)) ?_
  simp only[get_map,a15,hl,wal,stV,seval,iteOmega,toNatUp,reduceCtorEq]
  refine sC (sub_c G (l.getD 15 0)) ?_
  simp only[get_map,a12,hl,wal,stV,seval,iteOmega,toNatUp,reduceCtorEq]
  refine sC (sub_c G (l.getD 12 0)) ?_
  simp only[w0,wal,stV,seval,iteOmega,toNatUp,reduceCtorEq]
  refine loop_st (folSt l c) (fun i=>16-i) (fun i=>i≤16) 0 (Nat.zero_le _) ?_ ?_
  ·refine ent_l (fun i=>if i=1 then 16 else if i=2 then 32 else 40) ?_ ?_ rfl rfl <;> simp only[wx,wex,wez,stV,seval,iteOmega,toNatUp,reduceCtorEq,upL_zero]
  ·intro i hi
   have hu:(upL (folF l c) l i).length=16:=by rw[upL_len _ _ (by omega)]; exact hl
   by_cases hlt:i<16
   ·have hm:i%4<4:=Nat.mod_lt _ (by decide)
    have t1:Int.tmod (i:Int) 4=((i%4:Nat):Int):=tmodN i 4
    have g1:(upL (folF l c) l i)[i]?=some (l.getD i 0):=by rw[upL_get _ _ (Nat.le_refl i)]; exact get_lt (by omega)
    have g2:=wL_get l c i hm
    have x1:=binV_xorB (l.getD i 0) (wV l c i (i%4))
    have h3:i<(upL (folF l c) l i).length:=by omega
    have h4:i%4<(wL l c i).length:=by rw[wL_len]; exact hm
    have h5:(upL (folF l c) l i).set i (folF l c i)=upL (folF l c) l (i+1):=upL_step (folF l c) l (by omega)
    have h6:=wL_step l c i
    have g3:(upL (folF l c) l (i+1))[i]?=some (folF l c i):=upL_done _ _ (Nat.lt_succ_self i)
    have hf:xorB (l.getD i 0) (wV l c i (i%4))=folF l c i:=rfl
    have hwl:=wL_len l c i
    have hu2:(upL (folF l c) l (i+1)).length=16:=by rw[upL_len _ _ (by omega)]; exact hl
    generalize hq:i%4=q at *
    simp only[lp_fol_0,folSt,wal,stV,seval,iteOmega,toNatUp,reduceCtorEq,get_map,t1,g1,g2,x1,hf,stO_bs h3 (one_b _),stO_bs h4 (one_b _),set_bs,h5,h6,g3,hu,hu2,hwl]
    refine lop_next (i+1) (by omega) (by omega) (ent_l (fun i=>i) ?_ ?_ rfl rfl) <;> simp only[wx,wex,wez,stV,seval,iteOmega,toNatUp,reduceCtorEq]
   ·obtain rfl:i=16:=by omega
    have e:upL (folF l c) l 16=folL l c:=toL_upL _ hl
    have e2:=folL_len l c
    simp only[lp_fol_0,folSt,e,wal,stV,seval,iteOmega,toNatUp,reduceCtorEq,e2,flat_bs,repL_len]
    exact qd1
theorem getD_appC {P Q:List UInt8} {k n:Nat} (h:P.length=n):(P++Q).getD (n+k) 0=Q.getD k 0:=by
  rw[List.getD_eq_getElem?_getD,List.getD_eq_getElem?_getD,List.getElem?_append_right (by omega),h,Nat.add_sub_cancel_left]
theorem drop_app {P Q:List UInt8} {k n:Nat} (h:P.length=n):(P++Q).drop (n+k)=Q.drop k:=by
  rw[← h,List.drop_append,List.drop_eq_nil_of_le (by omega),List.nil_append,Nat.add_sub_cancel_left]
theorem nextK_app {P Q:List UInt8} {n:Nat} (h:P.length=4*n):nextK (P++Q) n=(List.range 4).map fun k=>xorB (Q.getD k 0) ((turnW (Q.drop 12) n).getD k 0):=by
  unfold nextK
  refine List.map_congr_left fun k _=>?_
  rw[getD_appC h,show 12+4*n=4*n+12 by omega,drop_app h]
theorem fol16 (b0 b1 b2 b3 b4 b5 b6 b7 b8 b9 b10 b11 b12 b13 b14 b15 c:UInt8):∃ f0 f1 f2 f3,
    f0=xorB b0 (xorB (subK b13) c)∧f1=xorB b1 (subK b14)∧f2=xorB b2 (subK b15)∧f3=xorB b3 (subK b12) ∧
    folL [b0,b1,b2,b3,b4,b5,b6,b7,b8,b9,b10,b11,b12,b13,b14,b15] c =
      [f0,f1,f2,f3,xorB b4 f0,xorB b5 f1,xorB b6 f2,xorB b7 f3,xorB b8 (xorB b4 f0),xorB b9 (xorB b5 f1),xorB b10 (xorB b6 f2),xorB b11 (xorB b7 f3),
       xorB b12 (xorB b8 (xorB b4 f0)),xorB b13 (xorB b9 (xorB b5 f1)),xorB b14 (xorB b10 (xorB b6 f2)),xorB b15 (xorB b11 (xorB b7 f3))] :=
  ⟨_,_,_,_,rfl,rfl,rfl,rfl,rfl⟩
theorem four_map (f:Nat→UInt8):(List.range 4).map f=[f 0,f 1,f 2,f 3]:=rfl
theorem rk_block {P:List UInt8} {r:Nat} (hP:P.length=16*r) (b0 b1 b2 b3 b4 b5 b6 b7 b8 b9 b10 b11 b12 b13 b14 b15:UInt8) (key:List UInt8)
    (h:rkN key (4*r)=P++[b0,b1,b2,b3,b4,b5,b6,b7,b8,b9,b10,b11,b12,b13,b14,b15]) :
    rkN key (4*(r+1))=rkN key (4*r)++folL [b0,b1,b2,b3,b4,b5,b6,b7,b8,b9,b10,b11,b12,b13,b14,b15] (conK r):=by
  obtain⟨f0,f1,f2,f3,e0,e1,e2,e3,ef⟩:=fol16 b0 b1 b2 b3 b4 b5 b6 b7 b8 b9 b10 b11 b12 b13 b14 b15 (conK r)
  have m0:4*r%4=0:=by omega
  have m1:(4*r+1)%4≠0:=by omega
  have m2:(4*r+2)%4≠0:=by omega
  have m3:(4*r+3)%4≠0:=by omega
  have d0:4*r / 4=r:=by omega
  have n0:nextK (rkN key (4*r)) (4*r)=[f0,f1,f2,f3]:=by
    rw[h,nextK_app (by omega),four_map]
    unfold turnW
    rw[if_pos m0,d0,e0,e1,e2,e3]; rfl
  have s1:rkN key (4*r+1)=(P++[b0,b1,b2,b3])++[b4,b5,b6,b7,b8,b9,b10,b11,b12,b13,b14,b15,f0,f1,f2,f3]:=by
    rw[rkN,n0,h]; simp
  have n1:nextK (rkN key (4*r+1)) (4*r+1)=[xorB b4 f0,xorB b5 f1,xorB b6 f2,xorB b7 f3]:=by
    rw[s1,nextK_app (by simp; omega),four_map]
    unfold turnW
    rw[if_neg m1]; rfl
  have s2:rkN key (4*r+2)=(P++[b0,b1,b2,b3,b4,b5,b6,b7])++[b8,b9,b10,b11,b12,b13,b14,b15,f0,f1,f2,f3,xorB b4 f0,xorB b5 f1,xorB b6 f2,xorB b7 f3]:=by
    rw[show 4*r+2=(4*r+1)+1 from rfl,rkN,n1,s1]; simp
  have n2:nextK (rkN key (4*r+2)) (4*r+2)=[xorB b8 (xorB b4 f0),xorB b9 (xorB b5 f1),xorB b10 (xorB b6 f2),xorB b11 (xorB b7 f3)]:=by
    rw[s2,nextK_app (by simp; omega),four_map]
    unfold turnW
    rw[if_neg m2]; rfl
  have s3:rkN key (4*r+3)=(P++[b0,b1,b2,b3,b4,b5,b6,b7,b8,b9,b10,b11])++[b12,b13,b14,b15,f0,f1,f2,f3,xorB b4 f0,xorB b5 f1,xorB b6 f2,xorB b7 f3,xorB b8 (xorB b4 f0),xorB b9 (xorB b5 f1),xorB b10 (xorB b6 f2),xorB b11 (xorB b7 f3)]:=by
    rw[show 4*r+3=(4*r+2)+1 from rfl,rkN,n2,s2]; simp
  have n3:nextK (rkN key (4*r+3)) (4*r+3)=[xorB b12 (xorB b8 (xorB b4 f0)),xorB b13 (xorB b9 (xorB b5 f1)),xorB b14 (xorB b10 (xorB b6 f2)),xorB b15 (xorB b11 (xorB b7 f3))]:=by
    rw[s3,nextK_app (by simp; omega),four_map]
    unfold turnW
    rw[if_neg m3]; rfl
  rw[show 4*(r+1)=(4*r+3)+1 by omega,rkN,n3,s3,ef,h]
  simp
def kb (key:List UInt8) (r:Nat):List UInt8:=(rkN key (4*r)).drop (16*r)
theorem kb_len {key:List UInt8} (h:key.length=16) (r:Nat):(kb key r).length=16:=by
  unfold kb; rw[List.length_drop,rkN_len h]; omega
theorem list16 {l:List UInt8} (h:l.length=16):∃ b0 b1 b2 b3 b4 b5 b6 b7 b8 b9 b10 b11 b12 b13 b14 b15,l=[b0,b1,b2,b3,b4,b5,b6,b7,b8,b9,b10,b11,b12,b13,b14,b15]:=by
  rcases l with _ | ⟨b0,l⟩ <;> simp at h
  rcases l with _ | ⟨b1,l⟩ <;> simp at h
  rcases l with _ | ⟨b2,l⟩ <;> simp at h
  rcases l with _ | ⟨b3,l⟩ <;> simp at h
  rcases l with _ | ⟨b4,l⟩ <;> simp at h
  rcases l with _ | ⟨b5,l⟩ <;> simp at h
  rcases l with _ | ⟨b6,l⟩ <;> simp at h
  rcases l with _ | ⟨b7,l⟩ <;> simp at h
  rcases l with _ | ⟨b8,l⟩ <;> simp at h
  rcases l with _ | ⟨b9,l⟩ <;> simp at h
  rcases l with _ | ⟨b10,l⟩ <;> simp at h
  rcases l with _ | ⟨b11,l⟩ <;> simp at h
  rcases l with _ | ⟨b12,l⟩ <;> simp at h
  rcases l with _ | ⟨b13,l⟩ <;> simp at h
  rcases l with _ | ⟨b14,l⟩ <;> simp at h
  rcases l with _ | ⟨b15,l⟩ <;> simp at h
  subst h
  exact⟨_,_,_,_,_,_,_,_,_,_,_,_,_,_,_,_,rfl⟩
theorem rk_next {key:List UInt8} (h:key.length=16) (r:Nat):rkN key (4*(r+1))=rkN key (4*r)++folL (kb key r) (conK r):=by
  obtain⟨b0,b1,b2,b3,b4,b5,b6,b7,b8,b9,b10,b11,b12,b13,b14,b15,e⟩:=list16 (kb_len h r)
  rw[e]
  refine rk_block (P:=(rkN key (4*r)).take (16*r)) ?_ _ _ _ _ _ _ _ _ _ _ _ _ _ _ _ _ key ?_
  ·rw[List.length_take,rkN_len h]; omega
  ·rw[← e]; exact (List.take_append_drop _ _).symm
def rkP (key:List UInt8) (i:Nat):List UInt8:=rkN key (4*i)++repL (160-16*i) 0
theorem rkP_len {key:List UInt8} (h:key.length=16) {i:Nat} (hi:i≤10):(rkP key i).length=176:=by
  unfold rkP; rw[List.length_append,rkN_len h,repL_len]; omega
theorem rkP_zero {key:List UInt8} (h:key.length=16):setR (repL 176 (0:UInt8)) 0 key=rkP key 0:=by
  unfold setR rkP repL
  rw[List.take_zero,List.nil_append,List.drop_replicate,h]; rfl
theorem rkP_part {key:List UInt8} (h:key.length=16) {i:Nat} (hi:i≤10):((rkP key i).drop (i*16)).take 16=kb key i:=by
  unfold rkP
  rw[Nat.mul_comm,List.drop_append_of_le_length (by rw[rkN_len h]; omega)]
  exact List.take_left' (kb_len h i)
theorem rkP_step {key:List UInt8} (h:key.length=16) {i:Nat} (hi:i<10):setR (rkP key i) ((i+1)*16) (folL (kb key i) (conK i))=rkP key (i+1):=by
  have hl:(rkN key (4*i)).length=(i+1)*16:=by rw[rkN_len h]; omega
  unfold setR rkP
  rw[rk_next h,List.take_append_of_le_length (by omega),List.take_of_length_le (by omega),folL_len,List.drop_append,List.drop_eq_nil_of_le (by omega),List.nil_append,hl]
  congr 1
  unfold repL
  rw[List.drop_replicate]
  congr 1
  omega
theorem rkP_full (key:List UInt8):rkP key 10=rkK key:=by
  unfold rkP repL rkK; rw[show 160-16*10=0 from rfl,List.replicate_zero,List.append_nil]
end Go.Proofs.YtbkhllchjbjhgaaDoor
namespace Go.Proofs.YtbkhllchjbjhgaaDoor
open Go.RowKit IntWalk
set_option maxHeartbeats 3200000
def expdSt (key:List UInt8) (i:Nat):St:=⟨ofL [(2,.w (.c (.ptr 2 1 0 0))),(3,.w (.c (.ptr 1 1 0 0))),(4,.w (.c (.d (bD (conK i))))),(5,.w (.c (.d (.int .i64 ((i+1:Nat):Int)))))],hL [(1,.box ((rkP key i).map bC)),(2,.box ((repL 176 (0:UInt8)).map bC))],uL [1,2]⟩
theorem con0:conK 0=1:=rfl
def lp_expd_0:SCode :=
 .seq (.seq (.reg [oM 10 5,
 oO 11 (.bin .leq (.t 10) (kI 10))])
 (.cond (.t 11) (.skip)
 (.exit 0)))
 (.seq (.block 1 (.seq (.reg [oM 14 5,
 oM 15 5,
 oO 16 (.bin .sub (.t 15) (kI 1)),
 oO 17 (.idxPa 16 11 (.t 3) (.t 16)),
 oO 18 (.load (.ag 16) (.t 17)),
 oM 19 4,
 oO 20 (.call 76 [(.t 18),(.t 19)] none),
 oO 21 (.idxPa 16 11 (.t 3) (.t 14)),
 oN (.store (.ag 16) (.t 21) (.t 20))])
 (.reg [oM 22 4,
 oO 23 (.call 77 [(.t 22)] none),
 oM 4 23])))
 (.reg [oM 12 5,
 oO 13 (.bin .add (.t 12) (kI 1)),
 oM 5 13]))
def sf_expd:SFn:=⟨1,25,
 .seq (.reg [oO 2 (.alloc (repL 176 (.d (.int .u8 0))))])
 (.seq (.reg [oO 3 (.alloc (repL 176 (.d (.int .u8 0))))])
 (.seq (.reg [oO 6 (.idxPa 16 11 (.t 3) (kI 0)),
 oO 7 (.sliceArr 1 16 (.t 6) none none),
 oM 8 0,
 oO 9 (.copy 1 (.t 7) (.t 8))])
 (.seq (.reg [oO 4 (.mv (.k (.c (.d (.int .u8 1)))))])
 (.seq (.seq (.reg [oO 5 (.mv (kI 1))])
 (.block 0 (.loop lp_expd_0)))
 (.seq (.reg [oO 24 (.load (.ag 176) (.t 3)),
 oN (.store (.ag 176) (.t 2) (.t 24))])
 (.ret)))))),
 [(2,(some (.ag 176)))]⟩
theorem cf_expd:compFn Tryd.prog { own:=[],comp:=[],frz:=[],nils:=[] } Tryd.f66=some sf_expd:=by kernel_rfl
theorem expd_c (G:Glob) (key:List UInt8) (h:key.length=16):Den Tryd.prog G 66 [.sl (key.map bD)] (.w (.c (.d (.agg ((rkK key).map bD))))):=by
  refine den_walk Tryd.func66 cf_expd rfl rfl ?_
  have ht:key.take 16=key:=List.take_of_length_le (by omega)
  have h0:key++List.drop key.length (repL 176 (0:UInt8))=rkP key 0:=by rw[← rkP_zero h]; simp[setR]
  have hid:=ids_bC (rkP key 0)
  have hid2:=ids_bC (repL 176 (0:UInt8))
  simp only[sf_expd,putAll,wal,stV,seval,iteOmega,toNatUp,reduceCtorEq,repL_bC,len_map,repL_len,take_map,ht,flat_bs,map_C,setR_map,h0]
  refine loop_st (expdSt key) (fun i=>10-i) (fun i=>i≤10) 0 (Nat.zero_le _) ?_ ?_
  ·refine ent_l (fun i=>if i=1 then 24 else 16) ?_ ?_ rfl (by simp[V.ids,W.ids,C.ids,Ob.ids,ids_bC]) <;> simp only[wx,wex,wez,stV,seval,iteOmega,toNatUp,reduceCtorEq,con0,bD1,ren_bC,ids_bC]
  ·intro i hi
   have hl:=rkP_len h hi
   by_cases hlt:i<10
   ·have g1:=rkP_part h hi
    have h5:List.take ((i+1)*16) (rkP key i)++folL (kb key i) (conK i)++List.drop ((i+1)*16+16) (rkP key i)=rkP key (i+1):=by
      rw[← rkP_step h hlt]; unfold setR; rw[folL_len]
    have hf:=folL_len (kb key i) (conK i)
    have hx:xtB (conK i)=conK (i+1):=rfl
    have s1:((i:Int)+1-1).toNat=i:=by omega
    simp only[lp_expd_0,expdSt,wal,stV,seval,iteOmega,toNatUp,reduceCtorEq,len_map,hl,take_map,drop_map,g1,allD_bs]
    refine sC (fol_c G (kb key i) (conK i) (kb_len h i)) ?_
    simp only[len_map,hl,map_C,hf,take_map,drop_map,app_map,h5,wal,stV,seval,iteOmega,toNatUp,reduceCtorEq]
    refine sC (dbl_c G (conK i)) ?_
    simp only[hx,wal,stV,seval,iteOmega,toNatUp,reduceCtorEq]
    refine lop_next (i+1) (by omega) (by omega) (ent_l (fun i=>i) ?_ ?_ rfl (by simp[V.ids,W.ids,C.ids,Ob.ids,ids_bC])) <;> simp only[wx,wex,wez,stV,seval,iteOmega,toNatUp,reduceCtorEq,ren_bC,ids_bC]
   ·obtain rfl:i=10:=by omega
    have e:=rkP_full key
    have e2:=rkK_len h
    rw[e] at hl
    have t1:(rkK key).take 176=rkK key:=List.take_of_length_le (by omega)
    have t2:List.drop 176 (repL 176 (0:UInt8))=[]:=List.drop_eq_nil_of_le (by rw[repL_len]; omega)
    have t3:rkK key++List.drop (rkK key).length (repL 176 (0:UInt8))=rkK key:=by rw[e2,t2,List.append_nil]
    simp only[lp_expd_0,expdSt,e,wal,stV,seval,iteOmega,toNatUp,reduceCtorEq,len_map,hl,e2,t1,t2,t3,allD_bs,map_C,repL_len,take_map,drop_map,app_map,List.append_nil]
    exact ret_d1 (by simp only[wal,stV,seval,iteOmega,toNatUp,reduceCtorEq,len_map,hl,e2,t1,t2,t3,allD_bs,map_C,repL_len,take_map,drop_map,app_map,List.append_nil])
theorem allDn_bs (l:List UInt8):allDn ((l.map bD).map C.d)=some (l.map bD):=by
  induction l with
  | nil=>rfl
  | cons x l ih =>
    show allDn (C.d (bD x)::(l.map bD).map C.d)=_
    simp only[allDn,ih,List.map_cons,Option.map_some]
theorem addL_enc (rk b:List UInt8) (hb:b.length=16):addL b (toL (keyF rk 0))=toL (encF (keyF rk) (ofB16 b) 0):=by
  have:=addL_toL (ofB16 b) (keyF rk 0)
  rw[toL_of hb] at this
  exact this
theorem rnd_enc (rk b:List UInt8) {n:Nat} (h:n+1<10):addL (mixL (subL (toL (encF (keyF rk) (ofB16 b) n)))) (toL (keyF rk (n+1)))=toL (encF (keyF rk) (ofB16 b) (n+1)):=by
  rw[subL_toL,mixL_toL,addL_toL]
  show _=toL (roundF _ _ _)
  unfold roundF
  rw[if_pos h]
theorem last_enc (rk b:List UInt8):addL (subL (toL (encF (keyF rk) (ofB16 b) 9))) (toL (keyF rk 10))=encK rk b:=by
  rw[subL_toL,addL_toL]
  rfl
def encSt (rk b:List UInt8) (i:Nat):St:=⟨ofL [(2,.w (.c (.rp (rk.map bD)))),(4,.w (.c (.pa 2 1))),(5,.w (.c (.pa 1 1))),(6,.w (.c (.d (.int .i64 ((i+1:Nat):Int)))))],hL [(1,.row 1 ((toL (encF (keyF rk) (ofB16 b) i)).map bD)),(2,.row 1 ((repL 16 (0:UInt8)).map bD))],uL [1,2]⟩
def lp_encd_0:SCode :=
 .seq (.seq (.reg [oM 14 6,
 oO 15 (.bin .lss (.t 14) (kI 10))])
 (.cond (.t 15) (.skip)
 (.exit 0)))
 (.seq (.block 1 (.reg [oO 18 (.load (.ag 16) (.t 5)),
 oO 19 (.call 81 [(.t 18)] none),
 oO 20 (.call 80 [(.t 19)] none),
 oM 21 6,
 oO 22 (.idxPa 16 11 (.t 2) (.t 21)),
 oO 23 (.load (.ag 16) (.t 22)),
 oO 24 (.call 79 [(.t 20),(.t 23)] none),
 oN (.store (.ag 16) (.t 5) (.t 24))]))
 (.reg [oM 16 6,
 oO 17 (.bin .add (.t 16) (kI 1)),
 oM 6 17]))
def sf_encd:SFn:=⟨2,30,
 .seq (.reg [oO 2 (.box .roBox (.t 0)),
 oO 4 (.allocArr [(.int .u8 0),(.int .u8 0),(.int .u8 0),(.int .u8 0),(.int .u8 0),(.int .u8 0),(.int .u8 0),(.int .u8 0),(.int .u8 0),(.int .u8 0),(.int .u8 0),(.int .u8 0),(.int .u8 0),(.int .u8 0),(.int .u8 0),(.int .u8 0)])])
 (.seq (.reg [oO 5 (.allocArr [(.int .u8 0),(.int .u8 0),(.int .u8 0),(.int .u8 0),(.int .u8 0),(.int .u8 0),(.int .u8 0),(.int .u8 0),(.int .u8 0),(.int .u8 0),(.int .u8 0),(.int .u8 0),(.int .u8 0),(.int .u8 0),(.int .u8 0),(.int .u8 0)])])
 (.seq (.reg [oO 7 (.sliceArr 1 16 (.t 5) none none),
 oM 8 1,
 oO 9 (.copy 1 (.t 7) (.t 8))])
 (.seq (.reg [oO 10 (.load (.ag 16) (.t 5)),
 oO 11 (.idxPa 16 11 (.t 2) (kI 0)),
 oO 12 (.load (.ag 16) (.t 11)),
 oO 13 (.call 79 [(.t 10),(.t 12)] none),
 oN (.store (.ag 16) (.t 5) (.t 13))])
 (.seq (.seq (.reg [oO 6 (.mv (kI 1))])
 (.block 0 (.loop lp_encd_0)))
 (.seq (.reg [oO 25 (.load (.ag 16) (.t 5)),
 oO 26 (.call 81 [(.t 25)] none),
 oO 27 (.idxPa 16 11 (.t 2) (kI 10)),
 oO 28 (.load (.ag 16) (.t 27)),
 oO 29 (.call 79 [(.t 26),(.t 28)] none),
 oN (.store (.ag 16) (.t 4) (.t 29))])
 (.ret)))))),
 [(4,(some (.ag 16)))]⟩
theorem cf_encd:compFn Tryd.prog { own:=[],comp:=[],frz:=[],nils:=[] } Tryd.f68=some sf_encd:=by kernel_rfl
theorem encd_c (G:Glob) (rk b:List UInt8) (hk:rk.length=176) (hb:b.length=16):Den Tryd.prog G 68 [.agg (rk.map bD),.sl (b.map bD)] (.w (.c (.d (.agg ((encK rk b).map bD))))):=by
  refine den_walk Tryd.func68 cf_encd rfl rfl ?_
  have ht:b.take 16=b:=List.take_of_length_le (by omega)
  have key:∀ r,r≤10→(rk.drop (16*r)).take 16=toL (keyF rk r):=fun r hr=>by
    apply List.ext_getElem?
    intro j
    by_cases hj:j<16
    ·rw[toL_get _ hj,List.getElem?_take,if_pos hj,List.getElem?_drop]; exact get_lt (by omega)
    ·rw[List.getElem?_eq_none (by rw[List.length_take]; omega),List.getElem?_eq_none (by rw[toL_len]; omega)]
  have d1:b++List.drop b.length (repL 16 (0:UInt8))=b:=by rw[hb,List.drop_eq_nil_of_le (by rw[repL_len]; omega),List.append_nil]
  have d2:List.drop 16 (repL 16 (0:UInt8))=[]:=List.drop_eq_nil_of_le (by rw[repL_len]; omega)
  have k0:=key 0 (by decide)
  have l0:(toL (keyF rk 0)).length=16:=toL_len _
  have t0:(toL (keyF rk 0)).take 16=toL (keyF rk 0):=List.take_of_length_le (by rw[toL_len]; omega)
  have a0:=addL_enc rk b hb
  have la:=toL_len (encF (keyF rk) (ofB16 b) 0)
  simp only[Nat.mul_zero,List.drop_zero] at k0
  simp only[sf_encd,putAll,wal,stV,seval,iteOmega,toNatUp,reduceCtorEq,z16,allDn_bs,repL_len,take_map,ht,drop_map,app_map,d1,d2,k0,flat_bs,hb,l0,t0,List.append_nil,List.length_nil]
  refine sC (com_c G b (toL (keyF rk 0)) hb l0) ?_
  simp only[a0,la,repL_len,wal,stV,seval,iteOmega,toNatUp,reduceCtorEq]
  refine loop_st (encSt rk b) (fun i=>9-i) (fun i=>i≤9) 0 (Nat.zero_le _) ?_ ?_
  ·refine ent_l (fun i=>if i=1 then 40 else 32) ?_ ?_ rfl rfl <;> simp only[wx,wex,wez,stV,seval,iteOmega,toNatUp,reduceCtorEq]
  ·intro i hi
   have le:=toL_len (encF (keyF rk) (ofB16 b) i)
   have hr:i+1≤10:=by omega
   have k1:=key (i+1) hr
   rw[Nat.mul_comm] at k1
   have l1:(toL (keyF rk (i+1))).length=16:=toL_len _
   have t1:(toL (keyF rk (i+1))).take 16=toL (keyF rk (i+1)):=List.take_of_length_le (by rw[toL_len]; omega)
   by_cases hlt:i<9
   ·have h5:=rnd_enc rk b (n:=i) (by omega)
    have le2:=toL_len (encF (keyF rk) (ofB16 b) (i+1))
    simp only[lp_encd_0,encSt,wal,stV,seval,iteOmega,toNatUp,reduceCtorEq,le,flat_bs]
    refine sD (repl_c G (toL (encF (keyF rk) (ofB16 b) i)) le) ?_
    refine sC (mixd_c G _ (subL_len _)) ?_
    simp only[take_map,drop_map,k1,l1,t1,wal,stV,seval,iteOmega,toNatUp,reduceCtorEq]
    refine sC (com_c G _ _ (mixL_len _) l1) ?_
    simp only[h5,le2,le,wal,stV,seval,iteOmega,toNatUp,reduceCtorEq]
    refine lop_next (i+1) (by omega) (by omega) (ent_l (fun i=>i) ?_ ?_ rfl rfl) <;> simp only[wx,wex,wez,stV,seval,iteOmega,toNatUp,reduceCtorEq]
   ·obtain rfl:i=9:=by omega
    have h5:=last_enc rk b
    have le2:=encK_len rk b
    simp only[lp_encd_0,encSt,wal,stV,seval,iteOmega,toNatUp,reduceCtorEq,le,flat_bs]
    refine sC (repl_c G (toL (encF (keyF rk) (ofB16 b) 9)) le) ?_
    simp only[take_map,drop_map,k1,l1,t1,wal,stV,seval,iteOmega,toNatUp,reduceCtorEq]
    refine sC (com_c G _ _ (subL_len _) l1) ?_
    simp only[h5,le2,repL_len,wal,stV,seval,iteOmega,toNatUp,reduceCtorEq]
    exact ret_d1 (by simp only[wal,stV,seval,iteOmega,toNatUp,reduceCtorEq,le2,flat_bs])
end Go.Proofs.YtbkhllchjbjhgaaDoor
namespace Go.Proofs.YtbkhllchjbjhgaaDoor
open Go.RowKit
end Go.Proofs.YtbkhllchjbjhgaaDoor
namespace Go.Proofs.YtbkhllchjbjhgaaDoor
open Go.RowKit
end Go.Proofs.YtbkhllchjbjhgaaDoor
namespace Go.Proofs.YtbkhllchjbjhgaaDoor
open Go.RowKit IntWalk
set_option maxHeartbeats 1600000
theorem incL_app:∀ a b:List UInt8,incL (a++b)=if (incL b).2 then ((incL a).1++(incL b).1,(incL a).2) else (a++(incL b).1,false)
  | [],b=>by
    show incL b=if (incL b).2 then ([]++(incL b).1,true) else ([]++(incL b).1,false)
    rcases incL b with ⟨s,_ | _⟩ <;> rfl
  | x::a,b=>by
    have ih:=incL_app a b
    simp only[List.cons_append,incL,ih]
    cases h:(incL b).2
    ·simp
    ·simp only[if_true]
     cases h2:(incL a).2 <;> simp
def carry (c:List UInt8) (m:Nat):Prop:=(incL (c.drop m)).2=true
def cntL (c:List UInt8) (m:Nat):List UInt8:=c.take m++(incL (c.drop m)).1
theorem cntL_len (c:List UInt8) (m:Nat):(cntL c m).length=c.length:=by
  unfold cntL; rw[List.length_append,incL_len,← List.length_append,List.take_append_drop]
theorem cntL_start (c:List UInt8):cntL c c.length=c:=by unfold cntL; simp[incL]
theorem carry_start (c:List UInt8):carry c c.length:=by unfold carry; simp[incL]
theorem cntL_zero (c:List UInt8):cntL c 0=nextC c:=by unfold cntL nextC; simp
theorem cnt_get {c:List UInt8} {m:Nat} (h:m<c.length):(cntL c (m+1))[m]?=some (c.getD m 0):=by
  unfold cntL
  rw[List.getElem?_append_left (by rw[List.length_take]; omega),List.getElem?_take,if_pos (by omega)]
  exact get_lt h
theorem drop_cons {c:List UInt8} {m:Nat} (h:m<c.length):c.drop m=c.getD m 0::c.drop (m+1):=by
  rw[List.drop_eq_getElem_cons h,List.getD_eq_getElem?_getD,List.getElem?_eq_getElem h]; rfl
theorem cnt_set {c:List UInt8} {m:Nat} (h:m<c.length) (hc:carry c (m+1)):(cntL c (m+1)).set m (c.getD m 0+1)=cntL c m:=by
  have e:(incL (c.drop m)).1=(c.getD m 0+1)::(incL (c.drop (m+1))).1:=by
    rw[drop_cons h]
    unfold carry at hc
    simp only[incL,hc,if_true]
  have e2:c.take (m+1)=c.take m++[c.getD m 0]:=by
    rw[List.take_add_one,get_lt h]; rfl
  unfold cntL
  rw[e,e2,List.append_assoc,List.set_append_right _ _ (by rw[List.length_take]; omega),List.length_take,show m-min m c.length=0 by omega]
  rfl
theorem carry_step {c:List UInt8} {m:Nat} (h:m<c.length) (hc:carry c (m+1)):(incL (c.drop m)).2=(c.getD m 0+1==0):=by
  rw[drop_cons h]
  unfold carry at hc
  simp only[incL,hc,if_true]
theorem cnt_end {c:List UInt8} {m:Nat} (h:(incL (c.drop m)).2=false):cntL c m=nextC c:=by
  have:=incL_app (c.take m) (c.drop m)
  rw[List.take_append_drop,h] at this
  unfold nextC cntL
  rw[this]; rfl
theorem bl_add (x c:UInt8) (n:Int) (h:n=(c.toNat:Int)):binV .add (.w (.c (.d (bD x)))) (.w (.c (.d (.int .u8 n))))=some (bD (x+c)):=by
  subst h
  show binI .add .u8 (x.toNat:Int) .u8 (c.toNat:Int)=_
  rw[binI_add,IntKind.wrap_u8]
  show some (D.int .u8 (((x.toNat:Int)+(c.toNat:Int))%256))=_
  have:((x.toNat:Int)+(c.toNat:Int))%256=((x+c).toNat:Int):=by
    rw[UInt8.toNat_add]; simp
  rw[this]; rfl
def nexV (c:List UInt8):List UInt8:=if c.length=16 then nextC c else []
def nxSt (c:List UInt8) (m:Nat):St:=⟨ofL [(3,.w (.c (.own 1 1 0 16))),(4,.w (.c (.d (.int .i64 ((m:Int)-1)))))],hL [(1,.row 1 ((cntL c m).map bD))],uL [1]⟩
def lp_nex_0:SCode :=
 .seq (.seq (.reg [oM 14 4,
 oO 15 (.bin .geq (.t 14) (kI 0))])
 (.cond (.t 15) (.skip)
 (.exit 0)))
 (.seq (.block 1 (.seq (.reg [oM 18 3,
 oM 19 4,
 oO 20 (.idxSl 1 (.t 18) (.t 19)),
 oO 21 (.load .sc (.t 20)),
 oO 22 (.bin .add (.t 21) (.k (.c (.d (.int .u8 1))))),
 oO 23 (.idxSl 1 (.t 18) (.t 19)),
 oN (.store .sc (.t 23) (.t 22))])
 (.seq (.reg [oM 24 3,
 oM 25 4,
 oO 26 (.idxSl 1 (.t 24) (.t 25)),
 oO 27 (.load .sc (.t 26)),
 oO 28 (.bin .neq (.t 27) (.k (.c (.d (.int .u8 0)))))])
 (.cond (.t 28) (.exit 0)
 (.skip)))))
 (.reg [oM 16 4,
 oO 17 (.bin .sub (.t 16) (kI 1)),
 oM 4 17]))
def sf_nex:SFn:=⟨1,30,
 .seq (.reg [oO 2 (.mv (.k (.c .nil)))])
 (.seq (.seq (.reg [oM 5 0,
 oO 6 (.len (.t 5)),
 oO 7 (.bin .neq (.t 6) (kI 16))])
 (.cond (.t 7) (.seq (.reg [oO 2 (.mv (.k (.c .nil)))])
 (.ret))
 (.skip)))
 (.seq (.reg [oM 8 0,
 oO 9 (.bldSl false 1 1 (.sl []) [(0,(.t 8))]),
 oO 10 (.call 24 [(.t 9)] (some (0,1))),
 oM 3 10])
 (.seq (.seq (.reg [oM 11 3,
 oO 12 (.len (.t 11)),
 oO 13 (.bin .sub (.t 12) (kI 1)),
 oM 4 13])
 (.block 0 (.loop lp_nex_0)))
 (.seq (.reg [oM 29 3,
 oM 2 29])
 (.ret))))),
 [(2,none)]⟩
theorem cf_nex:compFn Tryd.prog { own:=[10],comp:=[],frz:=[],nils:=[] } Tryd.f69=some sf_nex:=by kernel_rfl
theorem nex_c (G:Glob) (c:List UInt8) (hc:c.length≤140737488355328):Den Tryd.prog G 69 [.sl (c.map bD)] (.w (.c (.fr 1 ((nexV c).map bD)))):=by
  refine den_walk Tryd.func69 cf_nex rfl rfl ?_
  unfold nexV
  by_cases h:c.length=16
  ·rw[if_pos h]
   have hj:=join_c G [c] (by simp) (by simp; omega)
   have hf:[c].flatten=c:=by simp
   rw[hf] at hj
   have hs:=cntL_start c
   rw[h] at hs
   simp only[sf_nex,putAll,wal,stV,seval,iteOmega,toNatUp,reduceCtorEq,h]
   refine sD (hj) ?_
   refine loop_st (nxSt c) (fun m=>m) (fun m=>m≤16∧carry c m) 16 ⟨Nat.le_refl _,by have:=carry_start c; rwa [h] at this⟩ ?_ ?_
   ·refine ent_l (fun i=>80) ?_ ?_ rfl rfl <;> simp only[wx,wex,wez,stV,seval,iteOmega,toNatUp,reduceCtorEq,hs,h] <;> rfl
   ·rintro m ⟨hm,hcar⟩
    rcases m with _ | q
    ·have e0:=cntL_zero c
     have hl:(nextC c).length=16:=by rw[nextC_len]; exact h
     simp only[lp_nex_0,nxSt,e0,Int.natCast_zero,Int.zero_sub,wal,stV,seval,iteOmega,toNatUp,reduceCtorEq]
     exact ret_own (id:=1) (n:=16) (s:=1) (by simp only[wx,stV,seval,iteOmega,toNatUp,reduceCtorEq]) (by simp only[wx,stV,seval,iteOmega,toNatUp,reduceCtorEq]) (by simp[hl])
    ·have hq:q<c.length:=by omega
     have hl1:(cntL c (q+1)).length=16:=by rw[cntL_len]; exact h
     have hl0:(cntL c q).length=16:=by rw[cntL_len]; exact h
     have g1:=cnt_get hq
     have h3:q<(cntL c (q+1)).length:=by omega
     have h5:=cnt_set hq hcar
     have g2:(cntL c q)[q]?=some (c.getD q 0+1):=by
       rw[← h5,List.getElem?_set_self (by omega)]
     have x1:=bl_add (c.getD q 0) 1 1 rfl
     have x2:=bl_neq (c.getD q 0+1) 0 0 rfl
     have hcs:=carry_step hq hcar
     have sub:((q:Int)+1-1)=(q:Int):=by omega
     by_cases hz:c.getD q 0+1=0
     ·have hz2:(c.getD q 0+1 != 0)=false:=by rw[hz]; rfl
      rw[hz2] at x2
      have hcar2:carry c q:=by unfold carry; rw[hcs,hz]; rfl
      simp only[lp_nex_0,nxSt,wal,stV,seval,iteOmega,toNatUp,reduceCtorEq,sub,get_map,g1,x1,stO_bs h3 (one_b _),set_bs,h5,g2,x2,hl1,hl0]
      refine lop_next q (by omega) ⟨by omega,hcar2⟩ (ent_l (fun i=>i) ?_ ?_ rfl rfl) <;> simp only[wx,wex,wez,stV,seval,iteOmega,toNatUp,reduceCtorEq]
     ·have hz2:(c.getD q 0+1 != 0)=true:=bne_iff_ne.2 hz
      rw[hz2] at x2
      have e0:cntL c q=nextC c:=cnt_end (by rw[hcs]; exact beq_eq_false_iff_ne.2 hz)
      rw[e0] at hl0 g2 h5
      simp only[lp_nex_0,nxSt,wal,stV,seval,iteOmega,toNatUp,reduceCtorEq,sub,get_map,g1,x1,stO_bs h3 (one_b _),set_bs,h5,g2,x2,hl1,e0]
      exact ret_own (id:=1) (n:=16) (s:=1) (by simp only[wx,stV,seval,iteOmega,toNatUp,reduceCtorEq]) (by simp only[wx,stV,seval,iteOmega,toNatUp,reduceCtorEq]) (by simp[hl0])
  ·rw[if_neg h]
   simp only[sf_nex,putAll,wal,stV,seval,iteOmega,toNatUp,reduceCtorEq]
   exact qf1
def blkE (key b:List UInt8):Int:=if key.length≠16 then 5 else if b.length≠16 then 3 else 0
def blkV (key b:List UInt8):List UInt8:=if key.length=16∧b.length=16 then blockC key b else []
def sf_blk:SFn:=⟨2,18,
 .seq (.reg [oO 4 (.mv (.k (.c .nil))),
 oO 5 (.mv (kI 0))])
 (.seq (.seq (.reg [oM 7 0,
 oO 8 (.len (.t 7)),
 oO 9 (.bin .neq (.t 8) (kI 16))])
 (.cond (.t 9) (.seq (.reg [oO 4 (.mv (.k (.c .nil))),
 oO 5 (.mv (kI 5))])
 (.ret))
 (.skip)))
 (.seq (.seq (.reg [oM 10 1,
 oO 11 (.len (.t 10)),
 oO 12 (.bin .neq (.t 11) (kI 16))])
 (.cond (.t 12) (.seq (.reg [oO 4 (.mv (.k (.c .nil))),
 oO 5 (.mv (kI 3))])
 (.ret))
 (.skip)))
 (.seq (.reg [oM 13 0,
 oO 14 (.call 66 [(.t 13)] none),
 oM 15 1,
 oO 16 (.call 68 [(.t 14),(.t 15)] none),
 oO 6 (.allocArr [(.int .u8 0),(.int .u8 0),(.int .u8 0),(.int .u8 0),(.int .u8 0),(.int .u8 0),(.int .u8 0),(.int .u8 0),(.int .u8 0),(.int .u8 0),(.int .u8 0),(.int .u8 0),(.int .u8 0),(.int .u8 0),(.int .u8 0),(.int .u8 0)]),
 oN (.store (.ag 16) (.t 6) (.t 16))])
 (.seq (.reg [oO 17 (.sliceArr 1 16 (.t 6) none none),
 oM 4 17,
 oO 5 (.mv (kI 0))])
 (.ret))))),
 [(4,none),(5,none)]⟩
theorem cf_blk:compFn Tryd.prog { own:=[],comp:=[],frz:=[],nils:=[] } Tryd.f82=some sf_blk:=by kernel_rfl
theorem blk_f (G:Glob) (key b:List UInt8) (hk:key.length≤9223372036854775807) (hb:b.length≤9223372036854775807):Den Tryd.prog G 82 [.sl (key.map bD),.sl (b.map bD)] (.tup [.c (.fr 1 ((blkV key b).map bD)),.c (.d (.int .i64 (blkE key b)))]):=by
  refine den_walk Tryd.func82 cf_blk rfl rfl ?_
  unfold blkV blkE
  by_cases h:key.length=16
  ·by_cases h2:b.length=16
   ·have hr:=rkK_len h
    have hl:(blockC key b).length=16:=encK_len _ _
    have ht:(blockC key b).take 16=blockC key b:=List.take_of_length_le (by omega)
    rw[if_pos ⟨h,h2⟩,if_neg (by simp[h]),if_neg (by simp[h2])]
    simp only[sf_blk,putAll,wal,stV,seval,iteOmega,toNatUp,reduceCtorEq,h,h2,z16]
    refine sD (expd_c G key h) ?_
    refine sC (encd_c G (rkK key) b hr h2) ?_
    simp only[encK_len,repL_len,hl,wal,stV,seval,iteOmega,toNatUp,reduceCtorEq]
    exact ret_f2 (by simp only[wal,stV,seval,iteOmega,toNatUp,reduceCtorEq,toFr,encK_len,hl,len_map]; rfl) (by simp only[wal,stV,seval,iteOmega,toNatUp,reduceCtorEq])
   ·rw[if_neg (fun k=>h2 k.2),if_neg (by simp[h]),if_pos h2]
    simp only[sf_blk,putAll,wal,stV,seval,iteOmega,toNatUp,reduceCtorEq,h]
    exact qf2
  ·rw[if_neg (fun k=>h k.1),if_pos h]
   simp only[sf_blk,putAll,wal,stV,seval,iteOmega,toNatUp,reduceCtorEq]
   exact qf2
def keyE (key:List UInt8):Int:=if key.length≠16 then 5 else 0
end Go.Proofs.YtbkhllchjbjhgaaDoor
namespace Go.Proofs.YtbkhllchjbjhgaaDoor
open Go.RowKit IntWalk
def padC0 (r n:Nat):Nat:=(n-r%n)%n
def padN (b:List UInt8) (n:Int):List UInt8:=if 1≤n∧n≤64 then b++List.replicate (padC0 b.length n.toNat) 0 else b
theorem padN_in (b:List UInt8) {n:Nat} (h:1≤n∧n≤64):padN b (n:Int)=b++List.replicate (padC0 b.length n) 0:=by
  unfold padN; rw[if_pos (by omega),Int.toNat_natCast]
theorem padN_out (b:List UInt8) {n:Int} (h:¬ (1≤n∧n≤64)):padN b n=b:=if_neg h
theorem padC0_lt (r:Nat) {n:Nat} (h:1≤n):padC0 r n<n:=Nat.mod_lt _ (by omega)
theorem putL_z3 (n:Nat):putL 0 n=List.replicate n 0:=by
  unfold putL
  simp only[Nat.zero_div]
  induction n with
  | zero=>rfl
  | succ n ih=>rw[List.range_succ,List.map_append,ih,List.replicate_succ']; rfl
theorem tmodNN (a b:Nat):Int.tmod (a:Int) (b:Int)=((a%b:Nat):Int):=rfl
def sf_pad:SFn:=⟨2,28,
 .seq (.reg [oO 4 (.mv (.k (.c .nil)))])
 (.seq (.seq (.reg [oM 6 1,
 oO 7 (.bin .lss (.t 6) (kI 1)),
 oM 8 7,
 oG 9 (.mv (.t 1)) 8 false,
 oG 10 (.bin .gtr (.t 9) (kI 64)) 8 false,
 oO 11 (.pick (.t 8) (.k (.c (.d (.bool true)))) (.t 10))])
 (.cond (.t 11) (.seq (.reg [oM 12 0,
 oO 13 (.bldSl false 1 1 (.sl []) [(0,(.t 12))]),
 oO 14 (.call 24 [(.t 13)] (some (0,1))),
 oM 4 14])
 (.ret))
 (.skip)))
 (.seq (.reg [oM 15 1,
 oM 16 0,
 oO 17 (.len (.t 16)),
 oM 18 1,
 oO 19 (.bin .rem (.t 17) (.t 18)),
 oO 20 (.bin .sub (.t 15) (.t 19)),
 oM 21 1,
 oO 22 (.bin .rem (.t 20) (.t 21)),
 oM 5 22])
 (.seq (.reg [oM 23 0,
 oM 24 5,
 oO 25 (.call 25 [(.k (.c (.d (.int .u64 0)))),(.t 24)] none),
 oO 26 (.bldSl false 2 1 (.sl []) [(0,(.t 23)),(1,(.t 25))]),
 oO 27 (.call 24 [(.t 26)] (some (0,1))),
 oM 4 27])
 (.ret)))),
 [(4,none)]⟩
theorem cf_pad:compFn Tryd.prog { own:=[14,27],comp:=[],frz:=[],nils:=[] } Tryd.f92=some sf_pad:=by kernel_rfl
set_option maxHeartbeats 1600000 in
theorem pad_c (G:Glob) (b:List UInt8) (n:Int) (hb:b.length≤70368744177664):Den Tryd.prog G 92 [.sl (b.map bD),.int .i64 n] (.w (.c (.fr 1 ((padN b n).map bD)))):=by
  refine den_walk Tryd.func92 cf_pad rfl rfl ?_
  by_cases hc:1≤n∧n≤64
  ·obtain⟨m,rfl⟩:=Int.eq_ofNat_of_zero_le (show 0≤n by omega)
   rw[padN_in b (by omega)]
   have hr:b.length%m<m:=Nat.mod_lt _ (by omega)
   have hk:padC0 b.length m=(m-b.length%m)%m:=rfl
   have hlt:=padC0_lt b.length (n:=m) (by omega)
   have e1:=tmodNN b.length m
   have e2:Int.tmod ((m:Int)-((b.length%m:Nat):Int)) (m:Int)=((padC0 b.length m:Nat):Int):=by
     rw[show (m:Int)-((b.length%m:Nat):Int)=((m-b.length%m:Nat):Int) by omega,tmodNN,hk]
   have hm:((m:Int)=0)=False:=eq_false (by omega)
   have hp:=put_in G 0 (padC0 b.length m) (by omega)
   have hj:=join_c G [b,putL 0 (padC0 b.length m)] (by simp) (by simp[putL_length]; omega)
   have hf:[b,putL 0 (padC0 b.length m)].flatten=b++List.replicate (padC0 b.length m) 0:=by rw[putL_z3]; simp
   rw[hf] at hj
   generalize padC0 b.length m=k at *
   simp only[sf_pad,putAll,wal,stV,seval,iteOmega,toNatUp,reduceCtorEq,e1,e2,hm]
   refine sD (hp) ?_
   refine sD (hj) ?_
   exact qf1
  ·rw[padN_out b hc]
   have hj:=join_c G [b] (by simp) (by simp; omega)
   have hf:[b].flatten=b:=by simp
   rw[hf] at hj
   by_cases h1:n<1
   ·simp only[sf_pad,putAll,wal,stV,seval,iteOmega,toNatUp,reduceCtorEq]
    refine sD (hj) ?_
    exact qf1
   ·have h2:64<n:=by omega
    simp only[sf_pad,putAll,wal,stV,seval,iteOmega,toNatUp,reduceCtorEq]
    refine sD (hj) ?_
    exact qf1
end Go.Proofs.YtbkhllchjbjhgaaDoor
namespace Go.Proofs.YtbkhllchjbjhgaaDoor
open Go.RowKit IntWalk
set_option maxHeartbeats 1600000
def dG (b:List UInt8) (j:Nat):UInt8:=if j<15 then orB (shlB (b.getD j 0) 1) (shrB (b.getD (j+1) 0) 7) else shlB (b.getD j 0) 1
def dGL (b:List UInt8):List UInt8:=(List.range 16).map (dG b)
theorem dGL_len (b:List UInt8):(dGL b).length=16:=by simp[dGL]
theorem dGL_get (b:List UInt8) {j:Nat} (h:j<16):(dGL b)[j]?=some (dG b j):=by simp[dGL,h]
def redB (b:List UInt8):UInt8:=selB (bitB (b.getD 0 0) 7) 135
theorem dblL_set {b:List UInt8} (h:b.length=16):(dGL b).set 15 (xorB (dG b 15) (redB b))=dblL b:=by
  unfold dblL
  rw[if_pos h]
  apply List.ext_getElem?
  intro j
  rw[List.getElem?_set]
  by_cases hj:j<16
  ·rw[toL_get _ hj]
   have hd:∀ k,ofB16 b k=b.getD k 0:=fun _=>rfl
   by_cases h15:15=j
   ·subst h15
    rw[if_pos rfl,if_pos (by rw[dGL_len]; decide)]
    simp only[dG,dblF,hd,redB,Nat.lt_irrefl,if_false,if_true,xorB_zero]
   ·rw[if_neg h15,dGL_get _ hj]
    have:j<15:=by omega
    simp only[dG,dblF,hd,if_pos this,if_neg (show ¬ j=15 by omega),xorB_zero,or_low]
  ·rw[if_neg (by omega),List.getElem?_eq_none (by rw[dGL_len]; omega),List.getElem?_eq_none (by rw[toL_len]; omega)]
theorem redB_mul (b:List UInt8):binV .mul (.w (.c (.d (bD (shrB (b.getD 0 0) 7))))) (.w (.c (.d (.int .u8 135))))=some (bD (redB b)):=by
  have key:=all_b (p:=fun x=>(shrB x 7).toNat*135%256==(selB (bitB x 7) 135).toNat) (by decide +kernel) (b.getD 0 0)
  rw[beq_iff_eq] at key
  show binI .mul .u8 _ .u8 _=_
  rw[binI_mul,IntKind.wrap_u8]
  unfold redB bD
  rw[← key]
  congr 2
theorem orB_zero (x:UInt8):orB x 0=x:=by
  have key:=all_b (p:=fun x=>orB x 0==x) (by decide +kernel) x
  rw[beq_iff_eq] at key
  exact key
theorem bD0:bD 0=.int .u8 0:=rfl
def cyB (b:List UInt8) (m:Nat):UInt8:=if m<16 then shrB (b.getD m 0) 7 else 0
theorem cyB_step (b:List UInt8) {q:Nat} (h:q<16):orB (shlB (b.getD q 0) 1) (cyB b (q+1))=dG b q:=by
  unfold cyB dG
  by_cases h2:q<15
  ·rw[if_pos (by omega),if_pos h2]
  ·rw[if_neg (by omega),if_neg h2,orB_zero]
theorem cyB_at (b:List UInt8) {q:Nat} (h:q<16):shrB (b.getD q 0) 7=cyB b q:=(if_pos h).symm
def dnL (l:List UInt8) (m:Nat):List UInt8:=List.replicate m 0++l.drop m
theorem dnL_len {l:List UInt8} {m:Nat} (h:m≤l.length):(dnL l m).length=l.length:=by
  unfold dnL; rw[List.length_append,List.length_replicate,List.length_drop]; omega
theorem dnL_zero (l:List UInt8):dnL l 0=l:=by simp[dnL]
theorem dnL_full {l:List UInt8} {m:Nat} (h:l.length=m):dnL l m=List.replicate m 0:=by
  unfold dnL; rw[List.drop_eq_nil_of_le (by omega),List.append_nil]
theorem dnL_step {l:List UInt8} {q:Nat} (h:q<l.length):(dnL l (q+1)).set q (l.getD q 0)=dnL l q:=by
  unfold dnL
  rw[List.replicate_succ',List.append_assoc,List.set_append_right _ _ (by simp),List.length_replicate,Nat.sub_self,List.drop_eq_getElem_cons h,List.getD_eq_getElem?_getD,List.getElem?_eq_getElem h]
  rfl
def dbSt (b:List UInt8) (m:Nat):St:=⟨ofL [(0,.w (.c (.d (.sl (b.map bD))))),(3,.w (.c (.own 1 1 0 16))),(4,.w (.c (.d (bD (cyB b m))))),(5,.w (.c (.d (.int .i64 ((m:Int)-1)))))],hL [(1,.row 1 ((dnL (dGL b) m).map bD))],uL [1]⟩
theorem dblL_no {b:List UInt8} (h:b.length≠16):dblL b=[]:=if_neg h
def lp_dbb_0:SCode :=
 .seq (.seq (.reg [oM 10 5,
 oO 11 (.bin .geq (.t 10) (kI 0))])
 (.cond (.t 11) (.skip)
 (.exit 0)))
 (.seq (.block 1 (.seq (.reg [oM 14 3,
 oM 15 5,
 oM 16 0,
 oM 17 5,
 oO 18 (.idxSl 1 (.t 16) (.t 17)),
 oO 19 (.load .sc (.t 18)),
 oO 20 (.bin .shl (.t 19) (.k (.c (.d (.int .u64 1))))),
 oM 21 4,
 oO 22 (.bin .or (.t 20) (.t 21)),
 oO 23 (.idxSl 1 (.t 14) (.t 15)),
 oN (.store .sc (.t 23) (.t 22))])
 (.reg [oM 24 0,
 oM 25 5,
 oO 26 (.idxSl 1 (.t 24) (.t 25)),
 oO 27 (.load .sc (.t 26)),
 oO 28 (.bin .shr (.t 27) (.k (.c (.d (.int .u64 7))))),
 oM 4 28])))
 (.reg [oM 12 5,
 oO 13 (.bin .sub (.t 12) (kI 1)),
 oM 5 13]))
def sf_dbb:SFn:=⟨1,37,
 .seq (.reg [oO 2 (.mv (.k (.c .nil)))])
 (.seq (.seq (.reg [oM 6 0,
 oO 7 (.len (.t 6)),
 oO 8 (.bin .neq (.t 7) (kI 16))])
 (.cond (.t 8) (.seq (.reg [oO 2 (.mv (.k (.c .nil)))])
 (.ret))
 (.skip)))
 (.seq (.reg [oO 9 (.make true 1 1 (.int .u8 0) (kI 16) (kI 16)),
 oM 3 9])
 (.seq (.reg [oO 4 (.mv (.k (.c (.d (.int .u8 0)))))])
 (.seq (.seq (.reg [oO 5 (.mv (kI 15))])
 (.block 0 (.loop lp_dbb_0)))
 (.seq (.reg [oM 29 3,
 oO 30 (.idxSl 1 (.t 29) (kI 15)),
 oO 31 (.load .sc (.t 30)),
 oM 32 4,
 oO 33 (.bin .mul (.t 32) (.k (.c (.d (.int .u8 135))))),
 oO 34 (.bin .xor (.t 31) (.t 33)),
 oO 35 (.idxSl 1 (.t 29) (kI 15)),
 oN (.store .sc (.t 35) (.t 34))])
 (.seq (.reg [oM 36 3,
 oM 2 36])
 (.ret))))))),
 [(2,none)]⟩
theorem cf_dbb:compFn Tryd.prog { own:=[],comp:=[],frz:=[],nils:=[] } Tryd.f83=some sf_dbb:=by kernel_rfl
theorem dbb_c (G:Glob) (b:List UInt8) (hb:b.length≤9223372036854775807):Den Tryd.prog G 83 [.sl (b.map bD)] (.w (.c (.fr 1 ((dblL b).map bD)))):=by
  refine den_walk Tryd.func83 cf_dbb rfl rfl ?_
  by_cases h:b.length=16
  ·have hd:=dblL_set h
   have hl:=dGL_len b
   simp only[sf_dbb,putAll,wal,stV,seval,iteOmega,toNatUp,reduceCtorEq,h,z16]
   refine loop_st (dbSt b) (fun m=>m) (fun m=>m≤16) 16 (Nat.le_refl _) ?_ ?_
   ·have e1:dnL (dGL b) 16=repL 16 0:=dnL_full hl
    have e2:cyB b 16=0:=rfl
    refine ent_l (fun i=>72) ?_ ?_ rfl rfl <;> simp only[wx,wex,wez,stV,seval,iteOmega,toNatUp,reduceCtorEq,e1,e2,bD0]
   ·intro m hm
    rcases m with _ | q
    ·have e0:=dnL_zero (dGL b)
     have c0:cyB b 0=shrB (b.getD 0 0) 7:=rfl
     have x1:=redB_mul b
     have g1:=dGL_get b (j:=15) (by decide)
     have x2:=binV_xorB (dG b 15) (redB b)
     have h3:15<(dGL b).length:=by omega
     have hdl:(dblL b).length=16:=dblL_len h
     simp only[lp_dbb_0,dbSt,e0,c0,Int.natCast_zero,Int.zero_sub,wal,stV,seval,iteOmega,toNatUp,reduceCtorEq,get_map,g1,x1,x2,stO_bs h3 (one_b _),set_bs,hd]
     exact ret_own (id:=1) (n:=16) (s:=1) (by simp only[wx,stV,seval,iteOmega,toNatUp,reduceCtorEq]) (by simp only[wx,stV,seval,iteOmega,toNatUp,reduceCtorEq]) (by simp[hdl])
    ·have hq:q<16:=by omega
     have g1:b[q]?=some (b.getD q 0):=get_lt (by omega)
     have hl1:=dnL_len (l:=dGL b) (m:=q+1) (by omega)
     have h3:q<(dnL (dGL b) (q+1)).length:=by omega
     have x1:=bl_shl (b.getD q 0) .u64 1 1 rfl (by decide)
     have x2:=binV_orB (shlB (b.getD q 0) 1) (cyB b (q+1))
     have x3:=bl_shr (b.getD q 0) .u64 7 7 rfl (by decide)
     have c1:=cyB_step b hq
     have c2:=cyB_at b hq
     have hs:=dnL_step (l:=dGL b) (q:=q) (by omega)
     have hg:(dGL b).getD q 0=dG b q:=by rw[List.getD_eq_getElem?_getD,dGL_get b hq]; rfl
     rw[hg] at hs
     have sub:((q:Int)+1-1)=(q:Int):=by omega
     simp only[lp_dbb_0,dbSt,wal,stV,seval,iteOmega,toNatUp,reduceCtorEq,sub,get_map,g1,x1,x2,x3,c1,c2,h,stO_bs h3 (one_b _),set_bs,hs]
     refine lop_next q (by omega) (by omega) (ent_l (fun i=>i) ?_ ?_ rfl rfl) <;> simp only[wx,wex,wez,stV,seval,iteOmega,toNatUp,reduceCtorEq]
  ·rw[dblL_no h]
   simp only[sf_dbb,putAll,wal,stV,seval,iteOmega,toNatUp,reduceCtorEq]
   exact qf1
def xrF (a b:List UInt8) (j:Nat):UInt8:=xorB (a.getD j 0) (b.getD j 0)
theorem xorP_up {a b:List UInt8} {n:Nat} (ha:a.length=n) (hb:b.length=n):(List.range n).map (xrF a b)=xorP a b:=by
  apply List.ext_getElem?
  intro j
  by_cases hj:j<n
  ·have:=xorP_get a b j (by omega) (by omega)
   have hl:j<(xorP a b).length:=by rw[xorP_len]; omega
   rw[get_lt hl,this]
   simp[hj,xrF]
  ·rw[List.getElem?_eq_none (by simpa using hj),List.getElem?_eq_none (by rw[xorP_len]; omega)]
def cmbSt (a b:List UInt8) (i:Nat):St:=⟨ofL [(0,.w (.c (.d (.sl (a.map bD))))),(1,.w (.c (.d (.sl (b.map bD))))),(5,.w (.c (.own 1 1 0 16))),(9,.w (.c (.d (.int .i64 16)))),(10,.w (.c (.d (.int .i64 (i:Int)))))],hL [(1,.row 1 ((upL (xrF a b) (repL 16 0) i).map bD))],uL [1]⟩
def lp_cmb_0:SCode :=
 .seq (.reg [oO 11 (.bin .lss (.t 10) (.t 9))])
 (.seq (.cond (.t 11) (.skip)
 (.exit 0))
 (.seq (.block 1 (.seq (.reg [oM 12 10,
 oM 6 12])
 (.reg [oM 13 5,
 oM 14 6,
 oM 15 0,
 oM 16 6,
 oO 17 (.idxSl 1 (.t 15) (.t 16)),
 oO 18 (.load .sc (.t 17)),
 oM 19 1,
 oM 20 6,
 oO 21 (.idxSl 1 (.t 19) (.t 20)),
 oO 22 (.load .sc (.t 21)),
 oO 23 (.bin .xor (.t 18) (.t 22)),
 oO 24 (.idxSl 1 (.t 13) (.t 14)),
 oN (.store .sc (.t 24) (.t 23))])))
 (.reg [oO 25 (.bin .add (.t 10) (kI 1)),
 oM 10 25])))
def sf_cmb:SFn:=⟨2,27,
 .seq (.reg [oO 4 (.mv (.k (.c .nil)))])
 (.seq (.reg [oO 7 (.make true 1 1 (.int .u8 0) (kI 16) (kI 16)),
 oM 5 7])
 (.seq (.seq (.reg [oM 8 5,
 oO 9 (.len (.t 8)),
 oO 10 (.mv (kI 0))])
 (.block 0 (.loop lp_cmb_0)))
 (.seq (.reg [oM 26 5,
 oM 4 26])
 (.ret)))),
 [(4,none)]⟩
theorem cf_cmb:compFn Tryd.prog { own:=[],comp:=[],frz:=[],nils:=[] } Tryd.f85=some sf_cmb:=by kernel_rfl
theorem cmb_c (G:Glob) (a b:List UInt8) (ha:a.length=16) (hb:b.length=16):Den Tryd.prog G 85 [.sl (a.map bD),.sl (b.map bD)] (.w (.c (.fr 1 ((xorP a b).map bD)))):=by
  refine den_walk Tryd.func85 cf_cmb rfl rfl ?_
  have zl:(repL 16 (0:UInt8)).length=16:=repL_len _ _
  simp only[sf_cmb,putAll,wal,stV,seval,iteOmega,toNatUp,reduceCtorEq,z16]
  refine loop_st (cmbSt a b) (fun i=>16-i) (fun i=>i≤16) 0 (Nat.zero_le _) ?_ ?_
  ·have e1:=upL_zero (xrF a b) (repL 16 0)
   refine ent_l (fun i=>56) ?_ ?_ rfl rfl <;> simp only[wx,wex,wez,stV,seval,iteOmega,toNatUp,reduceCtorEq,e1]
  ·intro i hi
   by_cases hlt:i<16
   ·have g1:a[i]?=some (a.getD i 0):=get_lt (by omega)
    have g2:b[i]?=some (b.getD i 0):=get_lt (by omega)
    have hl1:=upL_len (xrF a b) (repL 16 0) (i:=i) (by omega)
    have h3:i<(upL (xrF a b) (repL 16 0) i).length:=by omega
    have x1:=binV_xorB (a.getD i 0) (b.getD i 0)
    have hx:xorB (a.getD i 0) (b.getD i 0)=xrF a b i:=rfl
    have hs:=upL_step (xrF a b) (repL 16 0) (i:=i) (by omega)
    simp only[lp_cmb_0,cmbSt,wal,stV,seval,iteOmega,toNatUp,reduceCtorEq,get_map,g1,g2,x1,ha,hb,stO_bs h3 (one_b _),set_bs,hx,hs]
    refine lop_next (i+1) (by omega) (by omega) (ent_l (fun i=>i) ?_ ?_ rfl rfl) <;> simp only[wx,wex,wez,stV,seval,iteOmega,toNatUp,reduceCtorEq]
   ·obtain rfl:i=16:=by omega
    have e1:upL (xrF a b) (repL 16 0) 16=xorP a b:=by rw[upL_full _ _ (by rw[repL_len]; decide),xorP_up ha hb]
    have hl:(xorP a b).length=16:=by rw[xorP_len]; exact ha
    simp only[lp_cmb_0,cmbSt,e1,wal,stV,seval,iteOmega,toNatUp,reduceCtorEq]
    exact ret_own (id:=1) (n:=16) (s:=1) (by simp only[wx,stV,seval,iteOmega,toNatUp,reduceCtorEq]) (by simp only[wx,stV,seval,iteOmega,toNatUp,reduceCtorEq]) (by simp[hl])
end Go.Proofs.YtbkhllchjbjhgaaDoor
namespace Go.Proofs.YtbkhllchjbjhgaaDoor
open Go.RowKit IntWalk
set_option maxHeartbeats 3200000
theorem blkV_ok {key b:List UInt8} (h:key.length=16) (hb:b.length=16):blkV key b=encK (rkK key) b:=if_pos ⟨h,hb⟩
theorem blkE_ok {key b:List UInt8} (h:key.length=16) (hb:b.length=16):blkE key b=0:=by unfold blkE; rw[if_neg (by omega),if_neg (by omega)]
theorem padN_16 (b:List UInt8):padN b 16=padL b:=rfl
def cdD (key:List UInt8):D:=.agg [.sl (key.map bD),.sl ((sub1 (rkK key)).map bD),.sl ((sub2 (rkK key)).map bD)]
def cdV (key:List UInt8):D:=if key.length=16 then cdD key else .agg [.sl [],.sl [],.sl []]
theorem fl_bt (s:Nat) (l:List UInt8) (k:IntKind) (n:Int):V.flat (.tup [.c (.fr s (l.map bD)),.c (.d (.int k n))])=true:=by
  have:=fl_b s l
  simp only[V.flat,W.flat,List.all_cons,List.all_nil,Bool.and_true] at this ⊢
  rw[this]; rfl
def sf_kenc:SFn:=⟨2,15,
 .seq (.reg [oO 2 (.box .roBox (.t 0)),
 oO 4 (.mv (.k (.c .nil)))])
 (.seq (.reg [oO 8 (.fieldAddr 0 (.t 2)),
 oO 9 (.load .sc (.t 8)),
 oM 10 1,
 oO 11 (.call 82 [(.t 9),(.t 10)] (some (0,1))),
 oM 7 11,
 oO 12 (.extract (.t 7) 0),
 oO 13 (.extract (.t 7) 1),
 oM 5 12,
 oM 6 13])
 (.seq (.reg [oM 14 5,
 oM 4 14])
 (.ret))),
 [(4,none)]⟩
theorem cf_kenc:compFn Tryd.prog { own:=[],comp:=[(11,0)],frz:=[],nils:=[] } Tryd.f89=some sf_kenc:=by kernel_rfl
theorem kenc_f (G:Glob) (key b:List UInt8) (h:key.length=16) (hb:b.length=16):Den Tryd.prog G 89 [.agg [.sl (key.map bD)],.sl (b.map bD)] (.w (.c (.fr 1 ((encK (rkK key) b).map bD)))):=by
  refine den_walk Tryd.func89 cf_kenc rfl rfl ?_
  have hx:=blk_f G key b (by omega) (by omega)
  rw[blkV_ok h hb,blkE_ok h hb] at hx
  simp only[sf_kenc,putAll,wal,stV,seval,iteOmega,toNatUp,reduceCtorEq]
  refine sD (hx) ?_
  exact qf1
theorem kenc_c (G:Glob) (key b:List UInt8) (h:key.length=16) (hb:b.length=16):Den Tryd.prog G 89 [.agg [.sl (key.map bD)],.sl (b.map bD)] (.w (.c (.d (.sl ((encK (rkK key) b).map bD))))):=den_ro (kenc_f G key b h hb)
def sf_cdof:SFn:=⟨1,25,
 .seq (.reg [oO 2 (.alloc [.nil,.nil,.nil]),
 oO 3 (.mv (kI 0))])
 (.seq (.reg [oM 8 0,
 oO 9 (.make true 1 1 (.int .u8 0) (kI 16) (kI 16)),
 oO 10 (.call 82 [(.t 8),(.t 9)] none),
 oM 7 10,
 oO 11 (.extract (.t 7) 0),
 oO 12 (.extract (.t 7) 1),
 oM 4 11,
 oM 5 12])
 (.seq (.seq (.reg [oM 13 5,
 oO 14 (.bin .neq (.t 13) (kI 0))])
 (.cond (.t 14) (.seq (.reg [oO 15 (.build [.nil,.nil,.nil] []),
 oM 16 5,
 oN (.store (.ag 3) (.t 2) (.t 15)),
 oM 3 16])
 (.ret))
 (.skip)))
 (.seq (.reg [oM 17 4,
 oO 18 (.call 83 [(.t 17)] none),
 oM 6 18])
 (.seq (.reg [oM 19 0,
 oO 20 (.build [.nil] [(0,1,(.t 19))]),
 oM 21 6,
 oM 22 6,
 oO 23 (.call 83 [(.t 22)] none),
 oO 24 (.build [.nil,.nil,.nil] [(0,1,(.t 20)),(1,1,(.t 21)),(2,1,(.t 23))]),
 oN (.store (.ag 3) (.t 2) (.t 24)),
 oO 3 (.mv (kI 0))])
 (.ret))))),
 [(2,(some (.ag 3))),(3,none)]⟩
theorem cf_cdof:compFn Tryd.prog { own:=[],comp:=[],frz:=[],nils:=[] } Tryd.f72=some sf_cdof:=by kernel_rfl
theorem cdof_c (G:Glob) (key:List UInt8) (hk:key.length≤9223372036854775807):Den Tryd.prog G 72 [.sl (key.map bD)] (.tup [.c (.d (cdV key)),.c (.d (.int .i64 (keyE key)))]):=by
  refine den_walk Tryd.func72 cf_cdof rfl rfl ?_
  have t0:(repL 16 (0:UInt8)).take 16=zero16:=rfl
  by_cases h:key.length=16
  ·have hx:=blk_f G key zero16 (by omega) (by decide)
   rw[blkV_ok h (by decide),blkE_ok h (by decide)] at hx
   have hv:cdV key=cdD key:=if_pos h
   have he:keyE key=0:=by unfold keyE; rw[if_neg (by omega)]
   have h1:=dbb_c G (encK (rkK key) zero16) (by rw[encK_len]; decide)
   have h2:=dbb_c G (sub1 (rkK key)) (by rw[sub1_len]; decide)
   have s1:dblL (encK (rkK key) zero16)=sub1 (rkK key):=rfl
   have s2:dblL (sub1 (rkK key))=sub2 (rkK key):=rfl
   rw[s1] at h1
   rw[s2] at h2
   rw[hv,he]
   simp only[sf_cdof,putAll,wal,stV,seval,iteOmega,toNatUp,reduceCtorEq,z16]
   refine st_call hx (by simp only[wal,stV,seval,iteOmega,toNatUp,reduceCtorEq,take_map,t0,repL_len]) (.inr (fl_bt _ _ _ _)) ?_
   simp only[wal,stV,seval,iteOmega,toNatUp,reduceCtorEq]
   refine sD (h1) ?_
   refine sD (h2) ?_
   exact ret_d2 (by simp only[wal,stV,seval,iteOmega,toNatUp,reduceCtorEq,cdD]) (by simp only[wal,stV,seval,iteOmega,toNatUp,reduceCtorEq])
  ·have hv:cdV key=.agg [.sl [],.sl [],.sl []]:=if_neg h
   have he:keyE key=5:=if_pos h
   have hx:=blk_f G key zero16 (by omega) (by decide)
   have v1:blkV key zero16=[]:=if_neg (fun k=>h k.1)
   have v2:blkE key zero16=5:=if_pos h
   rw[v1,v2] at hx
   rw[hv,he]
   simp only[sf_cdof,putAll,wal,stV,seval,iteOmega,toNatUp,reduceCtorEq,z16]
   refine st_call hx (by simp only[wal,stV,seval,iteOmega,toNatUp,reduceCtorEq,take_map,t0,repL_len]) (.inr (fl_bt _ _ _ _)) ?_
   simp only[wal,stV,seval,iteOmega,toNatUp,reduceCtorEq]
   exact qd2
def sf_fild:SFn:=⟨1,8,
 .seq (.reg [oO 2 (.mv (.k (.c .nil)))])
 (.seq (.reg [oM 3 0,
 oO 4 (.bldSl false 1 1 (.int .u8 0) [(0,(.k (.c (.d (.int .u8 128)))))]),
 oO 5 (.bldSl false 2 1 (.sl []) [(0,(.t 3)),(1,(.t 4))]),
 oO 6 (.call 24 [(.t 5)] none),
 oO 7 (.call 92 [(.t 6),(kI 16)] none),
 oM 2 7])
 (.ret)),
 [(2,none)]⟩
theorem cf_fild:compFn Tryd.prog { own:=[],comp:=[],frz:=[],nils:=[] } Tryd.f91=some sf_fild:=by kernel_rfl
theorem fild_c (G:Glob) (b:List UInt8) (hb:b.length≤70000):Den Tryd.prog G 91 [.sl (b.map bD)] (.w (.c (.d (.sl ((padL (b++[128])).map bD))))):=by
  refine den_walk Tryd.func91 cf_fild rfl rfl ?_
  have hj:=join_c G [b,[128]] (by simp) (by simp; omega)
  have hf:[b,[128]].flatten=b++[128]:=by simp
  rw[hf] at hj
  have hp:=pad_c G (b++[128]) 16 (by simp; omega)
  rw[padN_16] at hp
  simp only[sf_fild,putAll,wal,stV,seval,iteOmega,toNatUp,reduceCtorEq]
  refine sD (hj) ?_
  refine sD (hp) ?_
  exact qd1
theorem endM_full (rk:List UInt8) {e:List UInt8} (h:e.length=16):endM rk e=xorP e (sub1 rk):=if_pos h
theorem endM_part (rk:List UInt8) {e:List UInt8} (h:e.length≠16):endM rk e=xorP (padL (e++[128])) (sub2 rk):=if_neg h
def sf_clast:SFn:=⟨2,17,
 .seq (.reg [oO 2 (.box .roBox (.t 0)),
 oO 4 (.mv (.k (.c .nil)))])
 (.seq (.seq (.reg [oM 5 1,
 oO 6 (.len (.t 5)),
 oO 7 (.bin .eql (.t 6) (kI 16))])
 (.cond (.t 7) (.seq (.reg [oM 8 1,
 oO 9 (.fieldAddr 1 (.t 2)),
 oO 10 (.load .sc (.t 9)),
 oO 11 (.call 85 [(.t 8),(.t 10)] none),
 oM 4 11])
 (.ret))
 (.skip)))
 (.seq (.reg [oM 12 1,
 oO 13 (.call 91 [(.t 12)] none),
 oO 14 (.fieldAddr 2 (.t 2)),
 oO 15 (.load .sc (.t 14)),
 oO 16 (.call 85 [(.t 13),(.t 15)] none),
 oM 4 16])
 (.ret))),
 [(4,none)]⟩
theorem cf_clast:compFn Tryd.prog { own:=[],comp:=[],frz:=[],nils:=[] } Tryd.f90=some sf_clast:=by kernel_rfl
theorem clast_c (G:Glob) (key b:List UInt8) (hb:b.length≤16):Den Tryd.prog G 90 [cdD key,.sl (b.map bD)] (.w (.c (.d (.sl ((endM (rkK key) b).map bD))))):=by
  refine den_walk Tryd.func90 cf_clast rfl rfl ?_
  by_cases h:b.length=16
  ·rw[endM_full _ h]
   simp only[sf_clast,putAll,cdD,wal,stV,seval,iteOmega,toNatUp,reduceCtorEq,h]
   refine sD (cmb_c G b (sub1 (rkK key)) h (sub1_len _)) ?_
   exact qd1
  ·rw[endM_part _ h]
   simp only[sf_clast,putAll,cdD,wal,stV,seval,iteOmega,toNatUp,reduceCtorEq]
   refine sD (fild_c G b (by omega)) ?_
   refine sD (cmb_c G (padL (b++[128])) (sub2 (rkK key)) (padL_short (by omega)) (sub2_len _)) ?_
   exact qd1
def codV (key b:List UInt8):Nat→V
  | 0=>.w (.c (.own 1 1 0 16))
  | i+1=>.w (.c (.d (.sl ((cbcM (rkK key) b (i+1)).map bD))))
def codSt (key b:List UInt8) (i:Nat):St:=⟨ofL [(1,.w (.c (.d (.sl ((b.drop (16*i)).map bD))))),(2,.w (.c (.rp [.sl (key.map bD),.sl ((sub1 (rkK key)).map bD),.sl ((sub2 (rkK key)).map bD)]))),(5,codV key b i)],hL [(1,.row 1 ((repL 16 (0:UInt8)).map bD))],uL [1]⟩
theorem drop16 (b:List UInt8) (i:Nat):((b.drop (16*i)).drop 16).take ((b.drop (16*i)).length-16)=b.drop (16*(i+1)):=by
  rw[List.drop_drop,List.take_of_length_le (by simp only[List.length_drop]; omega)]; rfl
def lp_code_0:SCode :=
 .seq (.seq (.reg [oM 7 1,
 oO 8 (.len (.t 7)),
 oO 9 (.bin .gtr (.t 8) (kI 16))])
 (.cond (.t 9) (.skip)
 (.exit 0)))
 (.block 1 (.seq (.reg [oO 10 (.fieldAddr 0 (.t 2)),
 oO 11 (.load (.ag 1) (.t 10)),
 oM 12 5,
 oM 13 1,
 oO 14 (.slice 1 (.t 13) none (some (kI 16)) none),
 oO 15 (.call 85 [(.t 12),(.t 14)] none),
 oO 16 (.call 89 [(.t 11),(.t 15)] none),
 oM 5 16])
 (.reg [oM 17 1,
 oO 18 (.slice 1 (.t 17) (some (kI 16)) none none),
 oM 1 18])))
def sf_code:SFn:=⟨2,27,
 .seq (.reg [oO 2 (.box .roBox (.t 0)),
 oO 4 (.mv (.k (.c .nil)))])
 (.seq (.reg [oO 6 (.make true 1 1 (.int .u8 0) (kI 16) (kI 16)),
 oM 5 6])
 (.seq (.block 0 (.loop lp_code_0))
 (.seq (.reg [oO 19 (.fieldAddr 0 (.t 2)),
 oO 20 (.load (.ag 1) (.t 19)),
 oM 21 5,
 oO 22 (.load (.ag 3) (.t 2)),
 oM 23 1,
 oO 24 (.call 90 [(.t 22),(.t 23)] none),
 oO 25 (.call 85 [(.t 21),(.t 24)] none),
 oO 26 (.call 89 [(.t 20),(.t 25)] (some (0,1))),
 oM 4 26])
 (.ret)))),
 [(4,none)]⟩
theorem cf_code:compFn Tryd.prog { own:=[26],comp:=[],frz:=[],nils:=[] } Tryd.f84=some sf_code:=by kernel_rfl
theorem code_f (G:Glob) (key b:List UInt8) (h:key.length=16) (hb:b.length≤70000):Den Tryd.prog G 84 [cdD key,.sl (b.map bD)] (.w (.c (.fr 1 ((macM (rkK key) b).map bD)))):=by
  refine den_walk Tryd.func84 cf_code rfl rfl ?_
  have t0:(repL 16 (0:UInt8)).take 16=zero16:=rfl
  have hah:aheadM b=(b.length+15) / 16-1:=rfl
  have hm:∀ i,i=aheadM b→macM (rkK key) b=encK (rkK key) (xorP (cbcM (rkK key) b i) (endM (rkK key) (b.drop (16*i)))):=fun i e=>by rw[e]; rfl
  simp only[sf_code,putAll,cdD,wal,stV,seval,iteOmega,toNatUp,reduceCtorEq,z16]
  refine loop_st (codSt key b) (fun i=>aheadM b-i) (fun i=>i≤aheadM b) 0 (Nat.zero_le _) ?_ ?_
  ·refine ent_l (fun i=>48) ?_ ?_ rfl rfl <;> simp only[wx,wex,wez,stV,seval,iteOmega,toNatUp,reduceCtorEq,codV]
  ·intro i hi
   have hcl:(b.drop (16*i)).length=b.length-16*i:=List.length_drop
   have hdr:=drop16 b i
   by_cases hlt:i<aheadM b
   ·have hT:((b.drop (16*i)).take 16).length=16:=by rw[List.length_take]; omega
    have hstep:encK (rkK key) (xorP (cbcM (rkK key) b i) ((b.drop (16*i)).take 16))=cbcM (rkK key) b (i+1):=rfl
    have h1:=cmb_c G (cbcM (rkK key) b i) ((b.drop (16*i)).take 16) (cbcM_len _ _ _) hT
    have h2:=kenc_c G key (xorP (cbcM (rkK key) b i) ((b.drop (16*i)).take 16)) h (by rw[xorP_len,cbcM_len])
    rw[hstep] at h2
    rcases i with _ | i
    ·have hz:cbcM (rkK key) b 0=zero16:=rfl
     rw[hz] at h1 h2
     simp only[Nat.mul_zero,List.drop_zero,Nat.zero_add,Nat.mul_one] at hdr
     simp only[lp_code_0,codSt,codV,wal,stV,seval,iteOmega,toNatUp,reduceCtorEq]
     refine st_call h1 (by simp only[wal,stV,seval,iteOmega,toNatUp,reduceCtorEq,take_map,t0,repL_len]) (.inr (fl_b _ _)) ?_
     simp only[wal,stV,seval,iteOmega,toNatUp,reduceCtorEq]
     refine sC (h2) ?_
     simp only[hdr,wal,stV,seval,iteOmega,toNatUp,reduceCtorEq]
     refine lop_next (0+1) (by omega) (by omega) (ent_l (fun i=>i) ?_ ?_ rfl rfl) <;> simp only[wx,wex,wez,stV,seval,iteOmega,toNatUp,reduceCtorEq,codV]
    ·simp only[lp_code_0,codSt,codV,wal,stV,seval,iteOmega,toNatUp,reduceCtorEq]
     refine sD (h1) ?_
     refine sC (h2) ?_
     simp only[hdr,wal,stV,seval,iteOmega,toNatUp,reduceCtorEq]
     refine lop_next (i+1+1) (by omega) (by omega) (ent_l (fun i=>i) ?_ ?_ rfl rfl) <;> simp only[wx,wex,wez,stV,seval,iteOmega,toNatUp,reduceCtorEq,codV]
   ·rw[hm i (by omega)]
    have hl16:(b.drop (16*i)).length≤16:=by omega
    have h1:=clast_c G key (b.drop (16*i)) hl16
    have h2:=cmb_c G (cbcM (rkK key) b i) (endM (rkK key) (b.drop (16*i))) (cbcM_len _ _ _) (endM_len hl16)
    have h3:=kenc_f G key (xorP (cbcM (rkK key) b i) (endM (rkK key) (b.drop (16*i)))) h (by rw[xorP_len,cbcM_len])
    rcases i with _ | i
    ·have hz:cbcM (rkK key) b 0=zero16:=rfl
     rw[hz] at h2 h3 ⊢
     simp only[lp_code_0,codSt,codV,wal,stV,seval,iteOmega,toNatUp,reduceCtorEq]
     refine sD (h1) ?_
     refine st_call h2 (by simp only[wal,stV,seval,iteOmega,toNatUp,reduceCtorEq,take_map,t0,repL_len]) (.inr (fl_b _ _)) ?_
     simp only[wal,stV,seval,iteOmega,toNatUp,reduceCtorEq]
     refine sD (h3) ?_
     exact qf1
    ·simp only[lp_code_0,codSt,codV,wal,stV,seval,iteOmega,toNatUp,reduceCtorEq]
     refine sD (h1) ?_
     refine sD (h2) ?_
     refine sD (h3) ?_
     exact qf1
theorem code_c (G:Glob) (key b:List UInt8) (h:key.length=16) (hb:b.length≤70000):Den Tryd.prog G 84 [cdD key,.sl (b.map bD)] (.w (.c (.d (.sl ((macM (rkK key) b).map bD))))):=den_ro (code_f G key b h hb)
def sf_clsd:SFn:=⟨2,26,
 .seq (.reg [oO 4 (.mv (.k (.c .nil)))])
 (.seq (.reg [oM 6 0,
 oO 7 (.len (.t 6)),
 oO 8 (.bin .sub (.t 7) (kI 16)),
 oM 5 8])
 (.seq (.seq (.reg [oM 9 5,
 oO 10 (.bin .lss (.t 9) (kI 0))])
 (.cond (.t 10) (.seq (.reg [oM 11 1,
 oO 12 (.call 83 [(.t 11)] none),
 oM 13 0,
 oO 14 (.call 91 [(.t 13)] none),
 oO 15 (.call 85 [(.t 12),(.t 14)] none),
 oM 4 15])
 (.ret))
 (.skip)))
 (.seq (.reg [oM 16 0,
 oM 17 5,
 oO 18 (.slice 1 (.t 16) none (some (.t 17)) none),
 oM 19 0,
 oM 20 5,
 oO 21 (.slice 1 (.t 19) (some (.t 20)) none none),
 oM 22 1,
 oO 23 (.call 85 [(.t 21),(.t 22)] none),
 oO 24 (.bldSl false 2 1 (.sl []) [(0,(.t 18)),(1,(.t 23))]),
 oO 25 (.call 24 [(.t 24)] none),
 oM 4 25])
 (.ret)))),
 [(4,none)]⟩
theorem cf_clsd:compFn Tryd.prog { own:=[],comp:=[],frz:=[],nils:=[] } Tryd.f86=some sf_clsd:=by kernel_rfl
theorem clsd_c (G:Glob) (s d:List UInt8) (hs:s.length≤70000) (hd:d.length=16):Den Tryd.prog G 86 [.sl (s.map bD),.sl (d.map bD)] (.w (.c (.d (.sl ((if 16≤s.length then s.take (s.length-16)++xorP (s.drop (s.length-16)) d else xorP (dblL d) (padL (s++[128]))).map bD))))):=by
  refine den_walk Tryd.func86 cf_clsd rfl rfl ?_
  by_cases h:16≤s.length
  ·rw[if_pos h]
   have hl:(s.drop (s.length-16)).length=16:=by rw[List.length_drop]; omega
   have ht:(s.drop (s.length-16)).take (s.length-(s.length-16))=s.drop (s.length-16):=List.take_of_length_le (by omega)
   have hj:=join_c G [s.take (s.length-16),xorP (s.drop (s.length-16)) d] (by simp) (by simp[xorP_len]; omega)
   have hf:[s.take (s.length-16),xorP (s.drop (s.length-16)) d].flatten=s.take (s.length-16)++xorP (s.drop (s.length-16)) d:=by simp
   rw[hf] at hj
   have e1:(((s.length:Int)-16).toNat)=s.length-16:=by omega
   simp only[sf_clsd,putAll,wal,stV,seval,iteOmega,toNatUp,reduceCtorEq,e1,ht]
   refine sD (cmb_c G (s.drop (s.length-16)) d hl hd) ?_
   refine sD (hj) ?_
   exact qd1
  ·rw[if_neg h]
   simp only[sf_clsd,putAll,wal,stV,seval,iteOmega,toNatUp,reduceCtorEq]
   refine sD (dbb_c G d (by omega)) ?_
   refine sD (fild_c G s (by omega)) ?_
   refine sD (cmb_c G (dblL d) (padL (s++[128])) (dblL_len hd) (padL_short (by omega))) ?_
   exact qd1
def vecSt (key:List UInt8) (l:List (List UInt8)) (i:Nat):St:=⟨ofL [(1,.w (.c (.d (.sl (l.map fun l=>D.sl (l.map bD)))))),(2,.w (.c (.rp [.sl (key.map bD),.sl ((sub1 (rkK key)).map bD),.sl ((sub2 (rkK key)).map bD)]))),(5,.w (.c (.d (.sl ((vecD (rkK key) l i).map bD))))),(6,.w (.c (.d (.int .i64 ((l.length:Int)-1))))),(23,.w (.c (.d (.sl ((l.take (l.length-1)).map fun l=>D.sl (l.map bD)))))),(24,.w (.c (.d (.int .i64 ((l.length:Int)-1))))),(25,.w (.c (.d (.int .i64 (i:Int)))))],hL [(1,.row 1 ((repL 16 (0:UInt8)).map bD))],uL [1]⟩
theorem vecM_none (rk:List UInt8) {l:List (List UInt8)} (h:l.length=0):vecM rk l=macM rk (putL 1 16):=by
  unfold vecM; rw[if_pos h]; congr 1
theorem vecM_some (rk:List UInt8) {l:List (List UInt8)} (h:l.length≠0):vecM rk l=macM rk (if 16≤(l.getD (l.length-1) []).length then (l.getD (l.length-1) []).take ((l.getD (l.length-1) []).length-16)++xorP ((l.getD (l.length-1) []).drop ((l.getD (l.length-1) []).length-16)) (vecD rk l (l.length-1)) else xorP (dblL (vecD rk l (l.length-1))) (padL (l.getD (l.length-1) []++[128]))):=by
  unfold vecM; rw[if_neg h]; dsimp only; split <;> rfl
theorem getL_lt {l:List (List UInt8)} {j:Nat} (h:j<l.length):l[j]?=some (l.getD j []):=by
  rw[List.getD_eq_getElem?_getD,List.getElem?_eq_getElem h]; rfl
theorem getL_mem {l:List (List UInt8)} {j:Nat} (h:j<l.length):l.getD j []∈l:=by
  rw[List.getD_eq_getElem?_getD,List.getElem?_eq_getElem h]; exact List.getElem_mem h
def lp_vect_0:SCode :=
 .seq (.reg [oO 26 (.bin .lss (.t 25) (.t 24))])
 (.seq (.cond (.t 26) (.skip)
 (.exit 0))
 (.seq (.block 1 (.seq (.reg [oO 27 (.idxSl 1 (.t 23) (.t 25)),
 oO 28 (.load .sc (.t 27)),
 oM 8 28])
 (.reg [oM 29 5,
 oO 30 (.call 83 [(.t 29)] none),
 oO 31 (.load (.ag 3) (.t 2)),
 oM 32 8,
 oO 33 (.call 84 [(.t 31),(.t 32)] none),
 oO 34 (.call 85 [(.t 30),(.t 33)] none),
 oM 5 34])))
 (.reg [oO 35 (.bin .add (.t 25) (kI 1)),
 oM 25 35])))
def sf_vect:SFn:=⟨2,44,
 .seq (.reg [oO 2 (.box .roBox (.t 0)),
 oO 4 (.mv (.k (.c .nil)))])
 (.seq (.seq (.reg [oM 9 1,
 oO 10 (.len (.t 9)),
 oO 11 (.bin .eql (.t 10) (kI 0))])
 (.cond (.t 11) (.seq (.reg [oO 12 (.load (.ag 3) (.t 2)),
 oO 13 (.call 25 [(.k (.c (.d (.int .u64 1)))),(kI 16)] none),
 oO 14 (.call 84 [(.t 12),(.t 13)] (some (0,1))),
 oM 4 14])
 (.ret))
 (.skip)))
 (.seq (.reg [oO 15 (.load (.ag 3) (.t 2)),
 oO 16 (.make true 1 1 (.int .u8 0) (kI 16) (kI 16)),
 oO 17 (.call 84 [(.t 15),(.t 16)] none),
 oM 5 17])
 (.seq (.reg [oM 18 1,
 oO 19 (.len (.t 18)),
 oO 20 (.bin .sub (.t 19) (kI 1)),
 oM 6 20])
 (.seq (.seq (.reg [oM 21 1,
 oM 22 6,
 oO 23 (.slice 1 (.t 21) none (some (.t 22)) none),
 oO 24 (.len (.t 23)),
 oO 25 (.mv (kI 0))])
 (.block 0 (.loop lp_vect_0)))
 (.seq (.reg [oO 36 (.load (.ag 3) (.t 2)),
 oM 37 1,
 oM 38 6,
 oO 39 (.idxSl 1 (.t 37) (.t 38)),
 oO 40 (.load .sc (.t 39)),
 oM 41 5,
 oO 42 (.call 86 [(.t 40),(.t 41)] none),
 oO 43 (.call 84 [(.t 36),(.t 42)] (some (0,1))),
 oM 4 43])
 (.ret)))))),
 [(4,none)]⟩
theorem cf_vect:compFn Tryd.prog { own:=[14,43],comp:=[],frz:=[],nils:=[] } Tryd.f73=some sf_vect:=by kernel_rfl
theorem vect_f (G:Glob) (key:List UInt8) (l:List (List UInt8)) (h:key.length=16) (hl:l.length≤17) (hb:∀ x∈l,x.length≤65535):Den Tryd.prog G 73 [cdD key,.sl (l.map fun l=>D.sl (l.map bD))] (.w (.c (.fr 1 ((vecM (rkK key) l).map bD)))):=by
  refine den_walk Tryd.func73 cf_vect rfl rfl ?_
  have t0:(repL 16 (0:UInt8)).take 16=zero16:=rfl
  by_cases h0:l.length=0
  ·rw[vecM_none _ h0]
   simp only[sf_vect,putAll,cdD,wal,stV,seval,iteOmega,toNatUp,reduceCtorEq,h0]
   refine sD (put_in G 1 16 (by decide)) ?_
   refine sD (code_f G key (putL 1 16) h (by rw[putL_length]; decide)) ?_
   exact qf1
  ·rw[vecM_some _ h0]
   have e1:(((l.length:Int)-1).toNat)=l.length-1:=by omega
   have e2:(l.take (l.length-1)).length=l.length-1:=by rw[List.length_take]; omega
   have e3:((l.length-1:Nat):Int)=(l.length:Int)-1:=by omega
   simp only[sf_vect,putAll,cdD,wal,stV,seval,iteOmega,toNatUp,reduceCtorEq,z16]
   refine st_call (code_f G key zero16 h (by decide)) (by simp only[wal,stV,seval,iteOmega,toNatUp,reduceCtorEq,take_map,t0,repL_len,cdD]) (.inr (fl_b _ _)) ?_
   simp only[wal,stV,seval,iteOmega,toNatUp,reduceCtorEq,e1,e2,e3,allSz_ls]
   refine loop_st (vecSt key l) (fun i=>l.length-1-i) (fun i=>i≤l.length-1) 0 (Nat.zero_le _) ?_ ?_
   ·refine ent_l (fun i=>128) ?_ ?_ rfl rfl <;> simp only[wx,wex,wez,stV,seval,iteOmega,toNatUp,reduceCtorEq,vecD,e2,e3]
   ·intro i hi
    have hd:=vecD_len (rkK key) l i
    by_cases hlt:i<l.length-1
    ·have g1:(l.take (l.length-1))[i]?=some (l.getD i []):=by rw[List.getElem?_take,if_pos hlt,getL_lt (by omega)]
     have hx:=hb _ (getL_mem (l:=l) (j:=i) (by omega))
     have hs:xorP (dblL (vecD (rkK key) l i)) (macM (rkK key) (l.getD i []))=vecD (rkK key) l (i+1):=rfl
     have h1:=dbb_c G (vecD (rkK key) l i) (by omega)
     have h2:=code_c G key (l.getD i []) h (by omega)
     have h3:=cmb_c G (dblL (vecD (rkK key) l i)) (macM (rkK key) (l.getD i [])) (dblL_len hd) (macM_len _ _)
     rw[hs] at h3
     simp only[lp_vect_0,vecSt,wal,stV,seval,iteOmega,toNatUp,reduceCtorEq,get_map,g1,e2,e3]
     refine sD (h1) ?_
     refine sD (h2) ?_
     refine sD (h3) ?_
     refine lop_next (i+1) (by omega) (by omega) (ent_l (fun i=>i) ?_ ?_ rfl rfl) <;> simp only[wx,wex,wez,stV,seval,iteOmega,toNatUp,reduceCtorEq]
    ·obtain rfl:i=l.length-1:=by omega
     have g1:l[l.length-1]?=some (l.getD (l.length-1) []):=getL_lt (by omega)
     have hx:=hb _ (getL_mem (l:=l) (j:=l.length-1) (by omega))
     have h1:=clsd_c G (l.getD (l.length-1) []) (vecD (rkK key) l (l.length-1)) (by omega) hd
     have hcl:∀ s d:List UInt8,s.length≤65535→d.length=16→(if 16≤s.length then s.take (s.length-16)++xorP (s.drop (s.length-16)) d else xorP (dblL d) (padL (s++[128]))).length≤70000:=by
       intro s d h1 h2
       split
       ·rw[List.length_append,xorP_len,← List.length_append,List.take_append_drop]; omega
       ·rw[xorP_len,dblL_len h2]; decide
     have h2:=code_f G key _ h (hcl _ _ hx hd)
     simp only[lp_vect_0,vecSt,wal,stV,seval,iteOmega,toNatUp,reduceCtorEq,get_map,g1,e1,e3]
     refine sD (h1) ?_
     refine sD (h2) ?_
     exact qf1
def longL (l:List (List UInt8)):Bool:=l.any fun x=>decide (65535<x.length)
def vctE (key:List UInt8) (l:List (List UInt8)):Int:=if key.length≠16 then 5 else if 17<l.length then 8 else if longL l=true then 2 else 0
def vctV (key:List UInt8) (l:List (List UInt8)):List UInt8:=if key.length=16∧l.length≤17∧longL l=false then vecM (rkK key) l else []
theorem longL_no {l:List (List UInt8)} (h:∀ j,j<l.length→(l.getD j []).length≤65535):longL l=false:=by
  unfold longL
  rw[List.any_eq_false]
  intro x hx
  obtain⟨j,hj,rfl⟩:=List.getElem_of_mem hx
  have:=h j hj
  rw[List.getD_eq_getElem?_getD,List.getElem?_eq_getElem hj] at this
  simpa using this
theorem longL_yes {l:List (List UInt8)} {j:Nat} (hj:j<l.length) (h:65535<(l.getD j []).length):longL l=true:=by
  unfold longL
  rw[List.any_eq_true]
  exact⟨_,getL_mem hj,decide_eq_true h⟩
theorem longL_all {l:List (List UInt8)} (h:longL l=false):∀ x∈l,x.length≤65535:=by
  unfold longL at h
  rw[List.any_eq_false] at h
  intro x hx
  have:=h x hx
  simpa using this
def vctSt (key:List UInt8) (l:List (List UInt8)) (i:Nat):St:=⟨ofL [(1,.w (.c (.d (.sl (l.map fun l=>D.sl (l.map bD)))))),(6,.w (.c (.ptr 1 1 0 0))),(21,.w (.c (.d (.sl (l.map fun l=>D.sl (l.map bD)))))),(22,.w (.c (.d (.int .i64 (l.length:Int))))),(23,.w (.c (.d (.int .i64 (i:Int)))))],hL [(1,.box [.d (.sl (key.map bD)),.d (.sl ((sub1 (rkK key)).map bD)),.d (.sl ((sub2 (rkK key)).map bD))])],uL [1]⟩
def lp_vctr_0:SCode :=
 .seq (.reg [oO 24 (.bin .lss (.t 23) (.t 22))])
 (.seq (.cond (.t 24) (.skip)
 (.exit 0))
 (.seq (.block 1 (.seq (.reg [oO 25 (.idxSl 1 (.t 21) (.t 23)),
 oO 26 (.load .sc (.t 25)),
 oM 9 26])
 (.seq (.reg [oM 27 9,
 oO 28 (.len (.t 27)),
 oO 29 (.bin .gtr (.t 28) (kI 65535))])
 (.cond (.t 29) (.seq (.reg [oO 4 (.mv (.k (.c .nil))),
 oO 5 (.mv (kI 2))])
 (.ret))
 (.skip)))))
 (.reg [oO 30 (.bin .add (.t 23) (kI 1)),
 oM 23 30])))
def sf_vctr:SFn:=⟨2,34,
 .seq (.reg [oO 4 (.mv (.k (.c .nil))),
 oO 5 (.mv (kI 0))])
 (.seq (.reg [oM 11 0,
 oO 12 (.call 72 [(.t 11)] none),
 oM 10 12,
 oO 13 (.extract (.t 10) 0),
 oO 14 (.extract (.t 10) 1),
 oO 6 (.alloc [.nil,.nil,.nil]),
 oN (.store (.ag 3) (.t 6) (.t 13)),
 oM 7 14])
 (.seq (.seq (.reg [oM 15 7,
 oO 16 (.bin .neq (.t 15) (kI 0))])
 (.cond (.t 16) (.seq (.reg [oM 17 7,
 oO 4 (.mv (.k (.c .nil))),
 oM 5 17])
 (.ret))
 (.skip)))
 (.seq (.seq (.reg [oM 18 1,
 oO 19 (.len (.t 18)),
 oO 20 (.bin .gtr (.t 19) (kI 17))])
 (.cond (.t 20) (.seq (.reg [oO 4 (.mv (.k (.c .nil))),
 oO 5 (.mv (kI 8))])
 (.ret))
 (.skip)))
 (.seq (.seq (.reg [oM 21 1,
 oO 22 (.len (.t 21)),
 oO 23 (.mv (kI 0))])
 (.block 0 (.loop lp_vctr_0)))
 (.seq (.reg [oO 31 (.load (.ag 3) (.t 6)),
 oM 32 1,
 oO 33 (.call 73 [(.t 31),(.t 32)] (some (0,1))),
 oM 4 33,
 oO 5 (.mv (kI 0))])
 (.ret)))))),
 [(4,none),(5,none)]⟩
theorem cf_vctr:compFn Tryd.prog { own:=[33],comp:=[],frz:=[],nils:=[] } Tryd.f63=some sf_vctr:=by kernel_rfl
theorem vctr_f (G:Glob) (key:List UInt8) (l:List (List UInt8)) (hk:key.length≤9223372036854775807) (hl:l.length≤9223372036854775807) (hb:∀ x∈l,x.length≤9223372036854775807):Den Tryd.prog G 63 [.sl (key.map bD),.sl (l.map fun l=>D.sl (l.map bD))] (.tup [.c (.fr 1 ((vctV key l).map bD)),.c (.d (.int .i64 (vctE key l)))]):=by
  refine den_walk Tryd.func63 cf_vctr rfl rfl ?_
  have hx:=cdof_c G key hk
  unfold vctV vctE
  by_cases h:key.length=16
  ·have hv:cdV key=cdD key:=if_pos h
   have he:keyE key=0:=by unfold keyE; rw[if_neg (by omega)]
   rw[hv,he] at hx
   by_cases h2:l.length≤17
   ·rw[if_neg (by omega:¬ key.length≠16),if_neg (by omega:¬ 17<l.length)]
    simp only[sf_vctr,putAll,wal,stV,seval,iteOmega,toNatUp,reduceCtorEq]
    refine sC (hx) ?_
    simp only[cdD,wal,stV,seval,iteOmega,toNatUp,reduceCtorEq]
    refine loop_st (vctSt key l) (fun i=>l.length-i) (fun i=>i≤l.length∧∀ j,j<i→(l.getD j []).length≤65535) 0 ⟨Nat.zero_le _,fun j hj=>by omega⟩ ?_ ?_
    ·refine ent_l (fun i=>48) ?_ ?_ rfl rfl <;> simp only[wx,wex,wez,stV,seval,iteOmega,toNatUp,reduceCtorEq]
    ·rintro i ⟨hi,hok⟩
     by_cases hlt:i<l.length
     ·have g1:=getL_lt hlt
      have hx:=hb _ (getL_mem hlt)
      by_cases hlong:65535<(l.getD i []).length
      ·have hL:=longL_yes hlt hlong
       rw[hL,if_neg (by simp),if_pos rfl]
       simp only[lp_vctr_0,vctSt,wal,stV,seval,iteOmega,toNatUp,reduceCtorEq,get_map,g1]
       exact qf2
      ·simp only[lp_vctr_0,vctSt,wal,stV,seval,iteOmega,toNatUp,reduceCtorEq,get_map,g1]
       refine lop_next (i+1) (by omega) ⟨by omega,fun j hj=>?_⟩ (ent_l (fun i=>i) ?_ ?_ rfl rfl)
       ·rcases Nat.lt_or_ge j i with h | h
        ·exact hok j h
        ·obtain rfl:j=i:=by omega
         omega
       all_goals simp only[wx,wex,wez,stV,seval,iteOmega,toNatUp,reduceCtorEq]
     ·have hL:=longL_no (l:=l) (fun j hj=>hok j (by omega))
      rw[hL,if_pos ⟨h,h2,rfl⟩,if_neg (by simp)]
      simp only[lp_vctr_0,vctSt,wal,stV,seval,iteOmega,toNatUp,reduceCtorEq]
      refine sD (vect_f G key l h h2 (longL_all hL)) ?_
      exact qf2
   ·rw[if_neg (by omega),if_neg (by omega),if_pos (by omega)]
    have h3:17<l.length:=by omega
    simp only[sf_vctr,putAll,wal,stV,seval,iteOmega,toNatUp,reduceCtorEq]
    refine sC (hx) ?_
    simp only[cdD,wal,stV,seval,iteOmega,toNatUp,reduceCtorEq]
    exact qf2
  ·have hv:cdV key=.agg [.sl [],.sl [],.sl []]:=if_neg h
   have he:keyE key=5:=if_pos h
   rw[hv,he] at hx
   rw[if_neg (by omega),if_pos h]
   simp only[sf_vctr,putAll,wal,stV,seval,iteOmega,toNatUp,reduceCtorEq]
   refine sD (hx) ?_
   exact qf2
end Go.Proofs.YtbkhllchjbjhgaaDoor
namespace Go.Proofs.YtbkhllchjbjhgaaDoor
open Go.RowKit
end Go.Proofs.YtbkhllchjbjhgaaDoor
namespace Go.Proofs.YtbkhllchjbjhgaaDoor
open Go.RowKit
theorem padC_get (rk c:List UInt8) {n k:Nat} (hk:k<16):∀ {m:Nat},n<m→(padC rk c m)[16*n+k]?=(encK rk (ctrC c n))[k]?
  | 0,h=>by omega
  | m+1,h=>by
    rw[padC]
    by_cases e:n=m
    ·subst e
     rw[List.getElem?_append_right (by rw[padC_len]; omega),padC_len,Nat.add_sub_cancel_left]
    ·rw[List.getElem?_append_left (by rw[padC_len]; omega)]
     exact padC_get rk c hk (by omega)
theorem strm_get (rk c b:List UInt8) {n k:Nat} (hk:k<16) (h:16*n+k<b.length):(strmC rk c b)[16*n+k]?=some (xorB (b.getD (16*n+k) 0) ((encK rk (ctrC c n)).getD k 0)):=by
  unfold strmC xorL
  rw[List.getElem?_zipWith,padC_get rk c hk (by omega),get_lt h,get_lt (by rw[encK_len]; exact hk)]
def oT (rk c b:List UInt8) (j:Nat):List UInt8:=(strmC rk c b).take j
theorem oT_len (rk c b:List UInt8) (j:Nat):(oT rk c b j).length=min j b.length:=by unfold oT; rw[List.length_take,strmC_len]
theorem oT_full (rk c b:List UInt8) {j:Nat} (h:b.length≤j):oT rk c b j=strmC rk c b:=List.take_of_length_le (by rw[strmC_len]; exact h)
theorem oT_step (rk c b:List UInt8) {n k:Nat} (hk:k<16) (h:16*n+k<b.length):oT rk c b (16*n+k)++[xorB (b.getD (16*n+k) 0) ((encK rk (ctrC c n)).getD k 0)]=oT rk c b (16*n+k+1):=by
  unfold oT; rw[List.take_add_one,strm_get rk c b hk h]; rfl
theorem ctrC_16 {c:List UInt8} (h:c.length=16) (n:Nat):(ctrC c n).length=16:=by rw[ctrC_len]; exact h
theorem nexV_ctr {c:List UInt8} (h:c.length=16) (n:Nat):nexV (ctrC c n)=ctrC c (n+1):=by unfold nexV; rw[if_pos (ctrC_16 h n)]; rfl
def strmE (key c b:List UInt8):Int:=if key.length≠16 then 5 else if c.length≠16 then 3 else if 65535<b.length then 2 else 0
def strmV (key c b:List UInt8):List UInt8:=if key.length=16∧c.length=16∧b.length≤65535 then strmC (rkK key) c b else []
theorem strmE_key {key:List UInt8} (c b:List UInt8) (h:key.length≠16):strmE key c b=5:=if_pos h
theorem strmE_ctr {key c:List UInt8} (b:List UInt8) (h:key.length=16) (h2:c.length≠16):strmE key c b=3:=by unfold strmE; rw[if_neg (by simp[h]),if_pos h2]
theorem strmE_long {key c b:List UInt8} (h:key.length=16) (h2:c.length=16) (h3:65535<b.length):strmE key c b=2:=by unfold strmE; rw[if_neg (by simp[h]),if_neg (by simp[h2]),if_pos h3]
theorem strmE_ok {key c b:List UInt8} (h:key.length=16) (h2:c.length=16) (h3:b.length≤65535):strmE key c b=0:=by unfold strmE; rw[if_neg (by simp[h]),if_neg (by simp[h2]),if_neg (by omega)]
theorem strmV_ok {key c b:List UInt8} (h:key.length=16) (h2:c.length=16) (h3:b.length≤65535):strmV key c b=strmC (rkK key) c b:=if_pos ⟨h,h2,h3⟩
theorem strmV_no {key c b:List UInt8} (h:¬ (key.length=16∧c.length=16∧b.length≤65535)):strmV key c b=[]:=if_neg h
theorem oT0 (rk c b:List UInt8):oT rk c b 0=[]:=List.take_zero
end Go.Proofs.YtbkhllchjbjhgaaDoor
namespace Go.Proofs.YtbkhllchjbjhgaaDoor
open Go.RowKit
end Go.Proofs.YtbkhllchjbjhgaaDoor
namespace Go.Proofs.YtbkhllchjbjhgaaDoor
open Go.RowKit IntWalk
def sf_beq:SFn:=⟨2,10,
 .seq (.reg [oO 4 (.mv (.k (.c (.d (.bool false)))))])
 (.seq (.reg [oM 5 0,
 oO 6 (.b2s (.t 5)),
 oM 7 1,
 oO 8 (.b2s (.t 7)),
 oO 9 (.bin .eql (.t 6) (.t 8)),
 oM 4 9])
 (.ret)),
 [(4,none)]⟩
theorem cf_beq:compFn Tryd.prog { own:=[],comp:=[],frz:=[],nils:=[] } Tryd.f50=some sf_beq:=by kernel_rfl
theorem beq_c (G:Glob) (l m:List UInt8):Den Tryd.prog G 50 [.sl (l.map bD),.sl (m.map bD)] (.w (.c (.d (.bool (l==m))))):=by
  refine den_walk Tryd.func50 cf_beq rfl rfl ?_
  simp only[sf_beq,putAll,wx,stV,seval,iteOmega,toNatUp,reduceCtorEq,ofBs_map,binS_same]
  exact ret_d (by simp only[wx,stV,seval,iteOmega,toNatUp,reduceCtorEq])
def sf_same:SFn:=⟨2,8,
 .seq (.reg [oO 4 (.mv (.k (.c (.d (.bool false)))))])
 (.seq (.reg [oM 5 0,
 oM 6 1,
 oO 7 (.call 50 [(.t 5),(.t 6)] none),
 oM 4 7])
 (.ret)),
 [(4,none)]⟩
theorem cf_same:compFn Tryd.prog { own:=[],comp:=[],frz:=[],nils:=[] } Tryd.f34=some sf_same:=by kernel_rfl
theorem same_c (G:Glob) (l m:List UInt8):Den Tryd.prog G 34 [.sl (l.map bD),.sl (m.map bD)] (.w (.c (.d (.bool (l==m))))):=by
  refine den_walk Tryd.func34 cf_same rfl rfl ?_
  simp only[sf_same,putAll,wal,stV,seval,iteOmega,toNatUp,reduceCtorEq]
  refine sD (beq_c G l m) ?_
  exact qd1
end Go.Proofs.YtbkhllchjbjhgaaDoor
namespace Go.Proofs.YtbkhllchjbjhgaaDoor
open Go.RowKit
theorem putL_snoc (v k:Nat):putL v (k+1)=putL (v / 256) k++[UInt8.ofNat v]:=by
  unfold putL
  rw[List.range_succ,List.map_append]
  congr 1
  ·apply List.map_congr_left
   intro i hi
   have hi':i<k:=List.mem_range.1 hi
   rw[show k+1-1-i=(k-1-i)+1 by omega,Nat.pow_succ,Nat.mul_comm,← Nat.div_div_eq_div_mul]
  ·simp
theorem getN_one (a:List UInt8) (x:UInt8):getN (a++[x])=(getN a*256+x.toNat)%18446744073709551616:=by simp[getN]
theorem pow_le8 {k:Nat} (h:k≤8):256^k≤18446744073709551616:=Nat.le_trans (Nat.pow_le_pow_right (by decide) h) (by decide)
theorem get_put (k:Nat) (h:k≤8):∀ v,getN (putL v k)=v%256^k:=by
  induction k with
  | zero=>intro v; rw[Nat.pow_zero,Nat.mod_one]; rfl
  | succ k ih =>
    intro v
    have hp:=pow_le8 h
    have hv:v%256^(k+1)<256^(k+1):=Nat.mod_lt _ (Nat.pow_pos (by decide))
    have e:v%256^(k+1)=v%256+256*(v / 256%256^k):=by rw[Nat.pow_succ',Nat.mod_mul]
    rw[putL_snoc,getN_one,ih (by omega),UInt8.toNat_ofNat',Nat.mod_eq_of_lt (by omega)]
    omega
theorem getN_lt_pow:∀ (k:Nat) (l:List UInt8),l.length=k→k≤8→getN l<256^k∧putL (getN l) k=l:=by
  intro k
  induction k with
  | zero=>intro l h _; rw[List.eq_nil_of_length_eq_zero h]; exact⟨by decide,rfl⟩
  | succ k ih =>
    intro l h h8
    rcases List.eq_nil_or_concat l with rfl | ⟨a,x,rfl⟩
    ·simp at h
    ·rw[List.concat_eq_append] at *
     obtain⟨a1,a2⟩:=ih a (by simpa using h) (by omega)
     have hx:x.toNat<256:=x.toNat_lt
     have hp:=pow_le8 h8
     have e:getN (a++[x])=getN a*256+x.toNat:=by
       rw[getN_one,Nat.mod_eq_of_lt]
       rw[Nat.pow_succ] at hp; omega
     refine⟨by rw[e,Nat.pow_succ]; omega,?_⟩
     rw[e,putL_snoc,show (getN a*256+x.toNat) / 256=getN a by omega,a2]
     congr 2
     rw[← UInt8.toNat_inj,UInt8.toNat_ofNat']
     omega
structure Hd where
  lp:Int
  vr:Int
  md:Int
  st:Int
  pl:Int
  pr:Int
  rd:Nat
  rp:Nat
  ri:Nat
  rf:Nat
  og:Nat
  rc:Nat
  tr:Nat
def Hd.z:Hd:=⟨0,0,0,0,0,0,0,0,0,0,0,0,0⟩
def hdR (h:Hd):Prop:=0≤h.lp∧h.lp≤3∧(h.vr=3∨h.vr=4)∧0≤h.md∧h.md≤7∧0≤h.st∧h.st≤255∧-128≤h.pl∧h.pl≤127∧-128≤h.pr∧h.pr≤127
instance (h:Hd):Decidable (hdR h):=by unfold hdR; infer_instance
def cutN (l:List UInt8) (a n:Nat):List UInt8:=(l.drop a).take n
theorem cutN_len {l:List UInt8} {a n:Nat} (h:a+n≤l.length):(cutN l a n).length=n:=by
  unfold cutN; rw[List.length_take,List.length_drop]; omega
theorem cutN_hit (p q r:List UInt8):cutN (p++(q++r)) p.length q.length=q:=by
  unfold cutN; rw[List.drop_left,List.take_left]
end Go.Proofs.YtbkhllchjbjhgaaDoor
namespace Go.Proofs.YtbkhllchjbjhgaaDoor
open Go.RowKit
def firstK:List UInt32:=[0x6a09e667,0xbb67ae85,0x3c6ef372,0xa54ff53a,0x510e527f,0x9b05688c,0x1f83d9ab,0x5be0cd19]
def constK:List UInt32:=[
  0x428a2f98,0x71374491,0xb5c0fbcf,0xe9b5dba5,0x3956c25b,0x59f111f1,0x923f82a4,0xab1c5ed5,
  0xd807aa98,0x12835b01,0x243185be,0x550c7dc3,0x72be5d74,0x80deb1fe,0x9bdc06a7,0xc19bf174,
  0xe49b69c1,0xefbe4786,0x0fc19dc6,0x240ca1cc,0x2de92c6f,0x4a7484aa,0x5cb0a9dc,0x76f988da,
  0x983e5152,0xa831c66d,0xb00327c8,0xbf597fc7,0xc6e00bf3,0xd5a79147,0x06ca6351,0x14292967,
  0x27b70a85,0x2e1b2138,0x4d2c6dfc,0x53380d13,0x650a7354,0x766a0abb,0x81c2c92e,0x92722c85,
  0xa2bfe8a1,0xa81a664b,0xc24b8b70,0xc76c51a3,0xd192e819,0xd6990624,0xf40e3585,0x106aa070,
  0x19a4c116,0x1e376c08,0x2748774c,0x34b0bcb5,0x391c0cb3,0x4ed8aa4a,0x5b9cca4f,0x682e6ff3,
  0x748f82ee,0x78a5636f,0x84c87814,0x8cc70208,0x90befffa,0xa4506ceb,0xbef9a3f7,0xc67178f2]
theorem firstK_len:firstK.length=8:=rfl
theorem constK_len:constK.length=64:=rfl
def wordAt (b:List UInt8) (t:Nat):UInt32 :=
  orW (orW (orW (shlW (byteW (b.getD (4*t) 0)) 24) (shlW (byteW (b.getD (4*t+1) 0)) 16)) (shlW (byteW (b.getD (4*t+2) 0)) 8)) (byteW (b.getD (4*t+3) 0))
def smallA (x:UInt32):UInt32:=xorW (xorW (rotW x 7) (rotW x 18)) (shrW x 3)
def smallB (y:UInt32):UInt32:=xorW (xorW (rotW y 17) (rotW y 19)) (shrW y 10)
def nextW (s:List UInt32) (t:Nat):UInt32 :=
  addW (addW (addW (smallB (s.getD (t-2) 0)) (s.getD (t-7) 0)) (smallA (s.getD (t-15) 0))) (s.getD (t-16) 0)
def sched16 (b:List UInt8) (n:Nat):List UInt32:=(List.range n).map (wordAt b)
def schedN (b:List UInt8):Nat→List UInt32
  | 0=>sched16 b 16
  | n+1=>schedN b n++[nextW (schedN b n) (16+n)]
def sched (b:List UInt8):List UInt32:=schedN b 48
theorem sched_at (b:List UInt8) (m:Nat) (h:m=48):sched b=schedN b m:=by rw[h]; rfl
def bigE (e:UInt32):UInt32:=xorW (xorW (rotW e 6) (rotW e 11)) (rotW e 25)
def bigA (a:UInt32):UInt32:=xorW (xorW (rotW a 2) (rotW a 13)) (rotW a 22)
def chW (e f g:UInt32):UInt32:=xorW (andW e f) (andW (notW e) g)
def majW (a b c:UInt32):UInt32:=xorW (xorW (andW a b) (andW a c)) (andW b c)
structure Eight where
  (a b c d e f g h:UInt32)
def Eight.step (s:Eight) (k w:UInt32):Eight :=
  let t1:=addW (addW (addW (addW s.h (bigE s.e)) (chW s.e s.f s.g)) k) w
  let t2:=addW (bigA s.a) (majW s.a s.b s.c)
  ⟨addW t1 t2,s.a,s.b,s.c,addW s.d t1,s.e,s.f,s.g⟩
def Eight.of (h:List UInt32):Eight:=⟨h.getD 0 0,h.getD 1 0,h.getD 2 0,h.getD 3 0,h.getD 4 0,h.getD 5 0,h.getD 6 0,h.getD 7 0⟩
def Eight.rounds (s:Eight) (k w:List UInt32):Nat→Eight
  | 0=>s
  | n+1=>(s.rounds k w n).step (k.getD n 0) (w.getD n 0)
def Eight.sum (s:Eight) (h:List UInt32):List UInt32 :=
  [addW (h.getD 0 0) s.a,addW (h.getD 1 0) s.b,addW (h.getD 2 0) s.c,addW (h.getD 3 0) s.d,addW (h.getD 4 0) s.e,addW (h.getD 5 0) s.f,addW (h.getD 6 0) s.g,addW (h.getD 7 0) s.h]
def blockK (h:List UInt32) (b:List UInt8):List UInt32:=((Eight.of h).rounds constK (sched b) 64).sum h
theorem blockK_len (h:List UInt32) (b:List UInt8):(blockK h b).length=8:=rfl
end Go.Proofs.YtbkhllchjbjhgaaDoor
namespace Go.Proofs.YtbkhllchjbjhgaaDoor
open Go.RowKit IntWalk
theorem orW_comm (x y:UInt32):orW x y=orW y x:=UInt32.or_comm x y
def sf_rturn:SFn:=⟨2,15,
 .seq (.reg [oO 4 (.mv (.k (.c (.d (.int .u32 0)))))])
 (.seq (.reg [oM 5 0,
 oM 6 1,
 oO 7 (.conv .u64 (.t 6)),
 oO 8 (.bin .shr (.t 5) (.t 7)),
 oM 9 0,
 oM 10 1,
 oO 11 (.bin .sub (kI 32) (.t 10)),
 oO 12 (.conv .u64 (.t 11)),
 oO 13 (.bin .shl (.t 9) (.t 12)),
 oO 14 (.bin .or (.t 8) (.t 13)),
 oM 4 14])
 (.ret)),
 [(4,none)]⟩
theorem cf_rturn:compFn Tryd.prog { own:=[],comp:=[],frz:=[],nils:=[] } Tryd.f55=some sf_rturn:=by kernel_rfl
theorem rturn_c (G:Glob) (x:UInt32) (n:Nat) (h0:0<n) (hn:n<32):Den Tryd.prog G 55 [wD x,.int .i64 n] (.w (.c (.d (wD (rotW x n))))):=by
  refine den_walk Tryd.func55 cf_rturn rfl rfl ?_
  have e1:IntKind.u64.wrap (n:Int)=(n:Int):=IntWalk.u64_in _ (by omega)
  have e2:IntKind.i64.wrap (32-(n:Int))=((32-n:Nat):Int):=by rw[IntWalk.i64_in _ (by omega)]; omega
  have e3:IntKind.u64.wrap ((32-n:Nat):Int)=((32-n:Nat):Int):=IntWalk.u64_in _ (by omega)
  simp only[sf_rturn,putAll,wx,stV,seval,iteOmega,toNatUp,reduceCtorEq,e1,e2,e3]
  exact ret_d (by simp only[wx,stV,seval,iteOmega,toNatUp,reduceCtorEq] <;> rfl)
def sf_rotl:SFn:=⟨2,17,
 .seq (.reg [oO 4 (.mv (.k (.c (.d (.int .u32 0)))))])
 (.seq (.reg [oM 6 1,
 oO 7 (.conv .u64 (.t 6)),
 oO 8 (.bin .and (.t 7) (.k (.c (.d (.int .u64 31))))),
 oM 5 8])
 (.seq (.reg [oM 9 0,
 oM 10 5,
 oO 11 (.bin .shl (.t 9) (.t 10)),
 oM 12 0,
 oM 13 5,
 oO 14 (.bin .sub (.k (.c (.d (.int .u64 32)))) (.t 13)),
 oO 15 (.bin .shr (.t 12) (.t 14)),
 oO 16 (.bin .or (.t 11) (.t 15)),
 oM 4 16])
 (.ret))),
 [(4,none)]⟩
theorem cf_rotl:compFn Tryd.prog { own:=[],comp:=[],frz:=[],nils:=[] } Tryd.f87=some sf_rotl:=by kernel_rfl
theorem rotl_c (G:Glob) (x:UInt32) (n:Nat) (h0:0<n) (hn:n<32):Den Tryd.prog G 87 [wD x,.int .i64 (-(n:Int))] (.w (.c (.d (wD (rotW x n))))):=by
  refine den_walk Tryd.func87 cf_rotl rfl rfl ?_
  have e1:bits .and .u64 (IntKind.u64.wrap (-(n:Int))) 31=((32-n:Nat):Int):=by
    have h:=bits_mask .u64 64 (by decide) u64_in 5 (by decide) (IntKind.u64.wrap (-(n:Int))) (by rw[IntKind.wrap_u64]; omega) (by rw[IntKind.wrap_u64]; omega)
    rw[show (31:Int)=2^5-1 by decide,h,IntKind.wrap_u64]
    omega
  have e2:IntKind.u64.wrap (32-((32-n:Nat):Int))=((n:Nat):Int):=by rw[IntWalk.u64_in _ (by omega)]; omega
  simp only[sf_rotl,putAll,wx,stV,seval,iteOmega,toNatUp,reduceCtorEq,e1,e2]
  rw[orW_comm]
  exact ret_d (by simp only[wx,stV,seval,iteOmega,toNatUp,reduceCtorEq] <;> rfl)
def sf_turn:SFn:=⟨2,9,
 .seq (.reg [oO 4 (.mv (.k (.c (.d (.int .u32 0)))))])
 (.seq (.reg [oM 5 0,
 oM 6 1,
 oO 7 (.un .neg (.t 6)),
 oO 8 (.call 87 [(.t 5),(.t 7)] none),
 oM 4 8])
 (.ret)),
 [(4,none)]⟩
theorem cf_turn:compFn Tryd.prog { own:=[],comp:=[],frz:=[],nils:=[] } Tryd.f75=some sf_turn:=by kernel_rfl
theorem turn_c (G:Glob) (x:UInt32) (n:Nat) (h0:0<n) (hn:n<32):Den Tryd.prog G 75 [wD x,.int .i64 n] (.w (.c (.d (wD (rotW x n))))):=by
  refine den_walk Tryd.func75 cf_turn rfl rfl ?_
  have e1:IntKind.i64.wrap (0-(n:Int)) = -(n:Int):=by rw[IntWalk.i64_in _ (by omega)]; omega
  simp only[sf_turn,putAll,wx,stV,seval,iteOmega,toNatUp,reduceCtorEq,e1]
  refine st_call (rotl_c G x n h0 hn) rfl (.inr rfl) ?_
  simp only[wx,stV,seval,iteOmega,toNatUp,reduceCtorEq]
  exact ret_d (by simp only[wx,stV,seval,iteOmega,toNatUp,reduceCtorEq])
def sf_rfst:SFn:=⟨0,2,
 .seq (.reg [oO 0 (.mv (.k (.c .nil)))])
 (.seq (.reg [oO 1 (.bldSl true 8 1 (.int .u32 0) [(0,(.k (.c (.d (.int .u32 1779033703))))),(1,(.k (.c (.d (.int .u32 3144134277))))),(2,(.k (.c (.d (.int .u32 1013904242))))),(3,(.k (.c (.d (.int .u32 2773480762))))),(4,(.k (.c (.d (.int .u32 1359893119))))),(5,(.k (.c (.d (.int .u32 2600822924))))),(6,(.k (.c (.d (.int .u32 528734635))))),(7,(.k (.c (.d (.int .u32 1541459225)))))]),
 oM 0 1])
 (.ret)),
 [(0,none)]⟩
theorem cf_rfst:compFn Tryd.prog { own:=[1],comp:=[],frz:=[],nils:=[] } Tryd.f40=some sf_rfst:=by kernel_rfl
theorem rfst_c (G:Glob):Den Tryd.prog G 40 [] (.w (.c (.fr 1 (firstK.map wD)))):=by
  refine den_walk Tryd.func40 cf_rfst rfl rfl ?_
  simp only[sf_rfst,putAll,oO_do,oG_do,oN_do,oM_do,kI_do,sx]
  refine optK_mk (.w (.c (.own 8 1 0 8)),upd hN 8 (some (.row 1 (firstK.map wD))),upd uN 8 true) (by kernel_rfl) ?_
  simp only[wx,stV,seval,iteOmega,toNatUp,reduceCtorEq]
  exact ret_own (id:=8) (n:=8) (s:=1) (by simp only[wx,stV,seval,iteOmega,toNatUp,reduceCtorEq]) (by simp only[wx,stV,seval,iteOmega,toNatUp,reduceCtorEq]) rfl
def sf_rcon:SFn:=⟨0,2,
 .seq (.reg [oO 0 (.mv (.k (.c .nil)))])
 (.seq (.reg [oO 1 (.bldSl true 64 1 (.int .u32 0) [(0,(.k (.c (.d (.int .u32 1116352408))))),(1,(.k (.c (.d (.int .u32 1899447441))))),(2,(.k (.c (.d (.int .u32 3049323471))))),(3,(.k (.c (.d (.int .u32 3921009573))))),(4,(.k (.c (.d (.int .u32 961987163))))),(5,(.k (.c (.d (.int .u32 1508970993))))),(6,(.k (.c (.d (.int .u32 2453635748))))),(7,(.k (.c (.d (.int .u32 2870763221))))),(8,(.k (.c (.d (.int .u32 3624381080))))),(9,(.k (.c (.d (.int .u32 310598401))))),(10,(.k (.c (.d (.int .u32 607225278))))),(11,(.k (.c (.d (.int .u32 1426881987))))),(12,(.k (.c (.d (.int .u32 1925078388))))),(13,(.k (.c (.d (.int .u32 2162078206))))),(14,(.k (.c (.d (.int .u32 2614888103))))),(15,(.k (.c (.d (.int .u32 3248222580))))),(16,(.k (.c (.d (.int .u32 3835390401))))),(17,(.k (.c (.d (.int .u32 4022224774))))),(18,(.k (.c (.d (.int .u32 264347078))))),(19,(.k (.c (.d (.int .u32 604807628))))),(20,(.k (.c (.d (.int .u32 770255983))))),(21,(.k (.c (.d (.int .u32 1249150122))))),(22,(.k (.c (.d (.int .u32 1555081692))))),(23,(.k (.c (.d (.int .u32 1996064986))))),(24,(.k (.c (.d (.int .u32 2554220882))))),(25,(.k (.c (.d (.int .u32 2821834349))))),(26,(.k (.c (.d (.int .u32 2952996808))))),(27,(.k (.c (.d (.int .u32 3210313671))))),(28,(.k (.c (.d (.int .u32 3336571891))))),(29,(.k (.c (.d (.int .u32 3584528711))))),(30,(.k (.c (.d (.int .u32 113926993))))),(31,(.k (.c (.d (.int .u32 338241895))))),(32,(.k (.c (.d (.int .u32 666307205))))),(33,(.k (.c (.d (.int .u32 773529912))))),(34,(.k (.c (.d (.int .u32 1294757372))))),(35,(.k (.c (.d (.int .u32 1396182291))))),(36,(.k (.c (.d (.int .u32 1695183700))))),(37,(.k (.c (.d (.int .u32 1986661051))))),(38,(.k (.c (.d (.int .u32 2177026350))))),(39,(.k (.c (.d (.int .u32 2456956037))))),(40,(.k (.c (.d (.int .u32 2730485921))))),(41,(.k (.c (.d (.int .u32 2820302411))))),(42,(.k (.c (.d (.int .u32 3259730800))))),(43,(.k (.c (.d (.int .u32 3345764771))))),(44,(.k (.c (.d (.int .u32 3516065817))))),(45,(.k (.c (.d (.int .u32 3600352804))))),(46,(.k (.c (.d (.int .u32 4094571909))))),(47,(.k (.c (.d (.int .u32 275423344))))),(48,(.k (.c (.d (.int .u32 430227734))))),(49,(.k (.c (.d (.int .u32 506948616))))),(50,(.k (.c (.d (.int .u32 659060556))))),(51,(.k (.c (.d (.int .u32 883997877))))),(52,(.k (.c (.d (.int .u32 958139571))))),(53,(.k (.c (.d (.int .u32 1322822218))))),(54,(.k (.c (.d (.int .u32 1537002063))))),(55,(.k (.c (.d (.int .u32 1747873779))))),(56,(.k (.c (.d (.int .u32 1955562222))))),(57,(.k (.c (.d (.int .u32 2024104815))))),(58,(.k (.c (.d (.int .u32 2227730452))))),(59,(.k (.c (.d (.int .u32 2361852424))))),(60,(.k (.c (.d (.int .u32 2428436474))))),(61,(.k (.c (.d (.int .u32 2756734187))))),(62,(.k (.c (.d (.int .u32 3204031479))))),(63,(.k (.c (.d (.int .u32 3329325298)))))]),
 oM 0 1])
 (.ret)),
 [(0,none)]⟩
theorem cf_rcon:compFn Tryd.prog { own:=[1],comp:=[],frz:=[],nils:=[] } Tryd.f41=some sf_rcon:=by kernel_rfl
theorem rcon_c (G:Glob):Den Tryd.prog G 41 [] (.w (.c (.fr 1 (constK.map wD)))):=by
  refine den_walk Tryd.func41 cf_rcon rfl rfl ?_
  simp only[sf_rcon,putAll,oO_do,oG_do,oN_do,oM_do,kI_do,sx]
  refine optK_mk (.w (.c (.own 8 1 0 64)),upd hN 8 (some (.row 1 (constK.map wD))),upd uN 8 true) (by kernel_rfl) ?_
  simp only[wx,stV,seval,iteOmega,toNatUp,reduceCtorEq]
  exact ret_own (id:=8) (n:=64) (s:=1) (by simp only[wx,stV,seval,iteOmega,toNatUp,reduceCtorEq]) (by simp only[wx,stV,seval,iteOmega,toNatUp,reduceCtorEq]) rfl
end Go.Proofs.YtbkhllchjbjhgaaDoor
namespace Go.Proofs.YtbkhllchjbjhgaaDoor
open Go.RowKit IntWalk
theorem byteW_nat' (b:UInt8):(byteW b).toNat=b.toNat:=by have:=byteW_nat b; omega
theorem shlW_byte (b:UInt8) (n:Nat) (hn:n≤24):(shlW (byteW b) n).toNat=2^n*b.toNat:=by
  have hb:=b.toNat_lt
  have h:(2:Nat)^n≤2^24:=Nat.pow_le_pow_right (by decide) hn
  have h2:2^n*b.toNat≤2^24*255:=Nat.mul_le_mul h (by omega)
  unfold shlW
  rw[byteW_nat',UInt32.toNat_ofNat_of_lt' (by rw[Nat.mul_comm]; simp only[UInt32.size]; omega),Nat.mul_comm]
theorem orW_nat (x y:UInt32):(orW x y).toNat=x.toNat ||| y.toNat:=UInt32.toNat_or x y
theorem wordAt_nat (b:List UInt8) (t:Nat):(wordAt b t).toNat=((((b.getD (4*t) 0).toNat*256+(b.getD (4*t+1) 0).toNat)*256+(b.getD (4*t+2) 0).toNat)*256+(b.getD (4*t+3) 0).toNat):=by
  unfold wordAt
  generalize b.getD (4*t) 0=p
  generalize b.getD (4*t+1) 0=q
  generalize b.getD (4*t+2) 0=r
  generalize b.getD (4*t+3) 0=s
  have hp:=p.toNat_lt
  have hq:=q.toNat_lt
  have hr:=r.toNat_lt
  have hs:=s.toNat_lt
  rw[orW_nat,orW_nat,orW_nat,shlW_byte _ _ (by decide),shlW_byte _ _ (by decide),shlW_byte _ _ (by decide),byteW_nat']
  have e1:=Nat.two_pow_add_eq_or_of_lt (i:=24) (b:=2^16*q.toNat) (by omega) p.toNat
  rw[← e1]
  have e2:=Nat.two_pow_add_eq_or_of_lt (i:=16) (b:=2^8*r.toNat) (by omega) (2^8*p.toNat+q.toNat)
  have e3:2^24*p.toNat+2^16*q.toNat=2^16*(2^8*p.toNat+q.toNat):=by omega
  rw[e3,← e2]
  have e4:=Nat.two_pow_add_eq_or_of_lt (i:=8) (b:=s.toNat) (by omega) (2^8*(2^8*p.toNat+q.toNat)+r.toNat)
  have e5:2^16*(2^8*p.toNat+q.toNat)+2^8*r.toNat=2^8*(2^8*(2^8*p.toNat+q.toNat)+r.toNat):=by omega
  rw[e5,← e4]
  omega
theorem four (b:List UInt8) (t:Nat) (h:4*t+4≤b.length):(b.drop (4*t)).take 4=[b.getD (4*t) 0,b.getD (4*t+1) 0,b.getD (4*t+2) 0,b.getD (4*t+3) 0]:=by
  apply List.ext_getElem?
  intro j
  rw[List.getElem?_take,List.getElem?_drop]
  rcases j with _ | _ | _ | _ | j
  ·simp[List.getD,List.getElem?_eq_getElem (show 4*t<b.length by omega)]
  ·simp[List.getD,List.getElem?_eq_getElem (show 4*t+1<b.length by omega)]
  ·simp[List.getD,List.getElem?_eq_getElem (show 4*t+2<b.length by omega)]
  ·simp[List.getD,List.getElem?_eq_getElem (show 4*t+3<b.length by omega)]
  ·rw[if_neg (by omega)]
   rfl
theorem getW (b:List UInt8) (t:Nat) (h:4*t+4≤b.length):D.int .u32 (IntKind.u32.wrap (getN ((b.drop (4*t)).take 4):Int))=wD (wordAt b t):=by
  have h1:=wordAt_nat b t
  rw[four b t h]
  unfold wD
  rw[h1]
  generalize b.getD (4*t) 0=p
  generalize b.getD (4*t+1) 0=q
  generalize b.getD (4*t+2) 0=r
  generalize b.getD (4*t+3) 0=s
  have hp:=p.toNat_lt
  have hq:=q.toNat_lt
  have hr:=r.toNat_lt
  have hs:=s.toNat_lt
  have e:getN [p,q,r,s]=(((p.toNat*256+q.toNat)*256+r.toNat)*256+s.toNat):=by
    simp only[getN,List.foldl_cons,List.foldl_nil]
    omega
  rw[e,IntWalk.u32_in _ (by omega)]
theorem sched16_len (b:List UInt8) (n:Nat):(sched16 b n).length=n:=by simp[sched16]
theorem schedN_len (b:List UInt8):∀ n,(schedN b n).length=16+n
  | 0=>by simp[schedN,sched16_len]
  | n+1=>by rw[schedN,List.length_append,schedN_len b n]; simp; omega
theorem set_next {α:Type} (l:List α) (z x:α) (n:Nat) (h:0<n):(l++List.replicate n z).set l.length x=(l++[x])++List.replicate (n-1) z:=by
  obtain⟨k,rfl⟩:∃ k,n=k+1:=⟨n-1,by omega⟩
  rw[List.set_append_right _ _ (Nat.le_refl _),Nat.sub_self,List.replicate_succ,List.set_cons_zero]
  simp
theorem get_of {l:List UInt32} {r:List UInt32} {i:Nat} (h:i<l.length):(l++r)[i]?=some (l.getD i 0):=by
  rw[List.getElem?_append_left h]
  simp[h]
def spSt1 (b:List UInt8) (t:Nat):St:=⟨ofL [(0,.w (.c (.d (.sl (b.map bD))))),(2,.w (.c (.pa 1 1))),(3,.w (.c (.pa 2 1))),(10,.w (.c (.d (.int .i64 (t:Int)))))],hL [(1,.row 1 ((List.replicate 64 (0:UInt32)).map wD)),(2,.row 1 ((sched16 b t++List.replicate (64-t) 0).map wD))],uL [1,2]⟩
def spSt2 (b:List UInt8) (n:Nat):St:=⟨ofL [(2,.w (.c (.pa 1 1))),(3,.w (.c (.pa 2 1))),(5,.w (.c (.d (.int .i64 ((16+n:Nat):Int)))))],hL [(1,.row 1 ((List.replicate 64 (0:UInt32)).map wD)),(2,.row 1 ((schedN b n++List.replicate (48-n) 0).map wD))],uL [1,2]⟩
def lp_spread_0:SCode :=
 .seq (.reg [oO 11 (.bin .lss (.t 10) (kI 16))])
 (.seq (.cond (.t 11) (.skip)
 (.exit 0))
 (.seq (.block 1 (.seq (.reg [oM 12 10,
 oM 4 12])
 (.reg [oM 13 4,
 oM 14 0,
 oM 15 4,
 oO 16 (.bin .mul (.t 15) (kI 4)),
 oM 17 4,
 oO 18 (.bin .add (.t 17) (kI 1)),
 oO 19 (.bin .mul (.t 18) (kI 4)),
 oO 20 (.slice 1 (.t 14) (some (.t 16)) (some (.t 19)) none),
 oO 21 (.call 31 [(.t 20)] none),
 oO 22 (.conv .u32 (.t 21)),
 oO 23 (.idxPa 1 64 (.t 3) (.t 13)),
 oN (.store .sc (.t 23) (.t 22))])))
 (.reg [oO 24 (.bin .add (.t 10) (kI 1)),
 oM 10 24])))
def lp_spread_1:SCode :=
 .seq (.seq (.reg [oM 25 5,
 oO 26 (.bin .lss (.t 25) (kI 64))])
 (.cond (.t 26) (.skip)
 (.exit 2)))
 (.seq (.block 3 (.seq (.reg [oM 29 5,
 oO 30 (.bin .sub (.t 29) (kI 15)),
 oO 31 (.idxPa 1 64 (.t 3) (.t 30)),
 oO 32 (.load .sc (.t 31)),
 oM 33 5,
 oO 34 (.bin .sub (.t 33) (kI 2)),
 oO 35 (.idxPa 1 64 (.t 3) (.t 34)),
 oO 36 (.load .sc (.t 35)),
 oM 6 32,
 oM 7 36])
 (.seq (.reg [oM 37 6,
 oO 38 (.call 75 [(.t 37),(kI 7)] none),
 oM 39 6,
 oO 40 (.call 75 [(.t 39),(kI 18)] none),
 oO 41 (.bin .xor (.t 38) (.t 40)),
 oM 42 6,
 oO 43 (.bin .shr (.t 42) (.k (.c (.d (.int .u64 3))))),
 oO 44 (.bin .xor (.t 41) (.t 43)),
 oM 8 44])
 (.seq (.reg [oM 45 7,
 oO 46 (.call 75 [(.t 45),(kI 17)] none),
 oM 47 7,
 oO 48 (.call 75 [(.t 47),(kI 19)] none),
 oO 49 (.bin .xor (.t 46) (.t 48)),
 oM 50 7,
 oO 51 (.bin .shr (.t 50) (.k (.c (.d (.int .u64 10))))),
 oO 52 (.bin .xor (.t 49) (.t 51)),
 oM 9 52])
 (.reg [oM 53 5,
 oM 54 9,
 oM 55 5,
 oO 56 (.bin .sub (.t 55) (kI 7)),
 oO 57 (.idxPa 1 64 (.t 3) (.t 56)),
 oO 58 (.load .sc (.t 57)),
 oO 59 (.bin .add (.t 54) (.t 58)),
 oM 60 8,
 oO 61 (.bin .add (.t 59) (.t 60)),
 oM 62 5,
 oO 63 (.bin .sub (.t 62) (kI 16)),
 oO 64 (.idxPa 1 64 (.t 3) (.t 63)),
 oO 65 (.load .sc (.t 64)),
 oO 66 (.bin .add (.t 61) (.t 65)),
 oO 67 (.idxPa 1 64 (.t 3) (.t 53)),
 oN (.store .sc (.t 67) (.t 66))])))))
 (.reg [oM 27 5,
 oO 28 (.bin .add (.t 27) (kI 1)),
 oM 5 28]))
def sf_spread:SFn:=⟨1,69,
 .seq (.reg [oO 2 (.allocArr [(.int .u32 0),(.int .u32 0),(.int .u32 0),(.int .u32 0),(.int .u32 0),(.int .u32 0),(.int .u32 0),(.int .u32 0),(.int .u32 0),(.int .u32 0),(.int .u32 0),(.int .u32 0),(.int .u32 0),(.int .u32 0),(.int .u32 0),(.int .u32 0),(.int .u32 0),(.int .u32 0),(.int .u32 0),(.int .u32 0),(.int .u32 0),(.int .u32 0),(.int .u32 0),(.int .u32 0),(.int .u32 0),(.int .u32 0),(.int .u32 0),(.int .u32 0),(.int .u32 0),(.int .u32 0),(.int .u32 0),(.int .u32 0),(.int .u32 0),(.int .u32 0),(.int .u32 0),(.int .u32 0),(.int .u32 0),(.int .u32 0),(.int .u32 0),(.int .u32 0),(.int .u32 0),(.int .u32 0),(.int .u32 0),(.int .u32 0),(.int .u32 0),(.int .u32 0),(.int .u32 0),(.int .u32 0),(.int .u32 0),(.int .u32 0),(.int .u32 0),(.int .u32 0),(.int .u32 0),(.int .u32 0),(.int .u32 0),(.int .u32 0),(.int .u32 0),(.int .u32 0),(.int .u32 0),(.int .u32 0),(.int .u32 0),(.int .u32 0),(.int .u32 0),(.int .u32 0)])])
 (.seq (.reg [oO 3 (.allocArr [(.int .u32 0),(.int .u32 0),(.int .u32 0),(.int .u32 0),(.int .u32 0),(.int .u32 0),(.int .u32 0),(.int .u32 0),(.int .u32 0),(.int .u32 0),(.int .u32 0),(.int .u32 0),(.int .u32 0),(.int .u32 0),(.int .u32 0),(.int .u32 0),(.int .u32 0),(.int .u32 0),(.int .u32 0),(.int .u32 0),(.int .u32 0),(.int .u32 0),(.int .u32 0),(.int .u32 0),(.int .u32 0),(.int .u32 0),(.int .u32 0),(.int .u32 0),(.int .u32 0),(.int .u32 0),(.int .u32 0),(.int .u32 0),(.int .u32 0),(.int .u32 0),(.int .u32 0),(.int .u32 0),(.int .u32 0),(.int .u32 0),(.int .u32 0),(.int .u32 0),(.int .u32 0),(.int .u32 0),(.int .u32 0),(.int .u32 0),(.int .u32 0),(.int .u32 0),(.int .u32 0),(.int .u32 0),(.int .u32 0),(.int .u32 0),(.int .u32 0),(.int .u32 0),(.int .u32 0),(.int .u32 0),(.int .u32 0),(.int .u32 0),(.int .u32 0),(.int .u32 0),(.int .u32 0),(.int .u32 0),(.int .u32 0),(.int .u32 0),(.int .u32 0),(.int .u32 0)])])
 (.seq (.seq (.reg [oO 10 (.mv (kI 0))])
 (.block 0 (.loop lp_spread_0)))
 (.seq (.seq (.reg [oO 5 (.mv (kI 16))])
 (.block 2 (.loop lp_spread_1)))
 (.seq (.reg [oO 68 (.load (.ag 64) (.t 3)),
 oN (.store (.ag 64) (.t 2) (.t 68))])
 (.ret))))),
 [(2,(some (.ag 64)))]⟩
theorem cf_spread:compFn Tryd.prog { own:=[],comp:=[],frz:=[],nils:=[] } Tryd.f74=some sf_spread:=by kernel_rfl
set_option maxHeartbeats 800000 in
theorem spread_c (G:Glob) (b:List UInt8) (hb:b.length=64):Den Tryd.prog G 74 [.sl (b.map bD)] (.w (.c (.d (.agg ((sched b).map wD))))):=by
  refine den_walk Tryd.func74 cf_spread rfl rfl ?_
  simp only[sf_spread,putAll,wx,stV,seval,iteOmega,toNatUp,reduceCtorEq]
  refine loop_st (spSt1 b) (fun t=>16-t) (fun t=>t≤16) 0 (Nat.zero_le _) ?_ ?_
  ·refine ent_l (fun i=>8*(i+1)) ?_ ?_ rfl rfl <;> simp only[wx,wex,stV,seval,iteOmega,toNatUp,reduceCtorEq]
   exact⟨rfl,rfl⟩
  ·intro t ht
   by_cases hlt:t<16
   ·have e1:IntKind.i64.wrap ((t:Int)*4)=((4*t:Nat):Int):=by rw[IntWalk.i64_in _ (by omega)]; omega
    have e2:IntKind.i64.wrap ((t:Int)+1)=((t+1:Nat):Int):=by rw[IntWalk.i64_in _ (by omega)]; rfl
    have e3:IntKind.i64.wrap (((t+1:Nat):Int)*4)=((4*t+4:Nat):Int):=by rw[IntWalk.i64_in _ (by omega)]; omega
    have e4:4*t+4-4*t=4:=by omega
    simp only[lp_spread_0,spSt1,wx,stV,seval,iteOmega,toNatUp,reduceCtorEq,e1,e2,e3,e4]
    refine st_call (get_c G _ (by rw[List.length_take,List.length_drop]; omega)) rfl (.inr rfl) ?_
    have h1:t<(sched16 b t++List.replicate (64-t) 0).length:=by rw[List.length_append,sched16_len,List.length_replicate]; omega
    have h2:=set_next (sched16 b t) 0 (wordAt b t) (64-t) (by omega)
    rw[sched16_len] at h2
    have h3:sched16 b t++[wordAt b t]=sched16 b (t+1):=by simp[sched16,List.range_succ]
    have h4:64-t-1=64-(t+1):=by omega
    rw[h3,h4] at h2
    simp only[wx,stV,seval,iteOmega,toNatUp,reduceCtorEq,getW b t (by omega),Nat.zero_add,stO_ws h1 (one_w _),set_ws,h2,e2]
    refine lop_next (t+1) (by omega) (by omega) (ent_l id ?_ ?_ rfl rfl) <;> simp only[wx,wex,stV,seval,iteOmega,toNatUp,reduceCtorEq]
   ·obtain rfl:t=16:=by omega
    simp only[lp_spread_0,spSt1,wx,stV,seval,iteOmega,toNatUp,reduceCtorEq]
    refine loop_st (spSt2 b) (fun n=>48-n) (fun n=>n≤48) 0 (Nat.zero_le _) ?_ ?_
    ·have h0:sched16 b 16=schedN b 0:=rfl
     refine ent_l id ?_ ?_ rfl rfl <;> simp only[wx,wex,stV,seval,iteOmega,toNatUp,reduceCtorEq,h0]
    ·intro n hn
     by_cases hlt:n<48
     ·have hl:=schedN_len b n
      have w1:∀ k:Nat,k≤16→IntKind.i64.wrap (((16+n:Nat):Int)-(k:Int))=((16+n-k:Nat):Int):=fun k hk=>by rw[IntWalk.i64_in _ (by omega)]; omega
      have e15:IntKind.i64.wrap (((16+n:Nat):Int)-15)=((16+n-15:Nat):Int):=w1 15 (by decide)
      have e2:IntKind.i64.wrap (((16+n:Nat):Int)-2)=((16+n-2:Nat):Int):=w1 2 (by decide)
      have e7:IntKind.i64.wrap (((16+n:Nat):Int)-7)=((16+n-7:Nat):Int):=w1 7 (by decide)
      have e16:IntKind.i64.wrap (((16+n:Nat):Int)-16)=((16+n-16:Nat):Int):=w1 16 (by decide)
      have e0:IntKind.i64.wrap (((16+n:Nat):Int)+1)=((16+(n+1):Nat):Int):=by rw[IntWalk.i64_in _ (by omega)]; omega
      have g:∀ k,k<16+n→((schedN b n++List.replicate (48-n) 0).map wD)[k]?=some (wD ((schedN b n).getD k 0)):=fun k hk=>by
        rw[List.getElem?_map,get_of (by omega)]; rfl
      have g15:=g (16+n-15) (by omega)
      have g2:=g (16+n-2) (by omega)
      have g7:=g (16+n-7) (by omega)
      have g16:=g (16+n-16) (by omega)
      simp only[lp_spread_1,spSt2,wx,stV,seval,iteOmega,toNatUp,reduceCtorEq,e15,e2,e7,e16,e0,g15,g2,g7,g16]
      refine st_call (turn_c G _ 7 (by decide) (by decide)) rfl (.inr rfl) ?_
      simp only[wx,stV,seval,iteOmega,toNatUp,reduceCtorEq]
      refine st_call (turn_c G _ 18 (by decide) (by decide)) rfl (.inr rfl) ?_
      simp only[wx,stV,seval,iteOmega,toNatUp,reduceCtorEq]
      refine st_call (turn_c G _ 17 (by decide) (by decide)) rfl (.inr rfl) ?_
      simp only[wx,stV,seval,iteOmega,toNatUp,reduceCtorEq]
      refine st_call (turn_c G _ 19 (by decide) (by decide)) rfl (.inr rfl) ?_
      have h1:16+n<(schedN b n++List.replicate (48-n) 0).length:=by rw[List.length_append,hl,List.length_replicate]; omega
      have h2:=set_next (schedN b n) 0 (nextW (schedN b n) (16+n)) (48-n) (by omega)
      rw[hl] at h2
      have h4:48-n-1=48-(n+1):=by omega
      have h3:schedN b n++[nextW (schedN b n) (16+n)]=schedN b (n+1):=rfl
      rw[h3,h4] at h2
      simp only[nextW,smallA,smallB] at h2
      simp only[wx,stV,seval,iteOmega,toNatUp,reduceCtorEq,e15,e2,e7,e16,e0,g15,g2,g7,g16,stO_ws h1 (one_w _),set_ws,h2]
      refine lop_next (n+1) (by omega) (by omega) (ent_l id ?_ ?_ rfl rfl) <;> simp only[wx,wex,stV,seval,iteOmega,toNatUp,reduceCtorEq]
     ·have hn48:n=48:=by omega
      have hl:(schedN b n).length=64:=by rw[schedN_len]; omega
      have h0:48-n=0:=by omega
      simp only[lp_spread_1,spSt2,wx,stV,seval,iteOmega,toNatUp,reduceCtorEq,h0,List.append_nil,List.replicate_zero,hl]
      refine ret_d ?_
      simp only[wx,stV,seval,iteOmega,toNatUp,reduceCtorEq,sched_at b n hn48,hl]
end Go.Proofs.YtbkhllchjbjhgaaDoor
namespace Go.Proofs.YtbkhllchjbjhgaaDoor
open Go.RowKit IntWalk
set_option maxHeartbeats 1600000
theorem ev_g {G:Glob} {n:Nat} {c:C} (h:G.at n=some c) (f:Nat→V):ev G f (.g n)=.w (.c c):=by simp[ev,h]
theorem getD_some {l:List UInt32} {i:Nat} (h:i<l.length):l[i]?=some (l.getD i 0):=by simp[h]
theorem eight {l:List UInt32} (h:l.length=8):∃ a b c d e f g i,l=[a,b,c,d,e,f,g,i]:=by
  match l,h with
  | [a,b,c,d,e,f,g,i],_=>exact⟨a,b,c,d,e,f,g,i,rfl⟩
def Eight.list (s:Eight):List UInt32:=[s.a,s.b,s.c,s.d,s.e,s.f,s.g,s.h]
theorem step_a (s:Eight) (k w:UInt32):(s.step k w).a=addW (addW (addW (addW (addW s.h (bigE s.e)) (chW s.e s.f s.g)) k) w) (addW (bigA s.a) (majW s.a s.b s.c)):=rfl
theorem step_b (s:Eight) (k w:UInt32):(s.step k w).b=s.a:=rfl
theorem step_c (s:Eight) (k w:UInt32):(s.step k w).c=s.b:=rfl
theorem step_d (s:Eight) (k w:UInt32):(s.step k w).d=s.c:=rfl
theorem step_e (s:Eight) (k w:UInt32):(s.step k w).e=addW s.d (addW (addW (addW (addW s.h (bigE s.e)) (chW s.e s.f s.g)) k) w):=rfl
theorem step_f (s:Eight) (k w:UInt32):(s.step k w).f=s.e:=rfl
theorem step_g (s:Eight) (k w:UInt32):(s.step k w).g=s.f:=rfl
theorem step_h (s:Eight) (k w:UInt32):(s.step k w).h=s.g:=rfl
def blSt1 (h:List UInt32) (b:List UInt8) (s:Eight) (n:Nat):St:=⟨ofL [(2,.w (.c (.pa 1 1))),(4,.w (.c (.pa 2 1))),(5,.w (.c (.pa 3 1))),(6,.w (.c (.d (wD s.a)))),(7,.w (.c (.d (wD s.b)))),(8,.w (.c (.d (wD s.c)))),(9,.w (.c (.d (wD s.d)))),(10,.w (.c (.d (wD s.e)))),(11,.w (.c (.d (wD s.f)))),(12,.w (.c (.d (wD s.g)))),(13,.w (.c (.d (wD s.h)))),(37,.w (.c (.d (.int .i64 (n:Int)))))],
  hL [(1,.row 1 (h.map wD)),(2,.row 1 ((List.replicate 8 (0:UInt32)).map wD)),(3,.row 1 ((sched b).map wD))],uL [1,2,3]⟩
def blR1 (h:List UInt32) (b:List UInt8) (n:Nat):St:=blSt1 h b ((Eight.of h).rounds constK (sched b) n) n
def sumTo (s:Eight) (h:List UInt32) (k:Nat):List UInt32:=(s.sum h).take k++h.drop k
def blSt2 (h:List UInt32) (s:Eight) (n:Nat):St:=⟨ofL [(2,.w (.c (.pa 1 1))),(4,.w (.c (.pa 2 1))),(108,.w (.c (.d (.agg (s.list.map wD))))),(109,.w (.c (.d (.int .i64 (n:Int)))))],
  hL [(1,.row 1 ((sumTo s h n).map wD)),(2,.row 1 ((List.replicate 8 (0:UInt32)).map wD))],uL [1,2]⟩
def lp_block_0:SCode :=
 .seq (.reg [oO 38 (.bin .lss (.t 37) (kI 64))])
 (.seq (.cond (.t 38) (.skip)
 (.exit 0))
 (.seq (.block 1 (.seq (.reg [oM 39 37,
 oM 14 39])
 (.seq (.reg [oM 40 13,
 oM 41 10,
 oO 42 (.call 75 [(.t 41),(kI 6)] none),
 oM 43 10,
 oO 44 (.call 75 [(.t 43),(kI 11)] none),
 oO 45 (.bin .xor (.t 42) (.t 44)),
 oM 46 10,
 oO 47 (.call 75 [(.t 46),(kI 25)] none),
 oO 48 (.bin .xor (.t 45) (.t 47)),
 oO 49 (.bin .add (.t 40) (.t 48)),
 oM 50 10,
 oM 51 11,
 oO 52 (.bin .and (.t 50) (.t 51)),
 oM 53 10,
 oO 54 (.un .xor (.t 53)),
 oM 55 12,
 oO 56 (.bin .and (.t 54) (.t 55)),
 oO 57 (.bin .xor (.t 52) (.t 56)),
 oO 58 (.bin .add (.t 49) (.t 57)),
 oM 59 14,
 oO 60 (.idxPa 1 64 (.g 1) (.t 59)),
 oO 61 (.load .sc (.t 60)),
 oO 62 (.bin .add (.t 58) (.t 61)),
 oM 63 14,
 oO 64 (.idxPa 1 64 (.t 5) (.t 63)),
 oO 65 (.load .sc (.t 64)),
 oO 66 (.bin .add (.t 62) (.t 65)),
 oM 15 66])
 (.seq (.reg [oM 67 6,
 oO 68 (.call 75 [(.t 67),(kI 2)] none),
 oM 69 6,
 oO 70 (.call 75 [(.t 69),(kI 13)] none),
 oO 71 (.bin .xor (.t 68) (.t 70)),
 oM 72 6,
 oO 73 (.call 75 [(.t 72),(kI 22)] none),
 oO 74 (.bin .xor (.t 71) (.t 73)),
 oM 75 6,
 oM 76 7,
 oO 77 (.bin .and (.t 75) (.t 76)),
 oM 78 6,
 oM 79 8,
 oO 80 (.bin .and (.t 78) (.t 79)),
 oO 81 (.bin .xor (.t 77) (.t 80)),
 oM 82 7,
 oM 83 8,
 oO 84 (.bin .and (.t 82) (.t 83)),
 oO 85 (.bin .xor (.t 81) (.t 84)),
 oO 86 (.bin .add (.t 74) (.t 85)),
 oM 16 86])
 (.reg [oM 87 12,
 oM 88 11,
 oM 89 10,
 oM 90 9,
 oM 91 15,
 oO 92 (.bin .add (.t 90) (.t 91)),
 oM 93 8,
 oM 94 7,
 oM 95 6,
 oM 96 15,
 oM 97 16,
 oO 98 (.bin .add (.t 96) (.t 97)),
 oM 13 87,
 oM 12 88,
 oM 11 89,
 oM 10 92,
 oM 9 93,
 oM 8 94,
 oM 7 95,
 oM 6 98])))))
 (.reg [oO 99 (.bin .add (.t 37) (kI 1)),
 oM 37 99])))
def lp_block_1:SCode :=
 .seq (.reg [oO 110 (.bin .lss (.t 109) (kI 8))])
 (.seq (.cond (.t 110) (.skip)
 (.exit 2))
 (.seq (.block 3 (.seq (.reg [oM 111 109,
 oO 112 (.idxArr 1 8 .sc (.t 108) (.t 109)),
 oM 17 111,
 oM 18 112])
 (.reg [oM 113 17,
 oO 114 (.idxPa 1 8 (.t 2) (.t 113)),
 oO 115 (.load .sc (.t 114)),
 oM 116 18,
 oO 117 (.bin .add (.t 115) (.t 116)),
 oO 118 (.idxPa 1 8 (.t 2) (.t 113)),
 oN (.store .sc (.t 118) (.t 117))])))
 (.reg [oO 119 (.bin .add (.t 109) (kI 1)),
 oM 109 119])))
def sf_block:SFn:=⟨2,121,
 .seq (.reg [oO 2 (.box .ownArr (.t 0)),
 oO 4 (.allocArr [(.int .u32 0),(.int .u32 0),(.int .u32 0),(.int .u32 0),(.int .u32 0),(.int .u32 0),(.int .u32 0),(.int .u32 0)])])
 (.seq (.reg [oM 19 1,
 oO 20 (.call 74 [(.t 19)] none),
 oO 5 (.allocArr [(.int .u32 0),(.int .u32 0),(.int .u32 0),(.int .u32 0),(.int .u32 0),(.int .u32 0),(.int .u32 0),(.int .u32 0),(.int .u32 0),(.int .u32 0),(.int .u32 0),(.int .u32 0),(.int .u32 0),(.int .u32 0),(.int .u32 0),(.int .u32 0),(.int .u32 0),(.int .u32 0),(.int .u32 0),(.int .u32 0),(.int .u32 0),(.int .u32 0),(.int .u32 0),(.int .u32 0),(.int .u32 0),(.int .u32 0),(.int .u32 0),(.int .u32 0),(.int .u32 0),(.int .u32 0),(.int .u32 0),(.int .u32 0),(.int .u32 0),(.int .u32 0),(.int .u32 0),(.int .u32 0),(.int .u32 0),(.int .u32 0),(.int .u32 0),(.int .u32 0),(.int .u32 0),(.int .u32 0),(.int .u32 0),(.int .u32 0),(.int .u32 0),(.int .u32 0),(.int .u32 0),(.int .u32 0),(.int .u32 0),(.int .u32 0),(.int .u32 0),(.int .u32 0),(.int .u32 0),(.int .u32 0),(.int .u32 0),(.int .u32 0),(.int .u32 0),(.int .u32 0),(.int .u32 0),(.int .u32 0),(.int .u32 0),(.int .u32 0),(.int .u32 0),(.int .u32 0)]),
 oN (.store (.ag 64) (.t 5) (.t 20))])
 (.seq (.reg [oO 21 (.idxPa 1 8 (.t 2) (kI 0)),
 oO 22 (.load .sc (.t 21)),
 oO 23 (.idxPa 1 8 (.t 2) (kI 1)),
 oO 24 (.load .sc (.t 23)),
 oO 25 (.idxPa 1 8 (.t 2) (kI 2)),
 oO 26 (.load .sc (.t 25)),
 oO 27 (.idxPa 1 8 (.t 2) (kI 3)),
 oO 28 (.load .sc (.t 27)),
 oO 29 (.idxPa 1 8 (.t 2) (kI 4)),
 oO 30 (.load .sc (.t 29)),
 oO 31 (.idxPa 1 8 (.t 2) (kI 5)),
 oO 32 (.load .sc (.t 31)),
 oO 33 (.idxPa 1 8 (.t 2) (kI 6)),
 oO 34 (.load .sc (.t 33)),
 oO 35 (.idxPa 1 8 (.t 2) (kI 7)),
 oO 36 (.load .sc (.t 35)),
 oM 6 22,
 oM 7 24,
 oM 8 26,
 oM 9 28,
 oM 10 30,
 oM 11 32,
 oM 12 34,
 oM 13 36])
 (.seq (.seq (.reg [oO 37 (.mv (kI 0))])
 (.block 0 (.loop lp_block_0)))
 (.seq (.seq (.reg [oM 100 6,
 oM 101 7,
 oM 102 8,
 oM 103 9,
 oM 104 10,
 oM 105 11,
 oM 106 12,
 oM 107 13,
 oO 108 (.build [(.d (.int .u32 0)),(.d (.int .u32 0)),(.d (.int .u32 0)),(.d (.int .u32 0)),(.d (.int .u32 0)),(.d (.int .u32 0)),(.d (.int .u32 0)),(.d (.int .u32 0))] [(0,1,(.t 100)),(1,1,(.t 101)),(2,1,(.t 102)),(3,1,(.t 103)),(4,1,(.t 104)),(5,1,(.t 105)),(6,1,(.t 106)),(7,1,(.t 107))]),
 oO 109 (.mv (kI 0))])
 (.block 2 (.loop lp_block_1)))
 (.seq (.reg [oO 120 (.load (.ag 8) (.t 2)),
 oN (.store (.ag 8) (.t 4) (.t 120))])
 (.ret)))))),
 [(4,(some (.ag 8)))]⟩
theorem cf_block:compFn Tryd.prog { own:=[2],comp:=[],frz:=[],nils:=[] } Tryd.f64=some sf_block:=by kernel_rfl
theorem block_c (G:Glob) (hG:G.at 1=some (.ra (constK.map wD))) (h:List UInt32) (b:List UInt8) (hh:h.length=8) (hb:b.length=64):Den Tryd.prog G 64 [.agg (h.map wD),.sl (b.map bD)] (.w (.c (.d (.agg ((blockK h b).map wD))))):=by
  refine den_walk Tryd.func64 cf_block rfl rfl ?_
  have hsl:(sched b).length=64:=schedN_len b 48
  have eg:=@ev_g G 1 _ hG
  have hcl:constK.length=64:=constK_len
  obtain⟨h0,h1,h2,h3,h4,h5,h6,h7,rfl⟩:=eight hh
  simp only[sf_block,putAll,wx,stV,seval,iteOmega,toNatUp,reduceCtorEq]
  refine st_call (spread_c G b hb) rfl (.inl rfl) ?_
  simp only[wx,stV,seval,iteOmega,toNatUp,reduceCtorEq,hsl]
  refine loop_st (blR1 [h0,h1,h2,h3,h4,h5,h6,h7] b) (fun n=>64-n) (fun n=>n≤64) 0 (Nat.zero_le _) ?_ ?_
  ·refine ent_l (fun i=>match i with | 1=>16 | 2=>32 | _=>40) ?_ ?_ rfl rfl <;> simp only[blR1,blSt1,wx,wex,stV,seval,iteOmega,toNatUp,reduceCtorEq]
   ·exact⟨rfl,rfl,rfl,rfl,rfl,rfl,rfl,rfl⟩
   ·rfl
  ·intro n hn
   by_cases hlt:n<64
   ·have e1:IntKind.i64.wrap ((n:Int)+1)=((n+1:Nat):Int):=by rw[IntWalk.i64_in _ (by omega)]; rfl
    have g1:(constK.map wD)[n]?=some (wD (constK.getD n 0)):=by rw[get_map,getD_some (by omega)]; rfl
    have g2:((sched b).map wD)[n]?=some (wD ((sched b).getD n 0)):=by rw[get_map,getD_some (by omega)]; rfl
    have hr:(Eight.of [h0,h1,h2,h3,h4,h5,h6,h7]).rounds constK (sched b) (n+1)=((Eight.of [h0,h1,h2,h3,h4,h5,h6,h7]).rounds constK (sched b) n).step (constK.getD n 0) ((sched b).getD n 0):=rfl
    generalize hs:(Eight.of [h0,h1,h2,h3,h4,h5,h6,h7]).rounds constK (sched b) n=s at hr
    simp only[lp_block_0,blR1,blSt1,hs,wx,stV,seval,iteOmega,toNatUp,reduceCtorEq,eg,g1,g2,e1]
    refine st_call (turn_c G _ 6 (by decide) (by decide)) rfl (.inr rfl) ?_
    simp only[wx,stV,seval,iteOmega,toNatUp,reduceCtorEq]
    refine st_call (turn_c G _ 11 (by decide) (by decide)) rfl (.inr rfl) ?_
    simp only[wx,stV,seval,iteOmega,toNatUp,reduceCtorEq]
    refine st_call (turn_c G _ 25 (by decide) (by decide)) rfl (.inr rfl) ?_
    simp only[wx,stV,seval,iteOmega,toNatUp,reduceCtorEq,eg,g1,g2,hcl]
    refine st_call (turn_c G _ 2 (by decide) (by decide)) rfl (.inr rfl) ?_
    simp only[wx,stV,seval,iteOmega,toNatUp,reduceCtorEq]
    refine st_call (turn_c G _ 13 (by decide) (by decide)) rfl (.inr rfl) ?_
    simp only[wx,stV,seval,iteOmega,toNatUp,reduceCtorEq]
    refine st_call (turn_c G _ 22 (by decide) (by decide)) rfl (.inr rfl) ?_
    simp only[wx,stV,seval,iteOmega,toNatUp,reduceCtorEq,e1]
    refine lop_next (n+1) (by omega) (by omega) ?_
    rw[blR1,hr]
    refine (ent_l id ?_ ?_ rfl rfl) <;> simp only[wx,wex,stV,seval,iteOmega,toNatUp,reduceCtorEq,step_a,step_b,step_c,step_d,step_e,step_f,step_g,step_h]
    exact⟨rfl,rfl⟩
   ·obtain rfl:n=64:=by omega
    have hK:blockK [h0,h1,h2,h3,h4,h5,h6,h7] b=((Eight.of [h0,h1,h2,h3,h4,h5,h6,h7]).rounds constK (sched b) 64).sum [h0,h1,h2,h3,h4,h5,h6,h7]:=rfl
    rw[hK]
    simp only[blR1]
    generalize (Eight.of [h0,h1,h2,h3,h4,h5,h6,h7]).rounds constK (sched b) 64=s
    simp only[lp_block_0,blSt1,wx,stV,seval,iteOmega,toNatUp,reduceCtorEq]
    refine loop_st (blSt2 [h0,h1,h2,h3,h4,h5,h6,h7] s) (fun n=>8-n) (fun n=>n≤8) 0 (Nat.zero_le _) ?_ ?_
    ·refine ent_l id ?_ ?_ rfl rfl <;> simp only[wx,wex,stV,seval,iteOmega,toNatUp,reduceCtorEq,blSt2]
     ·rfl
     ·rfl
    ·have e8:s.sum [h0,h1,h2,h3,h4,h5,h6,h7]=[addW h0 s.a,addW h1 s.b,addW h2 s.c,addW h3 s.d,addW h4 s.e,addW h5 s.f,addW h6 s.g,addW h7 s.h]:=rfl
     intro n hn
     have hc:n=8∨n=0∨n=1∨n=2∨n=3∨n=4∨n=5∨n=6∨n=7:=by omega
     rcases hc with rfl | rfl | rfl | rfl | rfl | rfl | rfl | rfl | rfl
     ·simp only[lp_block_1,blSt2,sumTo,e8,Eight.list,wx,stV,seval,iteOmega,toNatUp,reduceCtorEq]
      exact ret_d (by simp only[wx,stV,seval,iteOmega,toNatUp,reduceCtorEq])
     all_goals
       simp only[lp_block_1,blSt2,sumTo,e8,Eight.list,wx,wy,stV,seval,iteOmega,toNatUp,reduceCtorEq]
       first | refine lop_next 1 (by decide) (by decide) ?_ | refine lop_next 2 (by decide) (by decide) ?_ | refine lop_next 3 (by decide) (by decide) ?_ | refine lop_next 4 (by decide) (by decide) ?_ | refine lop_next 5 (by decide) (by decide) ?_ | refine lop_next 6 (by decide) (by decide) ?_ | refine lop_next 7 (by decide) (by decide) ?_ | refine lop_next 8 (by decide) (by decide) ?_
       refine ent_l id ?_ ?_ rfl rfl <;> simp only[wx,wex,stV,seval,iteOmega,toNatUp,reduceCtorEq,sumTo,e8,Eight.list] <;> rfl
theorem getD_someB {l:List UInt8} {i:Nat} (h:i<l.length):l[i]?=some (l.getD i 0):=by simp[h]
def rbSt1 (h k:List UInt32) (b:List UInt8) (t:Nat):St:=⟨ofL [(0,.w (.c (.d (.sl (h.map wD))))),(1,.w (.c (.d (.sl (k.map wD))))),(2,.w (.c (.d (.sl (b.map bD))))),(7,.w (.c (.pa 1 1))),(8,.w (.c (.d (.int .i64 (t:Int)))))],
  hL [(1,.row 1 ((sched16 b t++List.replicate (64-t) 0).map wD))],uL [1]⟩
def rbSt2 (h k:List UInt32) (b:List UInt8) (n:Nat):St:=⟨ofL [(0,.w (.c (.d (.sl (h.map wD))))),(1,.w (.c (.d (.sl (k.map wD))))),(7,.w (.c (.pa 1 1))),(9,.w (.c (.d (.int .i64 ((16+n:Nat):Int)))))],
  hL [(1,.row 1 ((schedN b n++List.replicate (48-n) 0).map wD))],uL [1]⟩
def rbSt3 (h:List UInt32) (b:List UInt8) (s:Eight) (n:Nat):St:=⟨ofL [(0,.w (.c (.d (.sl (h.map wD))))),(1,.w (.c (.d (.sl (constK.map wD))))),(7,.w (.c (.pa 1 1))),(12,.w (.c (.d (wD s.a)))),(13,.w (.c (.d (wD s.b)))),(14,.w (.c (.d (wD s.c)))),(15,.w (.c (.d (wD s.d)))),(16,.w (.c (.d (wD s.e)))),(17,.w (.c (.d (wD s.f)))),(18,.w (.c (.d (wD s.g)))),(19,.w (.c (.d (wD s.h)))),(20,.w (.c (.d (.int .i64 (n:Int)))))],
  hL [(1,.row 1 ((sched b).map wD))],uL [1]⟩
def rbR3 (h:List UInt32) (b:List UInt8) (n:Nat):St:=rbSt3 h b ((Eight.of h).rounds constK (sched b) n) n
def lp_rblock_0:SCode :=
 .seq (.seq (.reg [oM 23 8,
 oO 24 (.bin .lss (.t 23) (kI 16))])
 (.cond (.t 24) (.skip)
 (.exit 0)))
 (.seq (.block 1 (.reg [oM 27 8,
 oM 28 2,
 oM 29 8,
 oO 30 (.bin .mul (kI 4) (.t 29)),
 oO 31 (.idxSl 1 (.t 28) (.t 30)),
 oO 32 (.load .sc (.t 31)),
 oO 33 (.conv .u32 (.t 32)),
 oO 34 (.bin .shl (.t 33) (.k (.c (.d (.int .u64 24))))),
 oM 35 2,
 oM 36 8,
 oO 37 (.bin .mul (kI 4) (.t 36)),
 oO 38 (.bin .add (.t 37) (kI 1)),
 oO 39 (.idxSl 1 (.t 35) (.t 38)),
 oO 40 (.load .sc (.t 39)),
 oO 41 (.conv .u32 (.t 40)),
 oO 42 (.bin .shl (.t 41) (.k (.c (.d (.int .u64 16))))),
 oO 43 (.bin .or (.t 34) (.t 42)),
 oM 44 2,
 oM 45 8,
 oO 46 (.bin .mul (kI 4) (.t 45)),
 oO 47 (.bin .add (.t 46) (kI 2)),
 oO 48 (.idxSl 1 (.t 44) (.t 47)),
 oO 49 (.load .sc (.t 48)),
 oO 50 (.conv .u32 (.t 49)),
 oO 51 (.bin .shl (.t 50) (.k (.c (.d (.int .u64 8))))),
 oO 52 (.bin .or (.t 43) (.t 51)),
 oM 53 2,
 oM 54 8,
 oO 55 (.bin .mul (kI 4) (.t 54)),
 oO 56 (.bin .add (.t 55) (kI 3)),
 oO 57 (.idxSl 1 (.t 53) (.t 56)),
 oO 58 (.load .sc (.t 57)),
 oO 59 (.conv .u32 (.t 58)),
 oO 60 (.bin .or (.t 52) (.t 59)),
 oO 61 (.idxPa 1 64 (.t 7) (.t 27)),
 oN (.store .sc (.t 61) (.t 60))]))
 (.reg [oM 25 8,
 oO 26 (.bin .add (.t 25) (kI 1)),
 oM 8 26]))
def lp_rblock_1:SCode :=
 .seq (.seq (.reg [oM 62 9,
 oO 63 (.bin .lss (.t 62) (kI 64))])
 (.cond (.t 63) (.skip)
 (.exit 2)))
 (.seq (.block 3 (.seq (.reg [oM 66 9,
 oO 67 (.bin .sub (.t 66) (kI 15)),
 oO 68 (.idxPa 1 64 (.t 7) (.t 67)),
 oO 69 (.load .sc (.t 68)),
 oM 70 9,
 oO 71 (.bin .sub (.t 70) (kI 2)),
 oO 72 (.idxPa 1 64 (.t 7) (.t 71)),
 oO 73 (.load .sc (.t 72)),
 oM 10 69,
 oM 11 73])
 (.reg [oM 74 9,
 oM 75 11,
 oO 76 (.call 55 [(.t 75),(kI 17)] none),
 oM 77 11,
 oO 78 (.call 55 [(.t 77),(kI 19)] none),
 oO 79 (.bin .xor (.t 76) (.t 78)),
 oM 80 11,
 oO 81 (.bin .shr (.t 80) (.k (.c (.d (.int .u64 10))))),
 oO 82 (.bin .xor (.t 79) (.t 81)),
 oM 83 9,
 oO 84 (.bin .sub (.t 83) (kI 7)),
 oO 85 (.idxPa 1 64 (.t 7) (.t 84)),
 oO 86 (.load .sc (.t 85)),
 oO 87 (.bin .add (.t 82) (.t 86)),
 oM 88 10,
 oO 89 (.call 55 [(.t 88),(kI 7)] none),
 oM 90 10,
 oO 91 (.call 55 [(.t 90),(kI 18)] none),
 oO 92 (.bin .xor (.t 89) (.t 91)),
 oM 93 10,
 oO 94 (.bin .shr (.t 93) (.k (.c (.d (.int .u64 3))))),
 oO 95 (.bin .xor (.t 92) (.t 94)),
 oO 96 (.bin .add (.t 87) (.t 95)),
 oM 97 9,
 oO 98 (.bin .sub (.t 97) (kI 16)),
 oO 99 (.idxPa 1 64 (.t 7) (.t 98)),
 oO 100 (.load .sc (.t 99)),
 oO 101 (.bin .add (.t 96) (.t 100)),
 oO 102 (.idxPa 1 64 (.t 7) (.t 74)),
 oN (.store .sc (.t 102) (.t 101))])))
 (.reg [oM 64 9,
 oO 65 (.bin .add (.t 64) (kI 1)),
 oM 9 65]))
def lp_rblock_2:SCode :=
 .seq (.seq (.reg [oM 127 20,
 oO 128 (.bin .lss (.t 127) (kI 64))])
 (.cond (.t 128) (.skip)
 (.exit 4)))
 (.seq (.block 5 (.seq (.reg [oM 131 19,
 oM 132 16,
 oO 133 (.call 55 [(.t 132),(kI 6)] none),
 oM 134 16,
 oO 135 (.call 55 [(.t 134),(kI 11)] none),
 oO 136 (.bin .xor (.t 133) (.t 135)),
 oM 137 16,
 oO 138 (.call 55 [(.t 137),(kI 25)] none),
 oO 139 (.bin .xor (.t 136) (.t 138)),
 oO 140 (.bin .add (.t 131) (.t 139)),
 oM 141 16,
 oM 142 17,
 oO 143 (.bin .and (.t 141) (.t 142)),
 oM 144 16,
 oO 145 (.un .xor (.t 144)),
 oM 146 18,
 oO 147 (.bin .and (.t 145) (.t 146)),
 oO 148 (.bin .xor (.t 143) (.t 147)),
 oO 149 (.bin .add (.t 140) (.t 148)),
 oM 150 1,
 oM 151 20,
 oO 152 (.idxSl 1 (.t 150) (.t 151)),
 oO 153 (.load .sc (.t 152)),
 oO 154 (.bin .add (.t 149) (.t 153)),
 oM 155 20,
 oO 156 (.idxPa 1 64 (.t 7) (.t 155)),
 oO 157 (.load .sc (.t 156)),
 oO 158 (.bin .add (.t 154) (.t 157)),
 oM 21 158])
 (.seq (.reg [oM 159 12,
 oO 160 (.call 55 [(.t 159),(kI 2)] none),
 oM 161 12,
 oO 162 (.call 55 [(.t 161),(kI 13)] none),
 oO 163 (.bin .xor (.t 160) (.t 162)),
 oM 164 12,
 oO 165 (.call 55 [(.t 164),(kI 22)] none),
 oO 166 (.bin .xor (.t 163) (.t 165)),
 oM 167 12,
 oM 168 13,
 oO 169 (.bin .and (.t 167) (.t 168)),
 oM 170 12,
 oM 171 14,
 oO 172 (.bin .and (.t 170) (.t 171)),
 oO 173 (.bin .xor (.t 169) (.t 172)),
 oM 174 13,
 oM 175 14,
 oO 176 (.bin .and (.t 174) (.t 175)),
 oO 177 (.bin .xor (.t 173) (.t 176)),
 oO 178 (.bin .add (.t 166) (.t 177)),
 oM 22 178])
 (.reg [oM 179 21,
 oM 180 22,
 oO 181 (.bin .add (.t 179) (.t 180)),
 oM 182 12,
 oM 183 13,
 oM 184 14,
 oM 185 15,
 oM 186 21,
 oO 187 (.bin .add (.t 185) (.t 186)),
 oM 188 16,
 oM 189 17,
 oM 190 18,
 oM 12 181,
 oM 13 182,
 oM 14 183,
 oM 15 184,
 oM 16 187,
 oM 17 188,
 oM 18 189,
 oM 19 190]))))
 (.reg [oM 129 20,
 oO 130 (.bin .add (.t 129) (kI 1)),
 oM 20 130]))
def sf_rblock:SFn:=⟨3,232,
 .seq (.reg [oO 6 (.mv (.k (.c .nil)))])
 (.seq (.reg [oO 7 (.allocArr [(.int .u32 0),(.int .u32 0),(.int .u32 0),(.int .u32 0),(.int .u32 0),(.int .u32 0),(.int .u32 0),(.int .u32 0),(.int .u32 0),(.int .u32 0),(.int .u32 0),(.int .u32 0),(.int .u32 0),(.int .u32 0),(.int .u32 0),(.int .u32 0),(.int .u32 0),(.int .u32 0),(.int .u32 0),(.int .u32 0),(.int .u32 0),(.int .u32 0),(.int .u32 0),(.int .u32 0),(.int .u32 0),(.int .u32 0),(.int .u32 0),(.int .u32 0),(.int .u32 0),(.int .u32 0),(.int .u32 0),(.int .u32 0),(.int .u32 0),(.int .u32 0),(.int .u32 0),(.int .u32 0),(.int .u32 0),(.int .u32 0),(.int .u32 0),(.int .u32 0),(.int .u32 0),(.int .u32 0),(.int .u32 0),(.int .u32 0),(.int .u32 0),(.int .u32 0),(.int .u32 0),(.int .u32 0),(.int .u32 0),(.int .u32 0),(.int .u32 0),(.int .u32 0),(.int .u32 0),(.int .u32 0),(.int .u32 0),(.int .u32 0),(.int .u32 0),(.int .u32 0),(.int .u32 0),(.int .u32 0),(.int .u32 0),(.int .u32 0),(.int .u32 0),(.int .u32 0)])])
 (.seq (.seq (.reg [oO 8 (.mv (kI 0))])
 (.block 0 (.loop lp_rblock_0)))
 (.seq (.seq (.reg [oO 9 (.mv (kI 16))])
 (.block 2 (.loop lp_rblock_1)))
 (.seq (.reg [oM 103 0,
 oO 104 (.idxSl 1 (.t 103) (kI 0)),
 oO 105 (.load .sc (.t 104)),
 oM 106 0,
 oO 107 (.idxSl 1 (.t 106) (kI 1)),
 oO 108 (.load .sc (.t 107)),
 oM 109 0,
 oO 110 (.idxSl 1 (.t 109) (kI 2)),
 oO 111 (.load .sc (.t 110)),
 oM 112 0,
 oO 113 (.idxSl 1 (.t 112) (kI 3)),
 oO 114 (.load .sc (.t 113)),
 oM 115 0,
 oO 116 (.idxSl 1 (.t 115) (kI 4)),
 oO 117 (.load .sc (.t 116)),
 oM 118 0,
 oO 119 (.idxSl 1 (.t 118) (kI 5)),
 oO 120 (.load .sc (.t 119)),
 oM 121 0,
 oO 122 (.idxSl 1 (.t 121) (kI 6)),
 oO 123 (.load .sc (.t 122)),
 oM 124 0,
 oO 125 (.idxSl 1 (.t 124) (kI 7)),
 oO 126 (.load .sc (.t 125)),
 oM 12 105,
 oM 13 108,
 oM 14 111,
 oM 15 114,
 oM 16 117,
 oM 17 120,
 oM 18 123,
 oM 19 126])
 (.seq (.seq (.reg [oO 20 (.mv (kI 0))])
 (.block 4 (.loop lp_rblock_2)))
 (.seq (.reg [oM 191 0,
 oO 192 (.idxSl 1 (.t 191) (kI 0)),
 oO 193 (.load .sc (.t 192)),
 oM 194 12,
 oO 195 (.bin .add (.t 193) (.t 194)),
 oM 196 0,
 oO 197 (.idxSl 1 (.t 196) (kI 1)),
 oO 198 (.load .sc (.t 197)),
 oM 199 13,
 oO 200 (.bin .add (.t 198) (.t 199)),
 oM 201 0,
 oO 202 (.idxSl 1 (.t 201) (kI 2)),
 oO 203 (.load .sc (.t 202)),
 oM 204 14,
 oO 205 (.bin .add (.t 203) (.t 204)),
 oM 206 0,
 oO 207 (.idxSl 1 (.t 206) (kI 3)),
 oO 208 (.load .sc (.t 207)),
 oM 209 15,
 oO 210 (.bin .add (.t 208) (.t 209)),
 oM 211 0,
 oO 212 (.idxSl 1 (.t 211) (kI 4)),
 oO 213 (.load .sc (.t 212)),
 oM 214 16,
 oO 215 (.bin .add (.t 213) (.t 214)),
 oM 216 0,
 oO 217 (.idxSl 1 (.t 216) (kI 5)),
 oO 218 (.load .sc (.t 217)),
 oM 219 17,
 oO 220 (.bin .add (.t 218) (.t 219)),
 oM 221 0,
 oO 222 (.idxSl 1 (.t 221) (kI 6)),
 oO 223 (.load .sc (.t 222)),
 oM 224 18,
 oO 225 (.bin .add (.t 223) (.t 224)),
 oM 226 0,
 oO 227 (.idxSl 1 (.t 226) (kI 7)),
 oO 228 (.load .sc (.t 227)),
 oM 229 19,
 oO 230 (.bin .add (.t 228) (.t 229)),
 oO 231 (.bldSl true 8 1 (.int .u32 0) [(0,(.t 195)),(1,(.t 200)),(2,(.t 205)),(3,(.t 210)),(4,(.t 215)),(5,(.t 220)),(6,(.t 225)),(7,(.t 230))]),
 oM 6 231])
 (.ret))))))),
 [(6,none)]⟩
theorem cf_rblock:compFn Tryd.prog { own:=[231],comp:=[],frz:=[],nils:=[] } Tryd.f42=some sf_rblock:=by kernel_rfl
theorem rblock_c (G:Glob) (h:List UInt32) (b:List UInt8) (hh:h.length=8) (hb:b.length=64):Den Tryd.prog G 42 [.sl (h.map wD),.sl (constK.map wD),.sl (b.map bD)] (.w (.c (.fr 1 ((blockK h b).map wD)))):=by
  refine den_walk Tryd.func42 cf_rblock rfl rfl ?_
  have hsl:(sched b).length=64:=schedN_len b 48
  have hcl:constK.length=64:=constK_len
  simp only[sf_rblock,putAll,wx,stV,seval,iteOmega,toNatUp,reduceCtorEq]
  refine loop_st (rbSt1 h constK b) (fun t=>16-t) (fun t=>t≤16) 0 (Nat.zero_le _) ?_ ?_
  ·refine ent_l (fun _=>56) ?_ ?_ rfl rfl <;> simp only[wx,wex,stV,seval,iteOmega,toNatUp,reduceCtorEq]
   rfl
  ·intro t ht
   by_cases hlt:t<16
   ·have e0:IntKind.i64.wrap (4*(t:Int))=((4*t:Nat):Int):=by rw[IntWalk.i64_in _ (by omega)]; omega
    have e1:IntKind.i64.wrap (((4*t:Nat):Int)+1)=((4*t+1:Nat):Int):=by rw[IntWalk.i64_in _ (by omega)]; omega
    have e2:IntKind.i64.wrap (((4*t:Nat):Int)+2)=((4*t+2:Nat):Int):=by rw[IntWalk.i64_in _ (by omega)]; omega
    have e3:IntKind.i64.wrap (((4*t:Nat):Int)+3)=((4*t+3:Nat):Int):=by rw[IntWalk.i64_in _ (by omega)]; omega
    have e4:IntKind.i64.wrap ((t:Int)+1)=((t+1:Nat):Int):=by rw[IntWalk.i64_in _ (by omega)]; omega
    have g:∀ k,k<64→(b.map bD)[k]?=some (bD (b.getD k 0)):=fun k hk=>by rw[get_map,getD_someB (by omega)]; rfl
    have g0:=g (4*t) (by omega)
    have g1:=g (4*t+1) (by omega)
    have g2:=g (4*t+2) (by omega)
    have g3:=g (4*t+3) (by omega)
    have h1:t<(sched16 b t++List.replicate (64-t) 0).length:=by rw[List.length_append,sched16_len,List.length_replicate]; omega
    have h2:=set_next (sched16 b t) 0 (wordAt b t) (64-t) (by omega)
    rw[sched16_len] at h2
    have h3:sched16 b t++[wordAt b t]=sched16 b (t+1):=by simp[sched16,List.range_succ]
    have h4:64-t-1=64-(t+1):=by omega
    rw[h3,h4] at h2
    simp only[wordAt] at h2
    have m24:min (24:Int).toNat 32=24:=by decide
    have m16:min (16:Int).toNat 32=16:=by decide
    have m8:min (8:Int).toNat 32=8:=by decide
    simp only[lp_rblock_0,rbSt1,wx,stV,seval,iteOmega,toNatUp,reduceCtorEq,e0,e1,e2,e3,e4,g0,g1,g2,g3,Nat.zero_add,stO_ws h1 (one_w _),set_ws,h2]
    refine lop_next (t+1) (by omega) (by omega) (ent_l id ?_ ?_ rfl rfl) <;> simp only[wx,wex,stV,seval,iteOmega,toNatUp,reduceCtorEq]
   ·obtain rfl:t=16:=by omega
    simp only[lp_rblock_0,rbSt1,wx,stV,seval,iteOmega,toNatUp,reduceCtorEq]
    refine loop_st (rbSt2 h constK b) (fun n=>48-n) (fun n=>n≤48) 0 (Nat.zero_le _) ?_ ?_
    ·have h0:sched16 b 16=schedN b 0:=rfl
     refine ent_l id ?_ ?_ rfl rfl <;> simp only[wx,wex,stV,seval,iteOmega,toNatUp,reduceCtorEq,h0]
    ·intro n hn
     by_cases hlt:n<48
     ·have hl:=schedN_len b n
      have w1:∀ k:Nat,k≤16→IntKind.i64.wrap (((16+n:Nat):Int)-(k:Int))=((16+n-k:Nat):Int):=fun k hk=>by rw[IntWalk.i64_in _ (by omega)]; omega
      have e15:IntKind.i64.wrap (((16+n:Nat):Int)-15)=((16+n-15:Nat):Int):=w1 15 (by decide)
      have e2:IntKind.i64.wrap (((16+n:Nat):Int)-2)=((16+n-2:Nat):Int):=w1 2 (by decide)
      have e7:IntKind.i64.wrap (((16+n:Nat):Int)-7)=((16+n-7:Nat):Int):=w1 7 (by decide)
      have e16:IntKind.i64.wrap (((16+n:Nat):Int)-16)=((16+n-16:Nat):Int):=w1 16 (by decide)
      have e0:IntKind.i64.wrap (((16+n:Nat):Int)+1)=((16+(n+1):Nat):Int):=by rw[IntWalk.i64_in _ (by omega)]; omega
      have g:∀ k,k<16+n→((schedN b n++List.replicate (48-n) 0).map wD)[k]?=some (wD ((schedN b n).getD k 0)):=fun k hk=>by
        rw[List.getElem?_map,get_of (by omega)]; rfl
      have g15:=g (16+n-15) (by omega)
      have g2:=g (16+n-2) (by omega)
      have g7:=g (16+n-7) (by omega)
      have g16:=g (16+n-16) (by omega)
      simp only[lp_rblock_1,rbSt2,wx,stV,seval,iteOmega,toNatUp,reduceCtorEq,e15,e2,e7,e16,e0,g15,g2,g7,g16]
      refine st_call (rturn_c G _ 17 (by decide) (by decide)) rfl (.inr rfl) ?_
      simp only[wx,stV,seval,iteOmega,toNatUp,reduceCtorEq]
      refine st_call (rturn_c G _ 19 (by decide) (by decide)) rfl (.inr rfl) ?_
      simp only[wx,stV,seval,iteOmega,toNatUp,reduceCtorEq,e15,e2,e7,e16,e0,g15,g2,g7,g16]
      refine st_call (rturn_c G _ 7 (by decide) (by decide)) rfl (.inr rfl) ?_
      simp only[wx,stV,seval,iteOmega,toNatUp,reduceCtorEq]
      refine st_call (rturn_c G _ 18 (by decide) (by decide)) rfl (.inr rfl) ?_
      have h1:16+n<(schedN b n++List.replicate (48-n) 0).length:=by rw[List.length_append,hl,List.length_replicate]; omega
      have h2:=set_next (schedN b n) 0 (nextW (schedN b n) (16+n)) (48-n) (by omega)
      rw[hl] at h2
      have h4:48-n-1=48-(n+1):=by omega
      have h3:schedN b n++[nextW (schedN b n) (16+n)]=schedN b (n+1):=rfl
      rw[h3,h4] at h2
      simp only[nextW,smallA,smallB] at h2
      simp only[wx,stV,seval,iteOmega,toNatUp,reduceCtorEq,e15,e2,e7,e16,e0,g15,g2,g7,g16,stO_ws h1 (one_w _),set_ws,h2]
      refine lop_next (n+1) (by omega) (by omega) (ent_l id ?_ ?_ rfl rfl) <;> simp only[wx,wex,stV,seval,iteOmega,toNatUp,reduceCtorEq]
     ·have hn48:n=48:=by omega
      have h0:48-n=0:=by omega
      obtain⟨h0',h1,h2,h3,h4,h5,h6,h7,rfl⟩:=eight hh
      simp only[lp_rblock_1,rbSt2,wx,stV,seval,iteOmega,toNatUp,reduceCtorEq,h0,List.append_nil,List.replicate_zero,← sched_at b n hn48]
      refine loop_st (rbR3 [h0',h1,h2,h3,h4,h5,h6,h7] b) (fun n=>64-n) (fun n=>n≤64) 0 (Nat.zero_le _) ?_ ?_
      ·refine ent_l id ?_ ?_ rfl rfl <;> simp only[rbR3,rbSt3,wx,wex,stV,seval,iteOmega,toNatUp,reduceCtorEq]
       exact⟨rfl,rfl,rfl,rfl,rfl,rfl,rfl,rfl⟩
      ·clear hn hlt hn48 h0
       intro n hn
       by_cases hlt:n<64
       ·have e1:IntKind.i64.wrap ((n:Int)+1)=((n+1:Nat):Int):=by rw[IntWalk.i64_in _ (by omega)]; rfl
        have g1:(constK.map wD)[n]?=some (wD (constK.getD n 0)):=by rw[get_map,getD_some (by omega)]; rfl
        have g2:((sched b).map wD)[n]?=some (wD ((sched b).getD n 0)):=by rw[get_map,getD_some (by omega)]; rfl
        have hr:(Eight.of [h0',h1,h2,h3,h4,h5,h6,h7]).rounds constK (sched b) (n+1)=((Eight.of [h0',h1,h2,h3,h4,h5,h6,h7]).rounds constK (sched b) n).step (constK.getD n 0) ((sched b).getD n 0):=rfl
        generalize hs:(Eight.of [h0',h1,h2,h3,h4,h5,h6,h7]).rounds constK (sched b) n=s at hr
        simp only[lp_rblock_2,rbR3,rbSt3,hs,wx,stV,seval,iteOmega,toNatUp,reduceCtorEq,hcl,hsl,g1,g2,e1]
        refine st_call (rturn_c G _ 6 (by decide) (by decide)) rfl (.inr rfl) ?_
        simp only[wx,stV,seval,iteOmega,toNatUp,reduceCtorEq]
        refine st_call (rturn_c G _ 11 (by decide) (by decide)) rfl (.inr rfl) ?_
        simp only[wx,stV,seval,iteOmega,toNatUp,reduceCtorEq]
        refine st_call (rturn_c G _ 25 (by decide) (by decide)) rfl (.inr rfl) ?_
        simp only[wx,stV,seval,iteOmega,toNatUp,reduceCtorEq,g1,g2,hcl,hsl]
        refine st_call (rturn_c G _ 2 (by decide) (by decide)) rfl (.inr rfl) ?_
        simp only[wx,stV,seval,iteOmega,toNatUp,reduceCtorEq]
        refine st_call (rturn_c G _ 13 (by decide) (by decide)) rfl (.inr rfl) ?_
        simp only[wx,stV,seval,iteOmega,toNatUp,reduceCtorEq]
        refine st_call (rturn_c G _ 22 (by decide) (by decide)) rfl (.inr rfl) ?_
        simp only[wx,stV,seval,iteOmega,toNatUp,reduceCtorEq,e1]
        refine lop_next (n+1) (by omega) (by omega) ?_
        rw[rbR3,hr]
        refine (ent_l id ?_ ?_ rfl rfl) <;> simp only[wx,wex,stV,seval,iteOmega,toNatUp,reduceCtorEq,step_a,step_b,step_c,step_d,step_e,step_f,step_g,step_h]
        exact⟨rfl,rfl⟩
       ·obtain rfl:n=64:=by omega
        have hK:blockK [h0',h1,h2,h3,h4,h5,h6,h7] b=((Eight.of [h0',h1,h2,h3,h4,h5,h6,h7]).rounds constK (sched b) 64).sum [h0',h1,h2,h3,h4,h5,h6,h7]:=rfl
        rw[hK]
        simp only[rbR3]
        generalize (Eight.of [h0',h1,h2,h3,h4,h5,h6,h7]).rounds constK (sched b) 64=s
        have e8:s.sum [h0',h1,h2,h3,h4,h5,h6,h7]=[addW h0' s.a,addW h1 s.b,addW h2 s.c,addW h3 s.d,addW h4 s.e,addW h5 s.f,addW h6 s.g,addW h7 s.h]:=rfl
        simp only[lp_rblock_2,rbSt3,e8,wx,stV,seval,iteOmega,toNatUp,reduceCtorEq]
        exact ret_own (id:=1848) (n:=8) (s:=1) (by simp only[wx,stV,seval,iteOmega,toNatUp,reduceCtorEq]) (by simp only[wx,stV,seval,iteOmega,toNatUp,reduceCtorEq] <;> rfl) rfl
end Go.Proofs.YtbkhllchjbjhgaaDoor
namespace Go.Proofs.YtbkhllchjbjhgaaDoor
open Go.RowKit IntWalk
set_option maxHeartbeats 1600000
def foldB (h:List UInt32) (b:List UInt8):Nat→List UInt32
  | 0=>h
  | n+1=>blockK (foldB h b n) ((b.drop (64*n)).take 64)
theorem foldB_len {h:List UInt32} (hh:h.length=8) (b:List UInt8):∀ n,(foldB h b n).length=8
  | 0=>hh
  | n+1=>blockK_len _ _
def padK (rest:List UInt8) (count:Nat):List UInt8:=rest++[128]++List.replicate ((119-rest.length)%64) 0++putL (count*8) 8
def wordsB (ws:List UInt32):List UInt8:=ws.flatMap fun w=>putL w.toNat 4
def finK (s:List UInt32) (rest:List UInt8) (count:Nat):List UInt8:=wordsB (foldB s (padK rest count) ((padK rest count).length / 64))
def sumK (b:List UInt8):List UInt8:=finK (foldB firstK b (b.length / 64)) (b.drop (64*(b.length / 64))) b.length
theorem wordsB_len:∀ ws:List UInt32,(wordsB ws).length=4*ws.length
  | []=>rfl
  | w::ws=>by
    have:wordsB (w::ws)=putL w.toNat 4++wordsB ws:=rfl
    rw[this,List.length_append,putL_length,wordsB_len ws,List.length_cons]; omega
theorem finK_len {s:List UInt32} (hs:s.length=8) (rest:List UInt8) (count:Nat):(finK s rest count).length=32:=by
  unfold finK
  rw[wordsB_len,foldB_len hs]
theorem sumK_len (b:List UInt8):(sumK b).length=32:=finK_len (foldB_len firstK_len _ _) _ _
theorem putL_zero (n:Nat):putL 0 n=List.replicate n 0:=by
  unfold putL
  apply List.ext_getElem?
  intro i
  simp only[List.getElem?_map,List.getElem?_replicate,List.getElem?_range]
  by_cases h:i<n
  ·simp[h,List.getElem?_range]
  ·simp[h,List.getElem?_range]
theorem padK_len (rest:List UInt8) (count:Nat) (h:rest.length<64):(padK rest count).length=rest.length+9+(119-rest.length)%64∧(padK rest count).length%64=0:=by
  have:(padK rest count).length=rest.length+9+(119-rest.length)%64:=by simp[padK,putL_length]; omega
  exact⟨this,by omega⟩
theorem wordsB_take (ws:List UInt32) (k:Nat) (h:k<ws.length):wordsB (ws.take k)++putL (ws.getD k 0).toNat 4=wordsB (ws.take (k+1)):=by
  rw[List.take_succ_eq_append_getElem h]
  unfold wordsB
  rw[List.flatMap_append]
  simp[h]
theorem get_words {ws:List UInt32} {k:Nat} (h:k<ws.length):((ws.map wD).map C.d)[k]?=some (.d (wD (ws.getD k 0))):=by
  simp[h]
theorem drop_take_drop (b:List UInt8) (n:Nat):(b.drop (64*n)).drop 64=b.drop (64*(n+1)):=by rw[List.drop_drop,Nat.mul_succ]
def bksSt (s:List UInt32) (b:List UInt8) (n:Nat):St:=⟨ofL [(1,.w (.c (.d (.sl ((b.drop (64*n)).map bD))))),(2,.w (.c (.pa 1 1))),(4,.w (.c (.pa 2 1))),(5,.w (.c .nil))],hL [(1,.row 1 ((foldB s b n).map wD)),(2,.row 1 ((List.replicate 8 (0:UInt32)).map wD))],uL [1,2]⟩
def lp_blocks_0:SCode :=
 .seq (.seq (.reg [oM 6 1,
 oO 7 (.len (.t 6)),
 oO 8 (.bin .geq (.t 7) (kI 64))])
 (.cond (.t 8) (.skip)
 (.exit 0)))
 (.block 1 (.seq (.reg [oO 9 (.load (.ag 8) (.t 2)),
 oM 10 1,
 oO 11 (.slice 1 (.t 10) none (some (kI 64)) none),
 oO 12 (.call 64 [(.t 9),(.t 11)] none),
 oN (.store (.ag 8) (.t 2) (.t 12))])
 (.reg [oM 13 1,
 oO 14 (.slice 1 (.t 13) (some (kI 64)) none none),
 oM 1 14])))
def sf_blocks:SFn:=⟨2,17,
 .seq (.reg [oO 2 (.box .ownArr (.t 0)),
 oO 4 (.allocArr [(.int .u32 0),(.int .u32 0),(.int .u32 0),(.int .u32 0),(.int .u32 0),(.int .u32 0),(.int .u32 0),(.int .u32 0)]),
 oO 5 (.mv (.k (.c .nil)))])
 (.seq (.block 0 (.loop lp_blocks_0))
 (.seq (.reg [oO 15 (.load (.ag 8) (.t 2)),
 oM 16 1,
 oN (.store (.ag 8) (.t 4) (.t 15)),
 oM 5 16])
 (.ret))),
 [(4,(some (.ag 8))),(5,none)]⟩
theorem cf_blocks:compFn Tryd.prog { own:=[2],comp:=[],frz:=[],nils:=[] } Tryd.f51=some sf_blocks:=by kernel_rfl
theorem blocks_c (G:Glob) (hG:G.at 1=some (.ra (constK.map wD))) (s:List UInt32) (b:List UInt8) (hs:s.length=8) (hb:b.length≤140737488355328):Den Tryd.prog G 51 [.agg (s.map wD),.sl (b.map bD)] (.tup [.c (.d (.agg ((foldB s b (b.length / 64)).map wD))),.c (.d (.sl ((b.drop (64*(b.length / 64))).map bD)))]):=by
  refine den_walk Tryd.func51 cf_blocks rfl rfl ?_
  simp only[sf_blocks,putAll,wx,stV,seval,iteOmega,toNatUp,reduceCtorEq]
  refine loop_st (bksSt s b) (fun n=>b.length / 64-n) (fun n=>n≤b.length / 64) 0 (Nat.zero_le _) ?_ ?_
  ·refine ent_l (fun i=>match i with | 1=>16 | _=>32) ?_ ?_ rfl rfl <;> simp only[wx,wex,stV,seval,iteOmega,toNatUp,reduceCtorEq,bksSt,foldB]
   rfl
  ·intro n hn
   have hl:=foldB_len hs b n
   by_cases hlt:n<b.length / 64
   ·have h1:(64:Int)≤((b.drop (64*n)).length:Int):=by rw[List.length_drop]; omega
    have h2:((b.drop (64*n)).take 64).length=64:=by rw[List.length_take,List.length_drop]; omega
    have e1:=drop_take_drop b n
    simp only[lp_blocks_0,bksSt,wx,stV,seval,iteOmega,toNatUp,reduceCtorEq,hl,h1]
    refine st_call (block_c G hG (foldB s b n) ((b.drop (64*n)).take 64) hl h2) rfl (.inl rfl) ?_
    have e2:(blockK (foldB s b n) ((b.drop (64*n)).take 64)).length=8:=blockK_len _ _
    have e3:(b.drop (64*n)).length-64=((b.drop (64*(n+1)))).length:=by rw[List.length_drop,List.length_drop]; omega
    simp only[wx,stV,seval,iteOmega,toNatUp,reduceCtorEq,hl,e2,e1,e3]
    refine lop_next (n+1) (by omega) (by omega) (ent_l id ?_ ?_ rfl rfl) <;> simp only[wx,wex,stV,seval,iteOmega,toNatUp,reduceCtorEq,foldB]
   ·obtain rfl:n=b.length / 64:=by omega
    have h1:¬ (64:Int)≤((b.drop (64*(b.length / 64))).length:Int):=by rw[List.length_drop]; omega
    simp only[lp_blocks_0,bksSt,wx,stV,seval,iteOmega,toNatUp,reduceCtorEq,hl,h1]
    exact ret_d2 (by simp only[wx,stV,seval,iteOmega,toNatUp,reduceCtorEq,hl]) (by simp only[wx,stV,seval,iteOmega,toNatUp,reduceCtorEq])
def finSt (ws:List UInt32) (k:Nat):St:=⟨ofL [(9,.w (.c (.own 1 1 0 (wordsB (ws.take k)).length))),(36,.w (.c (.d (.agg (ws.map wD))))),(37,.w (.c (.d (.int .i64 (k:Int)))))],hL [(1,.row 1 ((wordsB (ws.take k)).map bD))],uL [1]⟩
def lp_fin_0:SCode :=
 .seq (.reg [oO 38 (.bin .lss (.t 37) (kI 8))])
 (.seq (.cond (.t 38) (.skip)
 (.exit 0))
 (.seq (.block 1 (.seq (.reg [oO 39 (.idxArr 1 8 .sc (.t 36) (.t 37)),
 oM 11 39])
 (.reg [oM 40 9,
 oM 41 11,
 oO 42 (.conv .u64 (.t 41)),
 oO 43 (.call 25 [(.t 42),(kI 4)] none),
 oO 44 (.app false 1 1 (.t 40) (.t 43)),
 oM 9 44])))
 (.reg [oO 45 (.bin .add (.t 37) (kI 1)),
 oM 37 45])))
def sf_fin:SFn:=⟨3,47,
 .seq (.reg [oO 3 (.box .ownArr (.t 0)),
 oO 6 (.mv (.k (.c .nil)))])
 (.seq (.reg [oO 12 (.bldSl false 1 1 (.int .u8 0) [(0,(.k (.c (.d (.int .u8 128)))))]),
 oM 7 12])
 (.seq (.reg [oM 13 7,
 oO 14 (.len (.t 13)),
 oO 15 (.bin .sub (kI 120) (.t 14)),
 oM 16 1,
 oO 17 (.len (.t 16)),
 oO 18 (.bin .sub (.t 15) (.t 17)),
 oO 19 (.bin .rem (.t 18) (kI 64)),
 oM 8 19])
 (.seq (.reg [oO 21 (.load (.ag 8) (.t 3)),
 oM 22 1,
 oM 23 7,
 oM 24 8,
 oO 25 (.call 25 [(.k (.c (.d (.int .u64 0)))),(.t 24)] none),
 oM 26 2,
 oO 27 (.conv .u64 (.t 26)),
 oO 28 (.bin .mul (.t 27) (.k (.c (.d (.int .u64 8))))),
 oO 29 (.call 25 [(.t 28),(kI 8)] none),
 oO 30 (.bldSl false 4 1 (.sl []) [(0,(.t 22)),(1,(.t 23)),(2,(.t 25)),(3,(.t 29))]),
 oO 31 (.call 24 [(.t 30)] none),
 oO 32 (.call 51 [(.t 21),(.t 31)] none),
 oM 20 32,
 oO 33 (.extract (.t 20) 0),
 oO 34 (.extract (.t 20) 1),
 oN (.store (.ag 8) (.t 3) (.t 33))])
 (.seq (.reg [oO 35 (.make true 1 1 (.int .u8 0) (kI 0) (kI 32)),
 oM 9 35])
 (.seq (.seq (.reg [oO 36 (.load (.ag 8) (.t 3)),
 oO 37 (.mv (kI 0))])
 (.block 0 (.loop lp_fin_0)))
 (.seq (.reg [oM 46 9,
 oM 6 46])
 (.ret))))))),
 [(6,none)]⟩
theorem cf_fin:compFn Tryd.prog { own:=[3],comp:=[],frz:=[],nils:=[] } Tryd.f52=some sf_fin:=by kernel_rfl
theorem fin_c (G:Glob) (hG:G.at 1=some (.ra (constK.map wD))) (s:List UInt32) (rest:List UInt8) (count:Nat) (hs:s.length=8) (hr:rest.length<64) (hc:count≤140737488355328):Den Tryd.prog G 52 [.agg (s.map wD),.sl (rest.map bD),.int .i64 (count:Int)] (.w (.c (.fr 1 ((finK s rest count).map bD)))):=by
  refine den_walk Tryd.func52 cf_fin rfl rfl ?_
  have e3:(119-(rest.length:Int)).tmod 64=(((119-rest.length)%64:Nat):Int):=by
    rw[show (119-(rest.length:Int))=((119-rest.length:Nat):Int) by omega]; rfl
  simp only[sf_fin,putAll,wal,stV,seval,iteOmega,toNatUp,reduceCtorEq,hs,e3]
  have hz:(119-rest.length)%64≤64:=by omega
  refine st_call (put_in G 0 ((119-rest.length)%64) hz) rfl (.inl rfl) ?_
  simp only[wal,stV,seval,iteOmega,toNatUp,reduceCtorEq]
  refine st_call (put_in G (count*8) 8 (by decide)) ?_ (.inl rfl) ?_
  ·simp only[wal,stV,seval,iteOmega,toNatUp,reduceCtorEq]
  obtain⟨hp1,hp2⟩:=padK_len rest count hr
  have hp:[rest,[128],putL 0 ((119-rest.length)%64),putL (count*8) 8].flatten=padK rest count:=by
    rw[putL_zero]; simp[padK]
  have hj:=join_c G [rest,[128],putL 0 ((119-rest.length)%64),putL (count*8) 8] (by simp) (by rw[hp,hp1]; omega)
  rw[hp] at hj
  simp only[wal,stV,seval,iteOmega,toNatUp,reduceCtorEq]
  refine st_call hj rfl (.inl rfl) ?_
  simp only[wal,stV,seval,iteOmega,toNatUp,reduceCtorEq]
  refine st_call (blocks_c G hG s (padK rest count) hs (by rw[hp1]; omega)) rfl (.inl rfl) ?_
  have hw:(foldB s (padK rest count) ((padK rest count).length / 64)).length=8:=foldB_len hs _ _
  have hf:finK s rest count=wordsB (foldB s (padK rest count) ((padK rest count).length / 64)):=rfl
  rw[hf]
  generalize foldB s (padK rest count) ((padK rest count).length / 64)=ws at hw
  simp only[wal,stV,seval,iteOmega,toNatUp,reduceCtorEq,hs,hw]
  refine loop_st (finSt ws) (fun k=>8-k) (fun k=>k≤8) 0 (Nat.zero_le _) ?_ ?_
  ·refine ent_l (fun _=>280) ?_ ?_ rfl rfl <;> simp only[wx,wex,wez,stV,seval,iteOmega,toNatUp,reduceCtorEq,wordsB]
  ·intro k hk
   by_cases hlt:k<8
   ·have hw1:(ws.getD k 0).toNat<4294967296:=word_lt _
    have hwl:=wordsB_len (ws.take k)
    rw[List.length_take] at hwl
    simp only[lp_fin_0,finSt,wal,stV,seval,iteOmega,toNatUp,reduceCtorEq,get_words (show k<ws.length by omega)]
    refine st_call (put_in G (ws.getD k 0).toNat 4 (by decide)) ?_ (.inl rfl) ?_
    ·simp only[wal,stV,seval,iteOmega,toNatUp,reduceCtorEq]
    simp only[wal,stV,seval,iteOmega,toNatUp,reduceCtorEq,srcV,wordsB_take ws k (by omega),putL_length]
    refine lop_next (k+1) (by omega) (by omega) (ent_l (fun _=>352) ?_ ?_ rfl rfl) <;> simp only[wx,wex,wez,stV,seval,iteOmega,toNatUp,reduceCtorEq]
   ·obtain rfl:k=8:=by omega
    have:ws.take 8=ws:=List.take_of_length_le (by omega)
    simp only[lp_fin_0,finSt,wal,stV,seval,iteOmega,toNatUp,reduceCtorEq,this]
    exact ret_own (id:=1) (n:=(wordsB ws).length) (s:=1) (by simp only[wx,stV,seval,iteOmega,toNatUp,reduceCtorEq]) (by simp only[wx,stV,seval,iteOmega,toNatUp,reduceCtorEq]) (by rw[List.length_map])
def sf_sum:SFn:=⟨1,16,
 .seq (.reg [oO 2 (.mv (.k (.c .nil)))])
 (.seq (.reg [oO 6 (.load (.ag 8) (.g 0)),
 oM 7 0,
 oO 8 (.call 51 [(.t 6),(.t 7)] none),
 oM 5 8,
 oO 9 (.extract (.t 5) 0),
 oO 10 (.extract (.t 5) 1),
 oO 3 (.allocArr [(.int .u32 0),(.int .u32 0),(.int .u32 0),(.int .u32 0),(.int .u32 0),(.int .u32 0),(.int .u32 0),(.int .u32 0)]),
 oN (.store (.ag 8) (.t 3) (.t 9)),
 oM 4 10])
 (.seq (.reg [oO 11 (.load (.ag 8) (.t 3)),
 oM 12 4,
 oM 13 0,
 oO 14 (.len (.t 13)),
 oO 15 (.call 52 [(.t 11),(.t 12),(.t 14)] (some (0,1))),
 oM 2 15])
 (.ret))),
 [(2,none)]⟩
theorem cf_sum:compFn Tryd.prog { own:=[15],comp:=[],frz:=[],nils:=[] } Tryd.f37=some sf_sum:=by kernel_rfl
theorem sum_c (G:Glob) (hF:G.at 0=some (.ra (firstK.map wD))) (hG:G.at 1=some (.ra (constK.map wD))) (b:List UInt8) (hb:b.length≤140737488355328):Den Tryd.prog G 37 [.sl (b.map bD)] (.w (.c (.fr 1 ((sumK b).map bD)))):=by
  refine den_walk Tryd.func37 cf_sum rfl rfl ?_
  have eg:=@ev_g G 0 _ hF
  have hl:(foldB firstK b (b.length / 64)).length=8:=foldB_len firstK_len _ _
  have h8:firstK.length=8:=firstK_len
  simp only[sf_sum,putAll,wal,stV,seval,iteOmega,toNatUp,reduceCtorEq,eg,h8]
  refine st_call (blocks_c G hG firstK b firstK_len hb) rfl (.inl rfl) ?_
  simp only[wal,stV,seval,iteOmega,toNatUp,reduceCtorEq,hl]
  refine st_call (fin_c G hG _ (b.drop (64*(b.length / 64))) b.length hl (by rw[List.length_drop]; omega) hb) ?_ (.inl rfl) ?_
  ·simp only[wal,stV,seval,iteOmega,toNatUp,reduceCtorEq]
  simp only[wal,stV,seval,iteOmega,toNatUp,reduceCtorEq]
  exact ret_own (id:=120) (n:=(finK (foldB firstK b (b.length / 64)) (b.drop (64*(b.length / 64))) b.length).length) (s:=1) (by simp only[wx,stV,seval,iteOmega,toNatUp,reduceCtorEq]) (by simp only[wx,stV,seval,iteOmega,toNatUp,reduceCtorEq] <;> rfl) (by rw[List.length_map]; rfl)
end Go.Proofs.YtbkhllchjbjhgaaDoor
namespace Go.Proofs.YtbkhllchjbjhgaaDoor
open Go.RowKit IntWalk
set_option maxHeartbeats 1600000
theorem rep_snoc {α:Type} (a:α) (j:Nat):List.replicate j a++[a]=List.replicate (j+1) a:=by rw[List.replicate_succ']
def rf1St (h:List UInt32) (rest:List UInt8) (count:Nat) (j:Nat):St:=⟨ofL [(0,.w (.c (.d (.sl (h.map wD))))),(2,.w (.c (.d (.int .i64 (count:Int))))),(7,.w (.c (.d (.sl (constK.map wD))))),(8,.w (.c (.own 1 1 0 (rest++[128]++List.replicate j 0).length)))],hL [(1,.row 1 ((rest++[128]++List.replicate j 0).map bD))],uL [1]⟩
def rf2St (h:List UInt32) (p:List UInt8) (n:Nat):St:=⟨ofL [(0,.w (.c (.d (.sl ((foldB h p n).map wD))))),(7,.w (.c (.d (.sl (constK.map wD))))),(8,.w (.c (.own 1 1 0 p.length))),(9,.w (.c (.d (.int .i64 ((64*n:Nat):Int)))))],hL [(1,.row 1 (p.map bD))],uL [1]⟩
def rf3St (ws:List UInt32) (k:Nat):St:=⟨ofL [(0,.w (.c (.d (.sl (ws.map wD))))),(10,.w (.c (.own 1 1 0 (wordsB (ws.take k)).length))),(11,.w (.c (.d (.int .i64 (k:Int)))))],hL [(1,.row 1 ((wordsB (ws.take k)).map bD))],uL [1]⟩
theorem get_ws {ws:List UInt32} {k:Nat} (h:k<ws.length):(ws.map wD)[k]?=some (wD (ws.getD k 0)):=by
  simp[h]
theorem b0_is:D.int .u8 0=bD 0:=rfl
theorem b128_is:D.int .u8 128=bD 128:=rfl
theorem app_c (l:List UInt8) (a:UInt8):l.map bD++[bD a]=(l++[a]).map bD:=by simp
def lp_rfin_0:SCode :=
 .seq (.seq (.reg [oM 18 8,
 oO 19 (.len (.t 18)),
 oO 20 (.bin .rem (.t 19) (kI 64)),
 oO 21 (.bin .neq (.t 20) (kI 56))])
 (.cond (.t 21) (.skip)
 (.exit 0)))
 (.block 1 (.reg [oM 22 8,
 oO 23 (.bldSl false 1 1 (.int .u8 0) [(0,(.k (.c (.d (.int .u8 0)))))]),
 oO 24 (.app false 1 1 (.t 22) (.t 23)),
 oM 8 24]))
def lp_rfin_1:SCode :=
 .seq (.seq (.reg [oM 31 9,
 oM 32 8,
 oO 33 (.len (.t 32)),
 oO 34 (.bin .lss (.t 31) (.t 33))])
 (.cond (.t 34) (.skip)
 (.exit 2)))
 (.seq (.block 3 (.reg [oM 37 0,
 oM 38 7,
 oM 39 8,
 oM 40 9,
 oM 41 9,
 oO 42 (.bin .add (.t 41) (kI 64)),
 oO 43 (.slice 1 (.t 39) (some (.t 40)) (some (.t 42)) none),
 oO 44 (.call 42 [(.t 37),(.t 38),(.t 43)] none),
 oM 0 44]))
 (.reg [oM 35 9,
 oO 36 (.bin .add (.t 35) (kI 64)),
 oM 9 36]))
def lp_rfin_2:SCode :=
 .seq (.seq (.reg [oM 46 11,
 oO 47 (.bin .lss (.t 46) (kI 8))])
 (.cond (.t 47) (.skip)
 (.exit 4)))
 (.seq (.block 5 (.reg [oM 50 10,
 oM 51 0,
 oM 52 11,
 oO 53 (.idxSl 1 (.t 51) (.t 52)),
 oO 54 (.load .sc (.t 53)),
 oO 55 (.conv .u64 (.t 54)),
 oO 56 (.call 21 [(.t 55),(kI 4)] none),
 oO 57 (.app false 1 1 (.t 50) (.t 56)),
 oM 10 57]))
 (.reg [oM 48 11,
 oO 49 (.bin .add (.t 48) (kI 1)),
 oM 11 49]))
def sf_rfin:SFn:=⟨3,59,
 .seq (.reg [oO 6 (.mv (.k (.c .nil)))])
 (.seq (.reg [oO 12 (.call 41 [] none),
 oM 7 12])
 (.seq (.reg [oM 13 1,
 oO 14 (.bldSl false 1 1 (.sl []) [(0,(.t 13))]),
 oO 15 (.call 16 [(.t 14)] (some (0,1))),
 oO 16 (.bldSl false 1 1 (.int .u8 0) [(0,(.k (.c (.d (.int .u8 128)))))]),
 oO 17 (.app false 1 1 (.t 15) (.t 16)),
 oM 8 17])
 (.seq (.block 0 (.loop lp_rfin_0))
 (.seq (.reg [oM 25 8,
 oM 26 2,
 oO 27 (.conv .u64 (.t 26)),
 oO 28 (.bin .mul (.t 27) (.k (.c (.d (.int .u64 8))))),
 oO 29 (.call 21 [(.t 28),(kI 8)] none),
 oO 30 (.app false 1 1 (.t 25) (.t 29)),
 oM 8 30])
 (.seq (.seq (.reg [oO 9 (.mv (kI 0))])
 (.block 2 (.loop lp_rfin_1)))
 (.seq (.reg [oO 45 (.bldSl true 0 1 (.int .u8 0) []),
 oM 10 45])
 (.seq (.seq (.reg [oO 11 (.mv (kI 0))])
 (.block 4 (.loop lp_rfin_2)))
 (.seq (.reg [oM 58 10,
 oM 6 58])
 (.ret))))))))),
 [(6,none)]⟩
theorem cf_rfin:compFn Tryd.prog { own:=[15,45],comp:=[],frz:=[],nils:=[] } Tryd.f43=some sf_rfin:=by kernel_rfl
theorem rfin_c (G:Glob) (s:List UInt32) (rest:List UInt8) (count:Nat) (hs:s.length=8) (hr:rest.length<64) (hc:count≤140737488355328):Den Tryd.prog G 43 [.sl (s.map wD),.sl (rest.map bD),.int .i64 (count:Int)] (.w (.c (.fr 1 ((finK s rest count).map bD)))):=by
  refine den_walk Tryd.func43 cf_rfin rfl rfl ?_
  have hj:=rjoin_c G [rest] (by simp) (by simp; omega)
  have hf:[rest].flatten=rest:=by simp
  rw[hf] at hj
  obtain⟨hp1,hp2⟩:=padK_len rest count hr
  simp only[sf_rfin,putAll,wal,stV,seval,iteOmega,toNatUp,reduceCtorEq]
  refine st_call (rcon_c G) rfl (.inl rfl) ?_
  simp only[wal,stV,seval,iteOmega,toNatUp,reduceCtorEq]
  refine st_call hj rfl (.inl rfl) ?_
  simp only[wal,stV,seval,iteOmega,toNatUp,reduceCtorEq,srcV,b128_is,app_c]
  refine loop_st (rf1St s rest count) (fun j=>(119-rest.length)%64-j) (fun j=>j≤(119-rest.length)%64) 0 (Nat.zero_le _) ?_ ?_
  ·refine ent_l (fun _=>136) ?_ ?_ rfl rfl <;> simp only[wx,wex,wez,stV,seval,iteOmega,toNatUp,reduceCtorEq]
  ·intro j hj
   have hl:(rest++[128]++List.replicate j 0).length=rest.length+1+j:=by simp; omega
   have ht:((rest++[128]++List.replicate j 0).length:Int).tmod 64=(((rest.length+1+j)%64:Nat):Int):=by rw[hl]; rfl
   by_cases hlt:j<(119-rest.length)%64
   ·have e1:rest++[128]++List.replicate j 0++[0]=rest++[128]++List.replicate (j+1) 0:=by
      rw[List.append_assoc,rep_snoc]
    generalize hx:rest++[128]++List.replicate j 0=x at *
    simp only[lp_rfin_0,rf1St,hx,wal,stV,seval,iteOmega,toNatUp,reduceCtorEq,ht,srcV,b0_is,app_c,e1]
    refine lop_next (j+1) (by omega) (by omega) (ent_l (fun _=>192) ?_ ?_ rfl rfl) <;> simp only[wx,wex,wez,stV,seval,iteOmega,toNatUp,reduceCtorEq]
   ·obtain rfl:j=(119-rest.length)%64:=by omega
    generalize hx:rest++[128]++List.replicate ((119-rest.length)%64) 0=x at *
    simp only[lp_rfin_0,rf1St,hx,wal,stV,seval,iteOmega,toNatUp,reduceCtorEq,ht]
    refine st_call (rput_in G (count*8) 8 (by decide)) ?_ (.inl rfl) ?_
    ·simp only[wal,stV,seval,iteOmega,toNatUp,reduceCtorEq]
    have hx2:x++putL (count*8) 8=padK rest count:=by rw[← hx]; rfl
    simp only[wal,stV,seval,iteOmega,toNatUp,reduceCtorEq,srcV,app_map,hx2,putL_length]
    refine loop_st (rf2St s (padK rest count)) (fun n=>(padK rest count).length / 64-n) (fun n=>n≤(padK rest count).length / 64) 0 (Nat.zero_le _) ?_ ?_
    ·refine ent_l (fun _=>240) ?_ ?_ rfl rfl <;> simp only[wx,wex,wez,stV,seval,iteOmega,toNatUp,reduceCtorEq,foldB]
    ·generalize hpk:padK rest count=p at *
     intro n hn
     have hl8:=foldB_len hs p n
     by_cases hlt:n<p.length / 64
     ·have h2:((p.drop (64*n)).take 64).length=64:=by rw[List.length_take,List.length_drop]; omega
      have e1:64*n+64-64*n=64:=by omega
      simp only[lp_rfin_1,rf2St,wal,stV,seval,iteOmega,toNatUp,reduceCtorEq]
      refine st_call (rblock_c G (foldB s p n) ((p.drop (64*n)).take 64) hl8 h2) ?_ (.inr (fl_w _ _)) ?_
      ·simp only[wal,stV,seval,iteOmega,toNatUp,reduceCtorEq,obSl,e1]
      simp only[wal,stV,seval,iteOmega,toNatUp,reduceCtorEq]
      have e2:64*(n:Int)+64=64*((n:Int)+1):=by omega
      refine lop_next (n+1) (by omega) (by omega) (ent_l id ?_ ?_ rfl rfl) <;> simp only[wx,wex,wez,stV,seval,iteOmega,toNatUp,reduceCtorEq,foldB,e2]
     ·obtain rfl:n=p.length / 64:=by omega
      have hfk:finK s rest count=wordsB (foldB s p (p.length / 64)):=by unfold finK; rw[hpk]
      rw[hfk]
      simp only[rf2St]
      generalize foldB s p (p.length / 64)=ws at hl8
      have h64:¬ ((64*(p.length / 64):Nat):Int)<(p.length:Int):=by omega
      simp only[lp_rfin_1,wal,stV,seval,iteOmega,toNatUp,reduceCtorEq,h64]
      refine loop_st (rf3St ws) (fun k=>8-k) (fun k=>k≤8) 0 (Nat.zero_le _) ?_ ?_
      ·refine ent_l (fun _=>360) ?_ ?_ rfl rfl <;> simp only[wx,wex,wez,stV,seval,iteOmega,toNatUp,reduceCtorEq,wordsB]
      ·intro k hk
       by_cases hlt:k<8
       ·have hw1:(ws.getD k 0).toNat<4294967296:=word_lt _
        have hwl:=wordsB_len (ws.take k)
        rw[List.length_take] at hwl
        simp only[lp_rfin_2,rf3St,wal,stV,seval,iteOmega,toNatUp,reduceCtorEq,get_ws (show k<ws.length by omega)]
        refine st_call (rput_in G (ws.getD k 0).toNat 4 (by decide)) ?_ (.inl rfl) ?_
        ·simp only[wal,stV,seval,iteOmega,toNatUp,reduceCtorEq]
        simp only[wal,stV,seval,iteOmega,toNatUp,reduceCtorEq,srcV,wordsB_take ws k (by omega),putL_length]
        refine lop_next (k+1) (by omega) (by omega) (ent_l (fun _=>456) ?_ ?_ rfl rfl) <;> simp only[wx,wex,wez,stV,seval,iteOmega,toNatUp,reduceCtorEq]
       ·obtain rfl:k=8:=by omega
        have:ws.take 8=ws:=List.take_of_length_le (by omega)
        simp only[lp_rfin_2,rf3St,wal,stV,seval,iteOmega,toNatUp,reduceCtorEq,this]
        exact ret_own (id:=1) (n:=(wordsB ws).length) (s:=1) (by simp only[wx,stV,seval,iteOmega,toNatUp,reduceCtorEq]) (by simp only[wx,stV,seval,iteOmega,toNatUp,reduceCtorEq]) (by rw[List.length_map])
def rsSt (b:List UInt8) (n:Nat):St:=⟨ofL [(0,.w (.c (.d (.sl (b.map bD))))),(3,.w (.c (.d (.sl ((foldB firstK b n).map wD))))),(4,.w (.c (.d (.sl (constK.map wD))))),(5,.w (.c (.d (.int .i64 ((64*(b.length / 64):Nat):Int))))),(6,.w (.c (.d (.int .i64 ((64*n:Nat):Int)))))],hL [],uL []⟩
def lp_rsum_0:SCode :=
 .seq (.seq (.reg [oM 13 6,
 oM 14 5,
 oO 15 (.bin .lss (.t 13) (.t 14))])
 (.cond (.t 15) (.skip)
 (.exit 0)))
 (.seq (.block 1 (.reg [oM 18 3,
 oM 19 4,
 oM 20 0,
 oM 21 6,
 oM 22 6,
 oO 23 (.bin .add (.t 22) (kI 64)),
 oO 24 (.slice 1 (.t 20) (some (.t 21)) (some (.t 23)) none),
 oO 25 (.call 42 [(.t 18),(.t 19),(.t 24)] none),
 oM 3 25]))
 (.reg [oM 16 6,
 oO 17 (.bin .add (.t 16) (kI 64)),
 oM 6 17]))
def sf_rsum:SFn:=⟨1,33,
 .seq (.reg [oO 2 (.mv (.k (.c .nil)))])
 (.seq (.reg [oO 7 (.call 40 [] none),
 oO 8 (.call 41 [] none),
 oM 3 7,
 oM 4 8])
 (.seq (.reg [oM 9 0,
 oO 10 (.len (.t 9)),
 oO 11 (.bin .quo (.t 10) (kI 64)),
 oO 12 (.bin .mul (.t 11) (kI 64)),
 oM 5 12])
 (.seq (.seq (.reg [oO 6 (.mv (kI 0))])
 (.block 0 (.loop lp_rsum_0)))
 (.seq (.reg [oM 26 3,
 oM 27 0,
 oM 28 5,
 oO 29 (.slice 1 (.t 27) (some (.t 28)) none none),
 oM 30 0,
 oO 31 (.len (.t 30)),
 oO 32 (.call 43 [(.t 26),(.t 29),(.t 31)] (some (0,1))),
 oM 2 32])
 (.ret))))),
 [(2,none)]⟩
theorem cf_rsum:compFn Tryd.prog { own:=[32],comp:=[],frz:=[],nils:=[] } Tryd.f20=some sf_rsum:=by kernel_rfl
theorem rsum_c (G:Glob) (b:List UInt8) (hb:b.length≤140737488355328):Den Tryd.prog G 20 [.sl (b.map bD)] (.w (.c (.fr 1 ((sumK b).map bD)))):=by
  refine den_walk Tryd.func20 cf_rsum rfl rfl ?_
  have e1:(b.length:Int).tdiv 64=((b.length / 64:Nat):Int):=rfl
  have e2:((b.length / 64:Nat):Int)*64=((64*(b.length / 64):Nat):Int):=by omega
  have e3:IntKind.i64.wrap ((64*(b.length / 64):Nat):Int)=((64*(b.length / 64):Nat):Int):=IntWalk.i64_in _ (by omega)
  have e4:IntKind.i64.wrap ((b.length / 64:Nat):Int)=((b.length / 64:Nat):Int):=IntWalk.i64_in _ (by omega)
  simp only[sf_rsum,putAll,wx,wy,stV,seval,iteOmega,toNatUp,reduceCtorEq]
  refine st_call (rfst_c G) rfl (.inl rfl) ?_
  simp only[wx,wy,stV,seval,iteOmega,toNatUp,reduceCtorEq]
  refine st_call (rcon_c G) rfl (.inl rfl) ?_
  simp only[wx,wy,stV,seval,iteOmega,toNatUp,reduceCtorEq,e1,e2,e3,e4]
  refine loop_st (rsSt b) (fun n=>b.length / 64-n) (fun n=>n≤b.length / 64) 0 (Nat.zero_le _) ?_ ?_
  ·refine ent_l id ?_ ?_ rfl rfl <;> simp only[wx,wex,stV,seval,iteOmega,toNatUp,reduceCtorEq,foldB]
  ·intro n hn
   have hl8:=foldB_len firstK_len b n
   by_cases hlt:n<b.length / 64
   ·have h2:((b.drop (64*n)).take 64).length=64:=by rw[List.length_take,List.length_drop]; omega
    have e1:64*n+64-64*n=64:=by omega
    have e5:IntKind.i64.wrap (((64*n:Nat):Int)+64)=((64*(n+1):Nat):Int):=by rw[IntWalk.i64_in _ (by omega)]; omega
    have e6:64*(n+1)-64*n=64:=by omega
    simp only[lp_rsum_0,rsSt,wx,wy,stV,seval,iteOmega,toNatUp,reduceCtorEq,e1,e5,e6]
    refine st_call (rblock_c G (foldB firstK b n) ((b.drop (64*n)).take 64) hl8 h2) ?_ (.inl rfl) ?_
    ·simp only[wx,wy,stV,seval,iteOmega,toNatUp,reduceCtorEq]
    simp only[wx,wy,stV,seval,iteOmega,toNatUp,reduceCtorEq,e5]
    refine lop_next (n+1) (by omega) (by omega) (ent_l id ?_ ?_ rfl rfl) <;> simp only[wx,wex,stV,seval,iteOmega,toNatUp,reduceCtorEq,foldB]
   ·obtain rfl:n=b.length / 64:=by omega
    have e1:List.take (b.length-64*(b.length / 64)) (b.drop (64*(b.length / 64)))=b.drop (64*(b.length / 64)):=List.take_of_length_le (by rw[List.length_drop]; exact Nat.le_refl _)
    simp only[lp_rsum_0,rsSt,wx,wy,stV,seval,iteOmega,toNatUp,reduceCtorEq,e1]
    refine st_call (rfin_c G (foldB firstK b (b.length / 64)) (b.drop (64*(b.length / 64))) b.length hl8 (by rw[List.length_drop]; omega) hb) ?_ (.inl rfl) ?_
    ·simp only[wx,wy,stV,seval,iteOmega,toNatUp,reduceCtorEq]
    simp only[wx,wy,stV,seval,iteOmega,toNatUp,reduceCtorEq]
    exact ret_own (id:=256) (n:=(finK (foldB firstK b (b.length / 64)) (b.drop (64*(b.length / 64))) b.length).length) (s:=1) (by simp only[wx,stV,seval,iteOmega,toNatUp,reduceCtorEq]) (by simp only[wx,stV,seval,iteOmega,toNatUp,reduceCtorEq] <;> rfl) (by rw[List.length_map]; rfl)
end Go.Proofs.YtbkhllchjbjhgaaDoor
namespace Go.Proofs.YtbkhllchjbjhgaaDoor
open Go.RowKit
end Go.Proofs.YtbkhllchjbjhgaaDoor
namespace Go.Proofs.YtbkhllchjbjhgaaDoor
open Go.RowKit IntWalk
def withinN (v m:Int):Int:=if m<1 then 0 else v%m
theorem withinN_range (v m:Int) (h:1≤m):0≤withinN v m∧withinN v m<m:=by
  unfold withinN
  rw[if_neg (by omega)]
  exact⟨Int.emod_nonneg _ (by omega),Int.emod_lt_of_pos _ (by omega)⟩
theorem tmod_neg {v m:Int} (hm:0<m) (h:v.tmod m<0):v.tmod m+m=v%m:=by
  have h1:=Int.emod_add_mul_ediv v m
  have h2:=Int.tmod_add_mul_tdiv v m
  have h3:=Int.emod_nonneg v (show m≠0 by omega)
  have h4:=Int.emod_lt_of_pos v hm
  have h5:=Int.lt_tmod_of_pos v hm
  have e:m*(v.tdiv m-v / m)=v%m-v.tmod m:=by rw[Int.mul_sub]; omega
  have k1:v.tdiv m-v / m=1:=by
    rcases Int.lt_trichotomy (v.tdiv m-v / m) 1 with hlt | heq | hgt
    ·exfalso
     have:v.tdiv m-v / m≤0:=by omega
     have:=Int.mul_le_mul_of_nonneg_left this (show 0≤m by omega)
     omega
    ·exact heq
    ·exfalso
     have:2≤v.tdiv m-v / m:=by omega
     have:=Int.mul_le_mul_of_nonneg_left this (show 0≤m by omega)
     omega
  rw[k1] at e
  omega
theorem tmod_pos {v m:Int} (hm:0<m) (h:0≤v.tmod m):v.tmod m=v%m:=by
  have h1:=Int.emod_add_mul_ediv v m
  have h2:=Int.tmod_add_mul_tdiv v m
  have h3:=Int.emod_nonneg v (show m≠0 by omega)
  have h4:=Int.emod_lt_of_pos v hm
  have h5:=Int.tmod_lt_of_pos v hm
  have e:m*(v.tdiv m-v / m)=v%m-v.tmod m:=by rw[Int.mul_sub]; omega
  have k1:v.tdiv m-v / m=0:=by
    rcases Int.lt_trichotomy (v.tdiv m-v / m) 0 with hlt | heq | hgt
    ·exfalso
     have:v.tdiv m-v / m ≤ -1:=by omega
     have:=Int.mul_le_mul_of_nonneg_left this (show 0≤m by omega)
     omega
    ·exact heq
    ·exfalso
     have:1≤v.tdiv m-v / m:=by omega
     have:=Int.mul_le_mul_of_nonneg_left this (show 0≤m by omega)
     omega
  rw[k1] at e
  omega
def sf_within:SFn:=⟨2,16,
 .seq (.reg [oO 4 (.mv (kI 0))])
 (.seq (.seq (.reg [oM 5 1,
 oO 6 (.bin .lss (.t 5) (kI 1))])
 (.cond (.t 6) (.seq (.reg [oO 4 (.mv (kI 0))])
 (.ret))
 (.skip)))
 (.seq (.reg [oM 7 0,
 oM 8 1,
 oO 9 (.bin .rem (.t 7) (.t 8)),
 oM 0 9])
 (.seq (.seq (.reg [oM 10 0,
 oO 11 (.bin .lss (.t 10) (kI 0))])
 (.cond (.t 11) (.reg [oM 12 0,
 oM 13 1,
 oO 14 (.bin .add (.t 12) (.t 13)),
 oM 0 14])
 (.skip)))
 (.seq (.reg [oM 15 0,
 oM 4 15])
 (.ret))))),
 [(4,none)]⟩
theorem cf_within:compFn Tryd.prog { own:=[],comp:=[],frz:=[],nils:=[] } Tryd.f7=some sf_within:=by kernel_rfl
theorem within_c (G:Glob) (v m:Int) (hm:m≤9223372036854775807):Den Tryd.prog G 7 [.int .i64 v,.int .i64 m] (.w (.c (.d (.int .i64 (withinN v m))))):=by
  refine den_walk Tryd.func7 cf_within rfl rfl ?_
  unfold withinN
  by_cases h:m<1
  ·rw[if_pos h]
   simp only[sf_within,putAll,wal,stV,seval,iteOmega,toNatUp,reduceCtorEq]
   exact qd1
  ·rw[if_neg h]
   have hne:¬ m=0:=by omega
   have h4:=Int.tmod_lt_of_pos v (show 0<m by omega)
   by_cases hn:v.tmod m<0
   ·have e:=tmod_neg (by omega) hn
    have h3:=Int.emod_lt_of_pos v (show 0<m by omega)
    have h5:=Int.emod_nonneg v (show m≠0 by omega)
    simp only[sf_within,putAll,wal,stV,seval,iteOmega,toNatUp,reduceCtorEq,hne]
    exact ret_d1 (by simp only[wal,stV,seval,iteOmega,toNatUp,reduceCtorEq,e])
   ·have e:=tmod_pos (v:=v) (show 0<m by omega) (by omega)
    simp only[sf_within,putAll,wal,stV,seval,iteOmega,toNatUp,reduceCtorEq,hne]
    exact ret_d1 (by simp only[wal,stV,seval,iteOmega,toNatUp,reduceCtorEq,e])
end Go.Proofs.YtbkhllchjbjhgaaDoor
namespace Go.Proofs.YtbkhllchjbjhgaaDoor
open Go.RowKit IntWalk
def hashAt (s i:Nat):List UInt8:=sumK (putL s 8++putL i 4)
def bytesN (s:Nat) (k:Nat):List UInt8:=((List.range k).map (hashAt s)).flatten
theorem bytesN_succ (s k:Nat):bytesN s k++hashAt s k=bytesN s (k+1):=by simp[bytesN,List.range_succ]
theorem bytesN_len (s:Nat):∀ k,(bytesN s k).length=32*k
  | 0=>rfl
  | k+1=>by rw[← bytesN_succ,List.length_append,bytesN_len s k]; unfold hashAt; rw[sumK_len]; omega
def bytesK (seed n:Int):List UInt8:=(bytesN (seed%18446744073709551616).toNat ((n.toNat+31) / 32)).take n.toNat
theorem bytesK_len (seed n:Int):(bytesK seed n).length=n.toNat:=by
  unfold bytesK; rw[List.length_take,bytesN_len]; omega
def byLSt (seed n:Int) (s:Nat) (k:Nat):St:=⟨ofL [(0,.w (.c (.d (.int .i64 seed)))),(1,.w (.c (.d (.int .i64 n)))),(5,.w (.c (.own 1 1 0 (bytesN s k).length))),(6,.w (.c (.d (.int .i64 (k:Int)))))],hL [(1,.row 1 ((bytesN s k).map bD))],uL [1]⟩
def lp_wbytes_0:SCode :=
 .seq (.seq (.reg [oM 8 5,
 oO 9 (.len (.t 8)),
 oM 10 1,
 oO 11 (.bin .lss (.t 9) (.t 10))])
 (.cond (.t 11) (.skip)
 (.exit 0)))
 (.seq (.block 1 (.reg [oM 14 5,
 oM 15 0,
 oO 16 (.conv .u64 (.t 15)),
 oO 17 (.call 21 [(.t 16),(kI 8)] none),
 oM 18 6,
 oO 19 (.conv .u64 (.t 18)),
 oO 20 (.call 21 [(.t 19),(kI 4)] none),
 oO 21 (.bldSl false 2 1 (.sl []) [(0,(.t 17)),(1,(.t 20))]),
 oO 22 (.call 16 [(.t 21)] none),
 oO 23 (.call 20 [(.t 22)] none),
 oO 24 (.app false 1 1 (.t 14) (.t 23)),
 oM 5 24]))
 (.reg [oM 12 6,
 oO 13 (.bin .add (.t 12) (kI 1)),
 oM 6 13]))
def sf_wbytes:SFn:=⟨2,29,
 .seq (.reg [oO 4 (.mv (.k (.c .nil)))])
 (.seq (.reg [oO 7 (.bldSl true 0 1 (.int .u8 0) []),
 oM 5 7])
 (.seq (.seq (.reg [oO 6 (.mv (kI 0))])
 (.block 0 (.loop lp_wbytes_0)))
 (.seq (.reg [oM 25 5,
 oM 26 1,
 oO 27 (.max [(.t 26),(kI 0)]),
 oO 28 (.slice 1 (.t 25) none (some (.t 27)) none),
 oM 4 28])
 (.ret)))),
 [(4,none)]⟩
theorem cf_wbytes:compFn Tryd.prog { own:=[7],comp:=[],frz:=[],nils:=[] } Tryd.f9=some sf_wbytes:=by kernel_rfl
set_option maxHeartbeats 1600000 in
theorem wbytes_f (G:Glob) (seed n:Int) (hn:n≤1099511627776):Den Tryd.prog G 9 [.int .i64 seed,.int .i64 n] (.w (.c (.fr 1 ((bytesK seed n).map bD)))):=by
  refine den_walk Tryd.func9 cf_wbytes rfl rfl ?_
  obtain⟨s,hs⟩:∃ s:Nat,(seed%18446744073709551616).toNat=s:=⟨_,rfl⟩
  have hw:IntKind.u64.wrap seed=(s:Int):=by rw[IntKind.wrap_u64,← hs]; omega
  have hs2:s<18446744073709551616:=by omega
  have hK:bytesK seed n=(bytesN s ((n.toNat+31) / 32)).take n.toNat:=by unfold bytesK; rw[hs]
  rw[hK]
  simp only[sf_wbytes,putAll,wal,stV,seval,iteOmega,toNatUp,reduceCtorEq]
  refine loop_st (byLSt seed n s) (fun k=>(n.toNat+31) / 32-k) (fun k=>k≤(n.toNat+31) / 32) 0 (Nat.zero_le _) ?_ ?_
  ·refine ent_l (fun _=>56) ?_ ?_ rfl rfl <;> simp only[wx,wex,wez,stV,seval,iteOmega,toNatUp,reduceCtorEq] <;> rfl
  ·intro k hk
   have hl:=bytesN_len s k
   by_cases hlt:k<(n.toNat+31) / 32
   ·have hc:((bytesN s k).length:Int)<n:=by omega
    have hj:=rjoin_c G [putL s 8,putL k 4] (by simp) (by simp[putL_length])
    have hf:[putL s 8,putL k 4].flatten=putL s 8++putL k 4:=by simp
    rw[hf] at hj
    have hb:=bytesN_succ s k
    have hk2:IntKind.u64.wrap (k:Int)=(k:Int):=u64_in _ (by omega) (by omega)
    simp only[lp_wbytes_0,byLSt,wx,wy,stV,seval,iteOmega,toNatUp,reduceCtorEq,hw,hk2]
    refine st_call (rput_in G s 8 (by decide)) rfl (.inl rfl) ?_
    simp only[wx,wy,stV,seval,iteOmega,toNatUp,reduceCtorEq,hw,hk2]
    refine st_call (rput_in G k 4 (by decide)) rfl (.inl rfl) ?_
    simp only[wx,wy,stV,seval,iteOmega,toNatUp,reduceCtorEq]
    refine st_call hj rfl (.inl rfl) ?_
    simp only[wx,wy,stV,seval,iteOmega,toNatUp,reduceCtorEq]
    refine st_call (rsum_c G (putL s 8++putL k 4) (by simp[putL_length])) rfl (.inl rfl) ?_
    have hh:(sumK (putL s 8++putL k 4)).length=32:=sumK_len _
    have hb':bytesN s k++sumK (putL s 8++putL k 4)=bytesN s (k+1):=hb
    simp only[wal,stV,seval,iteOmega,toNatUp,reduceCtorEq,srcV,app_map,hb',hh]
    refine lop_next (k+1) (by omega) (by omega) (ent_l (fun _=>192) ?_ ?_ rfl rfl) <;> simp only[wx,wex,wez,stV,seval,iteOmega,toNatUp,reduceCtorEq]
   ·obtain rfl:k=(n.toNat+31) / 32:=by omega
    have hc:¬ ((bytesN s ((n.toNat+31) / 32)).length:Int)<n:=by omega
    by_cases h0:n<0
    ·have e0:n.toNat=0:=by omega
     simp only[lp_wbytes_0,byLSt,wal,stV,seval,iteOmega,toNatUp,reduceCtorEq,hc,List.foldl_cons,List.foldl_nil]
     rw[e0,List.map_take]
     exact ret_ownN (id:=1) (s:=1) (by simp only[wx,stV,seval,iteOmega,toNatUp,reduceCtorEq]) (by simp only[wx,stV,seval,iteOmega,toNatUp,reduceCtorEq]) (Nat.zero_le _)
    ·simp only[lp_wbytes_0,byLSt,wal,stV,seval,iteOmega,toNatUp,reduceCtorEq,hc,List.foldl_cons,List.foldl_nil]
     rw[List.map_take]
     exact ret_ownN (id:=1) (s:=1) (by simp only[wx,stV,seval,iteOmega,toNatUp,reduceCtorEq]) (by simp only[wx,stV,seval,iteOmega,toNatUp,reduceCtorEq]) (by rw[List.length_map,bytesN_len]; omega)
theorem wbytes_c (G:Glob) (seed n:Int) (hn:n≤1099511627776):Den Tryd.prog G 9 [.int .i64 seed,.int .i64 n] (.w (.c (.d (.sl ((bytesK seed n).map bD))))):=den_ro (wbytes_f G seed n hn)
end Go.Proofs.YtbkhllchjbjhgaaDoor
namespace Go.Proofs.YtbkhllchjbjhgaaDoor
open Go.RowKit
def keyK (key:List UInt8):List UInt8:=if 64<key.length then sumK key else key
def fillK (k:List UInt8):List UInt8:=k++List.replicate (64-k.length) 0
def blkK (key:List UInt8):List UInt8:=fillK (keyK key)
def mixK (key:List UInt8) (x:UInt8):List UInt8:=(blkK key).map fun b=>xorB b x
def macK (key b:List UInt8):List UInt8:=sumK (mixK key 92++sumK (mixK key 54++b))
def partK (key info:List UInt8):Nat→List UInt8
  | 0=>[]
  | i+1=>macK key (partK key info i++info++[UInt8.ofNat (i+1)])
def allK (key info:List UInt8):Nat→List UInt8
  | 0=>[]
  | i+1=>allK key info i++partK key info (i+1)
def expK (key info:List UInt8) (n:Nat):List UInt8:=(allK key info ((n+31) / 32)).take n
def labK (p n c:List UInt8):List UInt8:=p++[0]++n++[0]++sumK c
theorem keyK_len (key:List UInt8):(keyK key).length≤64:=by
  unfold keyK; split
  ·rw[sumK_len]; decide
  ·omega
theorem fillK_len {k:List UInt8} (h:k.length≤64):(fillK k).length=64:=by
  simp[fillK]; omega
theorem blkK_len (key:List UInt8):(blkK key).length=64:=fillK_len (keyK_len key)
theorem mixK_len (key:List UInt8) (x:UInt8):(mixK key x).length=64:=by
  rw[mixK,List.length_map,blkK_len]
theorem macK_len (key b:List UInt8):(macK key b).length=32:=sumK_len _
theorem partK_len (key info:List UInt8):∀ i,(partK key info i).length≤32
  | 0=>by simp[partK]
  | i+1=>by rw[partK,macK_len]; exact Nat.le_refl _
theorem allK_len (key info:List UInt8):∀ i,(allK key info i).length=32*i
  | 0=>rfl
  | i+1=>by rw[allK,List.length_append,allK_len key info i,partK,macK_len]; omega
theorem allK_take (key info:List UInt8) (i:Nat):∀ j m,m≤32*i→(allK key info (i+j)).take m=(allK key info i).take m
  | 0,_,_=>rfl
  | j+1,m,h=>by
    rw[← Nat.add_assoc,allK,List.take_append_of_le_length (by rw[allK_len]; omega),allK_take key info i j m h]
theorem expK_len (key info:List UInt8) (n:Nat):(expK key info n).length=n:=by
  rw[expK,List.length_take,allK_len]; omega
theorem expK_take (key info:List UInt8) (n m:Nat) (h:m≤n):(expK key info n).take m=expK key info m:=by
  obtain⟨j,hj⟩:∃ j,(n+31) / 32=(m+31) / 32+j:=⟨(n+31) / 32-(m+31) / 32,by omega⟩
  unfold expK
  rw[List.take_take,Nat.min_eq_left h,hj,allK_take key info _ j m (by omega)]
theorem labK_len (p n c:List UInt8):(labK p n c).length=p.length+n.length+34:=by
  simp[labK,sumK_len]; omega
end Go.Proofs.YtbkhllchjbjhgaaDoor
namespace Go.Proofs.YtbkhllchjbjhgaaDoor
open Go.RowKit IntWalk
set_option maxHeartbeats 1600000
theorem app_fill {k:List UInt8} (l:List D) (hl:l=List.replicate 64 (D.int .u8 0)):k.map bD++l.drop k.length=(fillK k).map bD:=by
  subst hl
  unfold fillK
  rw[List.drop_replicate,List.map_append,rep_b]
theorem len_fill {k:List UInt8} (hk:k.length≤64) (l:List D) (hl:l=List.replicate 64 (D.int .u8 0)):k.length+(l.drop k.length).length=64:=by
  subst hl
  rw[List.drop_replicate,List.length_replicate]; omega
def sf_blkof:SFn:=⟨1,13,
 .seq (.reg [oO 2 (.allocArr [(.int .u8 0),(.int .u8 0),(.int .u8 0),(.int .u8 0),(.int .u8 0),(.int .u8 0),(.int .u8 0),(.int .u8 0),(.int .u8 0),(.int .u8 0),(.int .u8 0),(.int .u8 0),(.int .u8 0),(.int .u8 0),(.int .u8 0),(.int .u8 0),(.int .u8 0),(.int .u8 0),(.int .u8 0),(.int .u8 0),(.int .u8 0),(.int .u8 0),(.int .u8 0),(.int .u8 0),(.int .u8 0),(.int .u8 0),(.int .u8 0),(.int .u8 0),(.int .u8 0),(.int .u8 0),(.int .u8 0),(.int .u8 0),(.int .u8 0),(.int .u8 0),(.int .u8 0),(.int .u8 0),(.int .u8 0),(.int .u8 0),(.int .u8 0),(.int .u8 0),(.int .u8 0),(.int .u8 0),(.int .u8 0),(.int .u8 0),(.int .u8 0),(.int .u8 0),(.int .u8 0),(.int .u8 0),(.int .u8 0),(.int .u8 0),(.int .u8 0),(.int .u8 0),(.int .u8 0),(.int .u8 0),(.int .u8 0),(.int .u8 0),(.int .u8 0),(.int .u8 0),(.int .u8 0),(.int .u8 0),(.int .u8 0),(.int .u8 0),(.int .u8 0),(.int .u8 0)])])
 (.seq (.seq (.reg [oM 4 0,
 oO 5 (.len (.t 4)),
 oO 6 (.bin .gtr (.t 5) (kI 64))])
 (.cond (.t 6) (.reg [oM 7 0,
 oO 8 (.call 37 [(.t 7)] none),
 oM 0 8])
 (.skip)))
 (.seq (.reg [oO 3 (.allocArr [(.int .u8 0),(.int .u8 0),(.int .u8 0),(.int .u8 0),(.int .u8 0),(.int .u8 0),(.int .u8 0),(.int .u8 0),(.int .u8 0),(.int .u8 0),(.int .u8 0),(.int .u8 0),(.int .u8 0),(.int .u8 0),(.int .u8 0),(.int .u8 0),(.int .u8 0),(.int .u8 0),(.int .u8 0),(.int .u8 0),(.int .u8 0),(.int .u8 0),(.int .u8 0),(.int .u8 0),(.int .u8 0),(.int .u8 0),(.int .u8 0),(.int .u8 0),(.int .u8 0),(.int .u8 0),(.int .u8 0),(.int .u8 0),(.int .u8 0),(.int .u8 0),(.int .u8 0),(.int .u8 0),(.int .u8 0),(.int .u8 0),(.int .u8 0),(.int .u8 0),(.int .u8 0),(.int .u8 0),(.int .u8 0),(.int .u8 0),(.int .u8 0),(.int .u8 0),(.int .u8 0),(.int .u8 0),(.int .u8 0),(.int .u8 0),(.int .u8 0),(.int .u8 0),(.int .u8 0),(.int .u8 0),(.int .u8 0),(.int .u8 0),(.int .u8 0),(.int .u8 0),(.int .u8 0),(.int .u8 0),(.int .u8 0),(.int .u8 0),(.int .u8 0),(.int .u8 0)])])
 (.seq (.reg [oO 9 (.sliceArr 1 64 (.t 3) none none),
 oM 10 0,
 oO 11 (.copy 1 (.t 9) (.t 10))])
 (.seq (.reg [oO 12 (.load (.ag 64) (.t 3)),
 oN (.store (.ag 64) (.t 2) (.t 12))])
 (.ret))))),
 [(2,(some (.ag 64)))]⟩
theorem cf_blkof:compFn Tryd.prog { own:=[],comp:=[],frz:=[],nils:=[] } Tryd.f56=some sf_blkof:=by kernel_rfl
theorem blkof_c (G:Glob) (hF:G.at 0=some (.ra (firstK.map wD))) (hG:G.at 1=some (.ra (constK.map wD))) (key:List UInt8) (hb:key.length≤140737488355328):Den Tryd.prog G 56 [.sl (key.map bD)] (.w (.c (.d (.agg ((blkK key).map bD))))):=by
  refine den_walk Tryd.func56 cf_blkof rfl rfl ?_
  by_cases h:64<key.length
  ·have e:blkK key=fillK (sumK key):=by unfold blkK keyK; rw[if_pos h]
   have hl:=sumK_len key
   rw[e]
   simp only[sf_blkof,putAll,wal,stV,seval,iteOmega,toNatUp,reduceCtorEq]
   refine sD (sum_c G hF hG key hb) ?_
   generalize sumK key=s at *
   have z:=app_fill (k:=s)
   have z2:=len_fill (k:=s) (by omega)
   have ht:s.take 64=s:=List.take_of_length_le (by omega)
   have hf:(fillK s).length=64:=fillK_len (by omega)
   simp only[wal,stV,seval,iteOmega,toNatUp,reduceCtorEq,ht,z,z2,hf]
   exact ret_d1 (by simp only[wal,stV,seval,iteOmega,toNatUp,reduceCtorEq,hf])
  ·have e:blkK key=fillK key:=by unfold blkK keyK; rw[if_neg h]
   rw[e]
   have z:=app_fill (k:=key)
   have z2:=len_fill (k:=key) (by omega)
   have ht:key.take 64=key:=List.take_of_length_le (by omega)
   have hf:(fillK key).length=64:=fillK_len (by omega)
   simp only[sf_blkof,putAll,wal,stV,seval,iteOmega,toNatUp,reduceCtorEq,ht,z,z2,hf]
   exact ret_d1 (by simp only[wal,stV,seval,iteOmega,toNatUp,reduceCtorEq,hf])
def maskL (l:List UInt8) (m:UInt8) (i:Nat):List UInt8:=(l.take i).map (fun b=>xorB b m)++l.drop i
theorem maskL_len (l:List UInt8) (m:UInt8) (i:Nat):(maskL l m i).length=l.length:=by
  unfold maskL; rw[List.length_append,List.length_map,← List.length_append,List.take_append_drop]
theorem maskL_get (l:List UInt8) (m:UInt8) (i:Nat) (h:i<l.length):(maskL l m i)[i]?=some l[i]:=by
  unfold maskL
  rw[List.getElem?_append_right (by rw[List.length_map,List.length_take]; omega),List.getElem?_drop,List.length_map,List.length_take]
  rw[show i+(i-min i l.length)=i by omega,List.getElem?_eq_getElem h]
theorem maskL_step (l:List UInt8) (m:UInt8) (i:Nat) (h:i<l.length):(maskL l m i).set i (xorB l[i] m)=maskL l m (i+1):=by
  unfold maskL
  rw[List.set_append_right _ _ (by rw[List.length_map,List.length_take]; omega),List.length_map,List.length_take,show i-min i l.length=0 by omega,List.drop_eq_getElem_cons h,List.set_cons_zero,List.take_succ_eq_append_getElem h,List.map_append,List.append_assoc]
  rfl
theorem maskL_zero (l:List UInt8) (m:UInt8):maskL l m 0=l:=by simp[maskL]
theorem maskL_full (l:List UInt8) (m:UInt8) (i:Nat) (h:l.length≤i):maskL l m i=l.map fun b=>xorB b m:=by
  unfold maskL
  rw[List.take_of_length_le h,List.drop_eq_nil_of_le h,List.append_nil]
def maskSt (l:List UInt8) (m:UInt8) (i:Nat):St:=⟨ofL [(1,.w (.c (.d (bD m)))),(2,.w (.c (.pa 1 1))),(6,.w (.c (.d (.int .i64 (i:Int)))))],hL [(1,.row 1 ((maskL l m i).map bD))],uL [1]⟩
def lp_masked_0:SCode :=
 .seq (.reg [oO 7 (.bin .lss (.t 6) (kI 64))])
 (.seq (.cond (.t 7) (.skip)
 (.exit 0))
 (.seq (.block 1 (.seq (.reg [oM 8 6,
 oM 5 8])
 (.reg [oM 9 5,
 oO 10 (.idxPa 1 64 (.t 2) (.t 9)),
 oO 11 (.load .sc (.t 10)),
 oM 12 1,
 oO 13 (.bin .xor (.t 11) (.t 12)),
 oO 14 (.idxPa 1 64 (.t 2) (.t 9)),
 oN (.store .sc (.t 14) (.t 13))])))
 (.reg [oO 15 (.bin .add (.t 6) (kI 1)),
 oM 6 15])))
def sf_masked:SFn:=⟨2,17,
 .seq (.reg [oO 2 (.box .ownArr (.t 0)),
 oO 4 (.mv (.k (.c .nil)))])
 (.seq (.seq (.reg [oO 6 (.mv (kI 0))])
 (.block 0 (.loop lp_masked_0)))
 (.seq (.reg [oO 16 (.sliceArr 1 64 (.t 2) none none),
 oM 4 16])
 (.ret))),
 [(4,none)]⟩
theorem cf_masked:compFn Tryd.prog { own:=[2],comp:=[],frz:=[],nils:=[] } Tryd.f57=some sf_masked:=by kernel_rfl
theorem masked_c (G:Glob) (l:List UInt8) (hl:l.length=64) (m:UInt8):Den Tryd.prog G 57 [.agg (l.map bD),bD m] (.w (.c (.fr 1 ((l.map fun b=>xorB b m).map bD)))):=by
  refine den_walk Tryd.func57 cf_masked rfl rfl ?_
  simp only[sf_masked,putAll,wal,stV,seval,iteOmega,toNatUp,reduceCtorEq]
  refine loop_st (maskSt l m) (fun i=>64-i) (fun i=>i≤64) 0 (Nat.zero_le _) ?_ ?_
  ·refine ent_l (fun _=>16) ?_ ?_ rfl rfl <;> simp only[wx,wex,wez,stV,seval,iteOmega,toNatUp,reduceCtorEq,maskL_zero]
  ·intro i hi
   have hm:=maskL_len l m i
   by_cases hlt:i<64
   ·have h1:=maskL_get l m i (by omega)
    have h2:=maskL_step l m i (by omega)
    have h3:i<(maskL l m i).length:=by omega
    simp only[lp_masked_0,maskSt,wal,stV,seval,iteOmega,toNatUp,reduceCtorEq,get_map,h1,binV_xorB,stO_bs h3 (one_b _),set_bs,h2]
    refine lop_next (i+1) (by omega) (by omega) (ent_l (fun _=>1) ?_ ?_ rfl rfl) <;> simp only[wx,wex,wez,stV,seval,iteOmega,toNatUp,reduceCtorEq]
   ·obtain rfl:i=64:=by omega
    have h1:=maskL_full l m 64 (by omega)
    simp only[lp_masked_0,maskSt,wal,stV,seval,iteOmega,toNatUp,reduceCtorEq,h1,hl]
    exact ret_own (id:=1) (n:=64) (s:=1) (by simp only[wx,stV,seval,iteOmega,toNatUp,reduceCtorEq]) (by simp only[wx,stV,seval,iteOmega,toNatUp,reduceCtorEq]) (by simp[hl])
def sf_mac:SFn:=⟨2,21,
 .seq (.reg [oO 4 (.mv (.k (.c .nil)))])
 (.seq (.reg [oM 7 0,
 oO 8 (.call 56 [(.t 7)] none),
 oO 5 (.allocArr [(.int .u8 0),(.int .u8 0),(.int .u8 0),(.int .u8 0),(.int .u8 0),(.int .u8 0),(.int .u8 0),(.int .u8 0),(.int .u8 0),(.int .u8 0),(.int .u8 0),(.int .u8 0),(.int .u8 0),(.int .u8 0),(.int .u8 0),(.int .u8 0),(.int .u8 0),(.int .u8 0),(.int .u8 0),(.int .u8 0),(.int .u8 0),(.int .u8 0),(.int .u8 0),(.int .u8 0),(.int .u8 0),(.int .u8 0),(.int .u8 0),(.int .u8 0),(.int .u8 0),(.int .u8 0),(.int .u8 0),(.int .u8 0),(.int .u8 0),(.int .u8 0),(.int .u8 0),(.int .u8 0),(.int .u8 0),(.int .u8 0),(.int .u8 0),(.int .u8 0),(.int .u8 0),(.int .u8 0),(.int .u8 0),(.int .u8 0),(.int .u8 0),(.int .u8 0),(.int .u8 0),(.int .u8 0),(.int .u8 0),(.int .u8 0),(.int .u8 0),(.int .u8 0),(.int .u8 0),(.int .u8 0),(.int .u8 0),(.int .u8 0),(.int .u8 0),(.int .u8 0),(.int .u8 0),(.int .u8 0),(.int .u8 0),(.int .u8 0),(.int .u8 0),(.int .u8 0)]),
 oN (.store (.ag 64) (.t 5) (.t 8))])
 (.seq (.reg [oO 9 (.load (.ag 64) (.t 5)),
 oO 10 (.call 57 [(.t 9),(.k (.c (.d (.int .u8 54))))] none),
 oM 11 1,
 oO 12 (.bldSl false 2 1 (.sl []) [(0,(.t 10)),(1,(.t 11))]),
 oO 13 (.call 24 [(.t 12)] none),
 oO 14 (.call 37 [(.t 13)] none),
 oM 6 14])
 (.seq (.reg [oO 15 (.load (.ag 64) (.t 5)),
 oO 16 (.call 57 [(.t 15),(.k (.c (.d (.int .u8 92))))] none),
 oM 17 6,
 oO 18 (.bldSl false 2 1 (.sl []) [(0,(.t 16)),(1,(.t 17))]),
 oO 19 (.call 24 [(.t 18)] none),
 oO 20 (.call 37 [(.t 19)] (some (0,1))),
 oM 4 20])
 (.ret)))),
 [(4,none)]⟩
theorem cf_mac:compFn Tryd.prog { own:=[20],comp:=[],frz:=[],nils:=[] } Tryd.f44=some sf_mac:=by kernel_rfl
theorem mac_c (G:Glob) (hF:G.at 0=some (.ra (firstK.map wD))) (hG:G.at 1=some (.ra (constK.map wD))) (key b:List UInt8) (hk:key.length≤140737488355328) (hb:b.length≤70368744177664):Den Tryd.prog G 44 [.sl (key.map bD),.sl (b.map bD)] (.w (.c (.fr 1 ((macK key b).map bD)))):=by
  refine den_walk Tryd.func44 cf_mac rfl rfl ?_
  have h1:=join_c G [mixK key 54,b] (by simp) (by simp[mixK_len]; omega)
  have h2:=join_c G [mixK key 92,sumK (mixK key 54++b)] (by simp) (by simp[mixK_len,sumK_len])
  have f1:[mixK key 54,b].flatten=mixK key 54++b:=by simp
  have f2:[mixK key 92,sumK (mixK key 54++b)].flatten=mixK key 92++sumK (mixK key 54++b):=by simp
  rw[f1] at h1
  rw[f2] at h2
  have hl:=blkK_len key
  have hm1:(mixK key 54++b).length≤140737488355328:=by rw[List.length_append,mixK_len]; omega
  have hm2:(mixK key 92++sumK (mixK key 54++b)).length≤140737488355328:=by rw[List.length_append,mixK_len,sumK_len]; decide
  have hs:=sumK_len (mixK key 92++sumK (mixK key 54++b))
  have hmac:macK key b=sumK (mixK key 92++sumK (mixK key 54++b)):=rfl
  rw[hmac]
  simp only[sf_mac,putAll,wal,stV,seval,iteOmega,toNatUp,reduceCtorEq]
  refine sD (blkof_c G hF hG key hk) ?_
  refine sD (masked_c G (blkK key) hl 54) ?_
  refine sD (h1) ?_
  refine sD (sum_c G hF hG _ hm1) ?_
  refine sD (masked_c G (blkK key) hl 92) ?_
  refine sD (h2) ?_
  refine sD (sum_c G hF hG _ hm2) ?_
  exact qf1
def mixS (k:List UInt8) (x:UInt8) (i:Nat):List UInt8:=((fillK k).take i).map (fun b=>xorB b x)++List.replicate (64-i) 0
theorem mixS_len {k:List UInt8} (hk:k.length≤64) (x:UInt8) (i:Nat) (hi:i≤64):(mixS k x i).length=64:=by
  unfold mixS
  rw[List.length_append,List.length_map,List.length_take,fillK_len hk,List.length_replicate]; omega
theorem mixS_get {k:List UInt8} (hk:k.length≤64) (x:UInt8) (i:Nat) (hi:i<64):(mixS k x i)[i]?=some 0:=by
  unfold mixS
  rw[List.getElem?_append_right (by rw[List.length_map,List.length_take]; omega),List.length_map,List.length_take,fillK_len hk,List.getElem?_replicate,if_pos (by omega)]
theorem mixS_step {k:List UInt8} (hk:k.length≤64) (x a:UInt8) (i:Nat) (hi:i<64) (ha:(fillK k)[i]?=some a):(mixS k x i).set i (xorB a x)=mixS k x (i+1):=by
  have h:=set_next (((fillK k).take i).map (fun b=>xorB b x)) 0 (xorB a x) (64-i) (by omega)
  have hl:(((fillK k).take i).map (fun b=>xorB b x)).length=i:=by rw[List.length_map,List.length_take,fillK_len hk]; omega
  rw[hl] at h
  unfold mixS
  rw[h,List.take_add_one,ha,List.map_append]
  rfl
theorem fill_lo (k:List UInt8) (i:Nat) (h:i<k.length):(fillK k)[i]?=some k[i]:=by
  unfold fillK
  rw[List.getElem?_append_left h,List.getElem?_eq_getElem h]
theorem fill_hi (k:List UInt8) (i:Nat) (h:k.length≤i) (h2:i<64):(fillK k)[i]?=some 0:=by
  unfold fillK
  rw[List.getElem?_append_right h,List.getElem?_replicate,if_pos (by omega)]
theorem mixS_zero (k:List UInt8) (x:UInt8):mixS k x 0=List.replicate 64 0:=by simp[mixS]
theorem mixS_full {k:List UInt8} (hk:k.length≤64) (x:UInt8):mixS k x 64=(fillK k).map fun b=>xorB b x:=by
  unfold mixS
  rw[List.take_of_length_le (by rw[fillK_len hk]; exact Nat.le_refl _),Nat.sub_self,List.replicate_zero,List.append_nil]
def mixSt (k:List UInt8) (x:UInt8) (i:Nat):St:=⟨ofL [(0,.w (.c (.d (.sl (k.map bD))))),(1,.w (.c (.d (bD x)))),(5,.w (.c (.own 1 1 0 64))),(6,.w (.c (.d (.int .i64 (i:Int)))))],hL [(1,.row 1 ((mixS k x i).map bD))],uL [1]⟩
def lp_mixed_0:SCode :=
 .seq (.seq (.reg [oM 13 6,
 oO 14 (.bin .lss (.t 13) (kI 64))])
 (.cond (.t 14) (.skip)
 (.exit 0)))
 (.seq (.block 1 (.seq (.seq (.reg [oM 17 6,
 oM 18 0,
 oO 19 (.len (.t 18)),
 oO 20 (.bin .lss (.t 17) (.t 19))])
 (.cond (.t 20) (.reg [oM 21 5,
 oM 22 6,
 oM 23 0,
 oM 24 6,
 oO 25 (.idxSl 1 (.t 23) (.t 24)),
 oO 26 (.load .sc (.t 25)),
 oO 27 (.idxSl 1 (.t 21) (.t 22)),
 oN (.store .sc (.t 27) (.t 26))])
 (.skip)))
 (.reg [oM 28 5,
 oM 29 6,
 oM 30 5,
 oM 31 6,
 oO 32 (.idxSl 1 (.t 30) (.t 31)),
 oO 33 (.load .sc (.t 32)),
 oM 34 1,
 oO 35 (.bin .xor (.t 33) (.t 34)),
 oO 36 (.idxSl 1 (.t 28) (.t 29)),
 oN (.store .sc (.t 36) (.t 35))])))
 (.reg [oM 15 6,
 oO 16 (.bin .add (.t 15) (kI 1)),
 oM 6 16]))
def sf_mixed:SFn:=⟨2,38,
 .seq (.reg [oO 4 (.mv (.k (.c .nil)))])
 (.seq (.seq (.reg [oM 7 0,
 oO 8 (.len (.t 7)),
 oO 9 (.bin .gtr (.t 8) (kI 64))])
 (.cond (.t 9) (.reg [oM 10 0,
 oO 11 (.call 20 [(.t 10)] none),
 oM 0 11])
 (.skip)))
 (.seq (.reg [oO 12 (.make true 1 1 (.int .u8 0) (kI 64) (kI 64)),
 oM 5 12])
 (.seq (.seq (.reg [oO 6 (.mv (kI 0))])
 (.block 0 (.loop lp_mixed_0)))
 (.seq (.reg [oM 37 5,
 oM 4 37])
 (.ret))))),
 [(4,none)]⟩
theorem cf_mixed:compFn Tryd.prog { own:=[],comp:=[],frz:=[],nils:=[] } Tryd.f65=some sf_mixed:=by kernel_rfl
theorem mixed_l (G:Glob) (k:List UInt8) (hk:k.length≤64) (x:UInt8) (Q:AX→St→Prop) (σ:St) (he:Ent σ (mixSt k x 0)) (hq:∀ f,f 5=.w (.c (.own 1 1 0 64))→Q (.ex 0) ⟨f,hL [(1,.row 1 (((fillK k).map fun b=>xorB b x).map bD))],uL [1]⟩):awp Tryd.prog G (.loop lp_mixed_0) Q σ:=by
  refine loop_st (mixSt k x) (fun i=>64-i) (fun i=>i≤64) 0 (Nat.zero_le _) he ?_
  intro i hi
  have hl:=mixS_len hk x i hi
  by_cases hlt:i<64
  ·have h1:=mixS_get hk x i hlt
   have h3:i<(mixS k x i).length:=by omega
   by_cases hkl:i<k.length
   ·have h2:=mixS_step hk x k[i] i hlt (fill_lo k i hkl)
    have e2:k[i]?=some k[i]:=List.getElem?_eq_getElem hkl
    have h4:((mixS k x i).set i k[i])[i]?=some k[i]:=by rw[List.getElem?_set_self h3]
    have h5:i<((mixS k x i).set i k[i]).length:=by rw[List.length_set]; exact h3
    simp only[lp_mixed_0,mixSt,wal,stV,seval,iteOmega,toNatUp,reduceCtorEq,get_map,h1,e2,stO_bs h3 (one_b _),set_bs,h4,stO_bs h5 (one_b _),List.set_set,h2]
    refine lop_next (i+1) (by omega) (by omega) (ent_l (fun _=>1) ?_ ?_ rfl rfl) <;> simp only[wx,wex,wez,stV,seval,iteOmega,toNatUp,reduceCtorEq]
   ·have h2:=mixS_step hk x 0 i hlt (fill_hi k i (by omega) hlt)
    simp only[lp_mixed_0,mixSt,wal,stV,seval,iteOmega,toNatUp,reduceCtorEq,get_map,h1,stO_bs h3 (one_b _),set_bs,h2]
    refine lop_next (i+1) (by omega) (by omega) (ent_l (fun _=>1) ?_ ?_ rfl rfl) <;> simp only[wx,wex,wez,stV,seval,iteOmega,toNatUp,reduceCtorEq]
  ·obtain rfl:i=64:=by omega
   simp only[lp_mixed_0,mixSt,wal,stV,seval,iteOmega,toNatUp,reduceCtorEq,mixS_full hk x]
   exact hq _ (by simp only[wal,stV,seval,iteOmega,toNatUp,reduceCtorEq])
theorem mixed_c (G:Glob) (key:List UInt8) (hb:key.length≤140737488355328) (x:UInt8):Den Tryd.prog G 65 [.sl (key.map bD),bD x] (.w (.c (.fr 1 ((mixK key x).map bD)))):=by
  refine den_walk Tryd.func65 cf_mixed rfl rfl ?_
  by_cases h:64<key.length
  ·have e:mixK key x=(fillK (sumK key)).map fun b=>xorB b x:=by unfold mixK blkK keyK; rw[if_pos h]
   have hl:=sumK_len key
   rw[e]
   simp only[sf_mixed,putAll,wal,stV,seval,iteOmega,toNatUp,reduceCtorEq]
   refine sD (rsum_c G key hb) ?_
   generalize sumK key=s at *
   refine mixed_l G s (by omega) x _ _ (ent_l (fun _=>96) ?_ ?_ rfl rfl) fun f hf=>?_
   ·simp only[wx,wex,wez,stV,seval,iteOmega,toNatUp,reduceCtorEq]
   ·simp only[wx,wex,wez,stV,seval,iteOmega,toNatUp,reduceCtorEq,mixS_zero]
    rfl
   ·simp only[wal,stV,seval,iteOmega,toNatUp,reduceCtorEq,hf]
    exact ret_own (id:=1) (n:=64) (s:=1) (by simp only[wx,stV,seval,iteOmega,toNatUp,reduceCtorEq,hf]) (by simp only[wx,stV,seval,iteOmega,toNatUp,reduceCtorEq]) (by rw[List.length_map,List.length_map,fillK_len (by omega)])
  ·have e:mixK key x=(fillK key).map fun b=>xorB b x:=by unfold mixK blkK keyK; rw[if_neg h]
   rw[e]
   simp only[sf_mixed,putAll,wal,stV,seval,iteOmega,toNatUp,reduceCtorEq]
   refine mixed_l G key (by omega) x _ _ (ent_l (fun _=>96) ?_ ?_ rfl rfl) fun f hf=>?_
   ·simp only[wx,wex,wez,stV,seval,iteOmega,toNatUp,reduceCtorEq]
   ·simp only[wx,wex,wez,stV,seval,iteOmega,toNatUp,reduceCtorEq,mixS_zero]
    rfl
   ·simp only[wal,stV,seval,iteOmega,toNatUp,reduceCtorEq,hf]
    exact ret_own (id:=1) (n:=64) (s:=1) (by simp only[wx,stV,seval,iteOmega,toNatUp,reduceCtorEq,hf]) (by simp only[wx,stV,seval,iteOmega,toNatUp,reduceCtorEq]) (by rw[List.length_map,List.length_map,fillK_len (by omega)])
end Go.Proofs.YtbkhllchjbjhgaaDoor
namespace Go.Proofs.YtbkhllchjbjhgaaDoor
open Go.RowKit IntWalk
set_option maxHeartbeats 1600000
def sf_rmac:SFn:=⟨2,16,
 .seq (.reg [oO 4 (.mv (.k (.c .nil)))])
 (.seq (.reg [oM 5 0,
 oO 6 (.call 65 [(.t 5),(.k (.c (.d (.int .u8 92))))] none),
 oM 7 0,
 oO 8 (.call 65 [(.t 7),(.k (.c (.d (.int .u8 54))))] none),
 oM 9 1,
 oO 10 (.bldSl false 2 1 (.sl []) [(0,(.t 8)),(1,(.t 9))]),
 oO 11 (.call 16 [(.t 10)] none),
 oO 12 (.call 20 [(.t 11)] none),
 oO 13 (.bldSl false 2 1 (.sl []) [(0,(.t 6)),(1,(.t 12))]),
 oO 14 (.call 16 [(.t 13)] none),
 oO 15 (.call 20 [(.t 14)] (some (0,1))),
 oM 4 15])
 (.ret)),
 [(4,none)]⟩
theorem cf_rmac:compFn Tryd.prog { own:=[15],comp:=[],frz:=[],nils:=[] } Tryd.f54=some sf_rmac:=by kernel_rfl
theorem rmac_c (G:Glob) (key b:List UInt8) (hk:key.length≤140737488355328) (hb:b.length≤70368744177664):Den Tryd.prog G 54 [.sl (key.map bD),.sl (b.map bD)] (.w (.c (.fr 1 ((macK key b).map bD)))):=by
  refine den_walk Tryd.func54 cf_rmac rfl rfl ?_
  have h1:=rjoin_c G [mixK key 54,b] (by simp) (by simp[mixK_len]; omega)
  have h2:=rjoin_c G [mixK key 92,sumK (mixK key 54++b)] (by simp) (by simp[mixK_len,sumK_len])
  have f1:[mixK key 54,b].flatten=mixK key 54++b:=by simp
  have f2:[mixK key 92,sumK (mixK key 54++b)].flatten=mixK key 92++sumK (mixK key 54++b):=by simp
  rw[f1] at h1
  rw[f2] at h2
  have hm1:(mixK key 54++b).length≤140737488355328:=by rw[List.length_append,mixK_len]; omega
  have hm2:(mixK key 92++sumK (mixK key 54++b)).length≤140737488355328:=by rw[List.length_append,mixK_len,sumK_len]; decide
  have hs:=sumK_len (mixK key 92++sumK (mixK key 54++b))
  have hmac:macK key b=sumK (mixK key 92++sumK (mixK key 54++b)):=rfl
  rw[hmac]
  simp only[sf_rmac,putAll,wal,stV,seval,iteOmega,toNatUp,reduceCtorEq]
  refine sD (mixed_c G key hk 92) ?_
  refine sD (mixed_c G key hk 54) ?_
  refine sD (h1) ?_
  refine sD (rsum_c G _ hm1) ?_
  refine sD (h2) ?_
  refine sD (rsum_c G _ hm2) ?_
  exact qf1
def sf_ext:SFn:=⟨2,8,
 .seq (.reg [oO 4 (.mv (.k (.c .nil)))])
 (.seq (.reg [oM 5 0,
 oM 6 1,
 oO 7 (.call 44 [(.t 5),(.t 6)] (some (0,1))),
 oM 4 7])
 (.ret)),
 [(4,none)]⟩
theorem cf_ext:compFn Tryd.prog { own:=[7],comp:=[],frz:=[],nils:=[] } Tryd.f23=some sf_ext:=by kernel_rfl
theorem ext_c (G:Glob) (hF:G.at 0=some (.ra (firstK.map wD))) (hG:G.at 1=some (.ra (constK.map wD))) (key b:List UInt8) (hk:key.length≤140737488355328) (hb:b.length≤70368744177664):Den Tryd.prog G 23 [.sl (key.map bD),.sl (b.map bD)] (.w (.c (.fr 1 ((macK key b).map bD)))):=by
  refine den_walk Tryd.func23 cf_ext rfl rfl ?_
  simp only[sf_ext,putAll,wal,stV,seval,iteOmega,toNatUp,reduceCtorEq]
  refine sD (mac_c G hF hG key b hk hb) ?_
  exact qf1
def sf_rext:SFn:=⟨2,8,
 .seq (.reg [oO 4 (.mv (.k (.c .nil)))])
 (.seq (.reg [oM 5 0,
 oM 6 1,
 oO 7 (.call 54 [(.t 5),(.t 6)] (some (0,1))),
 oM 4 7])
 (.ret)),
 [(4,none)]⟩
theorem cf_rext:compFn Tryd.prog { own:=[7],comp:=[],frz:=[],nils:=[] } Tryd.f39=some sf_rext:=by kernel_rfl
theorem rext_c (G:Glob) (key b:List UInt8) (hk:key.length≤140737488355328) (hb:b.length≤70368744177664):Den Tryd.prog G 39 [.sl (key.map bD),.sl (b.map bD)] (.w (.c (.fr 1 ((macK key b).map bD)))):=by
  refine den_walk Tryd.func39 cf_rext rfl rfl ?_
  simp only[sf_rext,putAll,wal,stV,seval,iteOmega,toNatUp,reduceCtorEq]
  refine sD (rmac_c G key b hk hb) ?_
  exact qf1
def expE (n:Int):Int:=if 0≤n∧n≤8160 then 0 else 4
def expL (key info:List UInt8) (n:Int):List UInt8:=if 0≤n∧n≤8160 then expK key info n.toNat else []
theorem expE_in {n:Int} (h:0≤n∧n≤8160):expE n=0:=if_pos h
theorem expL_in (key info:List UInt8) {n:Int} (h:0≤n∧n≤8160):expL key info n=expK key info n.toNat:=if_pos h
theorem expE_out {n:Int} (h:¬ (0≤n∧n≤8160)):expE n=4:=if_neg h
theorem expL_out (key info:List UInt8) {n:Int} (h:¬ (0≤n∧n≤8160)):expL key info n=[]:=if_neg h
def cutA (key info:List UInt8) (n i:Nat):List UInt8:=(allK key info i).take n
theorem cutA_len (key info:List UInt8) (n i:Nat):(cutA key info n i).length=min n (32*i):=by
  unfold cutA; rw[List.length_take,allK_len]
theorem cutA_step (key info:List UInt8) (n i:Nat) (h:32*i≤n):cutA key info n i++(partK key info (i+1)).take (n-32*i)=cutA key info n (i+1):=by
  unfold cutA
  rw[allK,List.take_append,allK_len]
theorem part_next (key info:List UInt8) (i:Nat):macK key (partK key info i++info++[UInt8.ofNat (i+1)])=partK key info (i+1):=rfl
theorem put1 (v:Nat):putL v 1=[UInt8.ofNat v]:=by simp[putL]
def partV (key info:List UInt8):Nat→V
  | 0=>.w (.c .nil)
  | i+1=>.w (.c (.d (.sl ((partK key info (i+1)).map bD))))
theorem min_two (a b:Nat):List.foldl (fun x y:Int=>if y<x then y else x) (a:Int) [(b:Int)]=((min a b:Nat):Int):=by
  simp only[List.foldl_cons,List.foldl_nil]
  split <;> omega
def expSt (key info:List UInt8) (n i:Nat):St:=⟨ofL [(0,.w (.c (.d (.sl (key.map bD))))),(1,.w (.c (.d (.sl (info.map bD))))),(2,.w (.c (.d (.int .i64 (n:Int))))),(8,.w (.c (.own 1 1 0 (cutA key info n i).length))),(9,partV key info i),(10,.w (.c (.d (.int .u64 ((i+1:Nat):Int)))))],hL [(1,.row 1 ((cutA key info n i).map bD))],uL [1]⟩
def lp_exp_0:SCode :=
 .seq (.seq (.reg [oM 19 8,
 oO 20 (.len (.t 19)),
 oM 21 2,
 oO 22 (.bin .lss (.t 20) (.t 21))])
 (.cond (.t 22) (.skip)
 (.exit 0)))
 (.seq (.block 1 (.seq (.reg [oM 25 0,
 oM 26 9,
 oM 27 1,
 oM 28 10,
 oO 29 (.call 25 [(.t 28),(kI 1)] none),
 oO 30 (.bldSl false 3 1 (.sl []) [(0,(.t 26)),(1,(.t 27)),(2,(.t 29))]),
 oO 31 (.call 24 [(.t 30)] none),
 oO 32 (.call 44 [(.t 25),(.t 31)] none),
 oM 9 32])
 (.reg [oM 33 8,
 oM 34 9,
 oM 35 9,
 oO 36 (.len (.t 35)),
 oM 37 2,
 oM 38 8,
 oO 39 (.len (.t 38)),
 oO 40 (.bin .sub (.t 37) (.t 39)),
 oO 41 (.min [(.t 36),(.t 40)]),
 oO 42 (.slice 1 (.t 34) none (some (.t 41)) none),
 oO 43 (.app false 1 1 (.t 33) (.t 42)),
 oM 8 43])))
 (.reg [oM 23 10,
 oO 24 (.bin .add (.t 23) (.k (.c (.d (.int .u64 1))))),
 oM 10 24]))
def sf_exp:SFn:=⟨3,45,
 .seq (.reg [oO 6 (.mv (.k (.c .nil))),
 oO 7 (.mv (kI 0))])
 (.seq (.seq (.reg [oM 11 2,
 oO 12 (.bin .lss (.t 11) (kI 0)),
 oM 13 12,
 oG 14 (.mv (.t 2)) 13 false,
 oG 15 (.bin .gtr (.t 14) (kI 8160)) 13 false,
 oO 16 (.pick (.t 13) (.k (.c (.d (.bool true)))) (.t 15))])
 (.cond (.t 16) (.seq (.reg [oO 6 (.mv (.k (.c .nil))),
 oO 7 (.mv (kI 4))])
 (.ret))
 (.skip)))
 (.seq (.reg [oM 17 2,
 oO 18 (.make true 1 1 (.int .u8 0) (kI 0) (.t 17)),
 oM 8 18])
 (.seq (.reg [oO 9 (.mv (.k (.c .nil)))])
 (.seq (.seq (.reg [oO 10 (.mv (.k (.c (.d (.int .u64 1)))))])
 (.block 0 (.loop lp_exp_0)))
 (.seq (.reg [oM 44 8,
 oM 6 44,
 oO 7 (.mv (kI 0))])
 (.ret)))))),
 [(6,none),(7,none)]⟩
theorem cf_exp:compFn Tryd.prog { own:=[],comp:=[],frz:=[],nils:=[] } Tryd.f35=some sf_exp:=by kernel_rfl
theorem exp_c (G:Glob) (hF:G.at 0=some (.ra (firstK.map wD))) (hG:G.at 1=some (.ra (constK.map wD))) (key info:List UInt8) (hk:key.length≤140737488355328) (hb:info.length≤35184372088832) (n:Int) (hn1:-9223372036854775808≤n) (hn2:n≤9223372036854775807):Den Tryd.prog G 35 [.sl (key.map bD),.sl (info.map bD),.int .i64 n] (.tup [.c (.d (.sl ((expL key info n).map bD))),.c (.d (.int .i64 (expE n)))]):=by
  refine den_walk Tryd.func35 cf_exp rfl rfl ?_
  by_cases h0:n<0
  ·have hc:¬ (0≤n∧n≤8160):=by omega
   rw[expE_out hc,expL_out key info hc]
   simp only[sf_exp,putAll,wal,stV,seval,iteOmega,toNatUp,reduceCtorEq]
   exact qd2
  ·by_cases h1:8160<n
   ·have hc:¬ (0≤n∧n≤8160):=by omega
    rw[expE_out hc,expL_out key info hc]
    simp only[sf_exp,putAll,wal,stV,seval,iteOmega,toNatUp,reduceCtorEq]
    exact qd2
   ·have hc:0≤n∧n≤8160:=by omega
    rw[expE_in hc,expL_in key info hc]
    obtain⟨m,rfl⟩:=Int.eq_ofNat_of_zero_le hc.1
    rw[Int.toNat_natCast]
    simp only[sf_exp,putAll,wal,stV,seval,iteOmega,toNatUp,reduceCtorEq]
    refine loop_st (expSt key info m) (fun i=>(m+31) / 32-i) (fun i=>i≤(m+31) / 32) 0 (Nat.zero_le _) ?_ ?_
    ·refine ent_l (fun _=>144) ?_ ?_ rfl rfl <;> simp only[wx,wex,wez,stV,seval,iteOmega,toNatUp,reduceCtorEq,cutA,allK,partV]
    ·intro i hi
     have hl:=cutA_len key info m i
     have hp:=partK_len key info i
     by_cases hlt:i<(m+31) / 32
     ·have h32:32*i≤m:=by omega
      have hl:(cutA key info m i).length=32*i:=by omega
      have hj:=join_c G [partK key info i,info,putL (i+1) 1] (by simp) (by simp[putL_length]; omega)
      have hf:[partK key info i,info,putL (i+1) 1].flatten=partK key info i++info++[UInt8.ofNat (i+1)]:=by simp[put1]
      rw[hf] at hj
      have hm:=mac_c G hF hG key (partK key info i++info++[UInt8.ofNat (i+1)]) hk (by simp; omega)
      rw[part_next] at hm
      have hl2:(partK key info (i+1)).length=32:=macK_len _ _
      have hs:=cutA_step key info m i h32
      have hs2:=cutA_len key info m (i+1)
      have hmin:=min_two 32 (m-32*i)
      rw[show ((m-32*i:Nat):Int)=(m:Int)-32*(i:Int) by omega] at hmin
      have hs':cutA key info m i++(partK key info (i+1)).take (min 32 (m-32*i))=cutA key info m (i+1):=by
        rw[← hs]; congr 1
        rw[Nat.min_comm,← List.take_take,List.take_of_length_le (l:=partK key info (i+1)) (by omega)]
      have hlt2:((cutA key info m i).length:Int)<(m:Int):=by omega
      have hmm:min 32 (m-32*i)≤32:=by omega
      have hml:((partK key info (i+1)).take (min 32 (m-32*i))).length=min 32 (m-32*i):=by rw[List.length_take,hl2]; omega
      have hcl:(cutA key info m (i+1)).length=32*i+min 32 (m-32*i):=by omega
      generalize hq:min 32 (m-32*i)=q at *
      rcases i with _ | i
      ·simp only[Int.cast_ofNat_Int,Int.natCast_add,Int.natCast_one,Int.natCast_zero,Int.mul_zero,Int.sub_zero,Nat.mul_zero,Nat.zero_add] at hmin hl hl2 hs' hml hcl
       simp only[lp_exp_0,expSt,partV,wal,stV,seval,iteOmega,toNatUp,reduceCtorEq]
       refine sD (put_in G (0+1) 1 (by decide)) ?_
       refine sD (hj) ?_
       refine sD (hm) ?_
       simp only[wal,stV,seval,iteOmega,toNatUp,reduceCtorEq,hl2,hl,hmin,hml,hs',srcV,Int.sub_zero]
       refine lop_next (0+1) (by omega) (by omega) (ent_l (fun _=>344) ?_ ?_ rfl rfl) <;> simp only[wx,wex,wez,stV,seval,iteOmega,toNatUp,reduceCtorEq,partV,hcl]
      ·simp only[Int.cast_ofNat_Int,Int.natCast_add,Int.natCast_one,Int.natCast_zero] at hmin
       simp only[lp_exp_0,expSt,partV,wal,stV,seval,iteOmega,toNatUp,reduceCtorEq]
       refine sD (put_in G (i+1+1) 1 (by decide)) ?_
       refine sD (hj) ?_
       refine sD (hm) ?_
       simp only[wal,stV,seval,iteOmega,toNatUp,reduceCtorEq,hl2,hl,hmin,hml,hs',srcV]
       refine lop_next (i+1+1) (by omega) (by omega) (ent_l (fun _=>344) ?_ ?_ rfl rfl) <;> simp only[wx,wex,wez,stV,seval,iteOmega,toNatUp,reduceCtorEq,partV,hcl]
     ·obtain rfl:i=(m+31) / 32:=by omega
      have hlt2:¬ ((cutA key info m ((m+31) / 32)).length:Int)<(m:Int):=by omega
      have he:cutA key info m ((m+31) / 32)=expK key info m:=rfl
      rw[he] at hlt2
      simp only[lp_exp_0,expSt,wal,stV,seval,iteOmega,toNatUp,reduceCtorEq,he]
      exact qd2
def rexpSt (key info:List UInt8) (n i:Nat):St:=⟨ofL [(0,.w (.c (.d (.sl (key.map bD))))),(1,.w (.c (.d (.sl (info.map bD))))),(2,.w (.c (.d (.int .i64 (n:Int))))),(8,.w (.c (.own 1 1 0 (allK key info i).length))),(9,partV key info i),(10,.w (.c (.d (.int .i64 ((i+1:Nat):Int)))))],hL [(1,.row 1 ((allK key info i).map bD))],uL [1]⟩
def lp_rexp_0:SCode :=
 .seq (.seq (.reg [oM 19 8,
 oO 20 (.len (.t 19)),
 oM 21 2,
 oO 22 (.bin .lss (.t 20) (.t 21))])
 (.cond (.t 22) (.skip)
 (.exit 0)))
 (.seq (.block 1 (.seq (.reg [oM 25 0,
 oM 26 9,
 oM 27 1,
 oM 28 10,
 oO 29 (.conv .u8 (.t 28)),
 oO 30 (.bldSl false 1 1 (.int .u8 0) [(0,(.t 29))]),
 oO 31 (.bldSl false 3 1 (.sl []) [(0,(.t 26)),(1,(.t 27)),(2,(.t 30))]),
 oO 32 (.call 16 [(.t 31)] none),
 oO 33 (.call 54 [(.t 25),(.t 32)] none),
 oM 9 33])
 (.reg [oM 34 8,
 oM 35 9,
 oO 36 (.app false 1 1 (.t 34) (.t 35)),
 oM 8 36])))
 (.reg [oM 23 10,
 oO 24 (.bin .add (.t 23) (kI 1)),
 oM 10 24]))
def sf_rexp:SFn:=⟨3,40,
 .seq (.reg [oO 6 (.mv (.k (.c .nil))),
 oO 7 (.mv (kI 0))])
 (.seq (.seq (.reg [oM 11 2,
 oO 12 (.bin .lss (.t 11) (kI 0)),
 oM 13 12,
 oG 14 (.mv (.t 2)) 13 false,
 oG 15 (.bin .gtr (.t 14) (kI 8160)) 13 false,
 oO 16 (.pick (.t 13) (.k (.c (.d (.bool true)))) (.t 15))])
 (.cond (.t 16) (.seq (.reg [oO 6 (.mv (.k (.c .nil))),
 oO 7 (.mv (kI 4))])
 (.ret))
 (.skip)))
 (.seq (.reg [oO 17 (.bldSl true 0 1 (.int .u8 0) []),
 oO 18 (.bldSl false 0 1 (.int .u8 0) []),
 oM 8 17,
 oM 9 18])
 (.seq (.seq (.reg [oO 10 (.mv (kI 1))])
 (.block 0 (.loop lp_rexp_0)))
 (.seq (.reg [oM 37 8,
 oM 38 2,
 oO 39 (.slice 1 (.t 37) none (some (.t 38)) none),
 oM 6 39,
 oO 7 (.mv (kI 0))])
 (.ret))))),
 [(6,none),(7,none)]⟩
theorem cf_rexp:compFn Tryd.prog { own:=[17],comp:=[],frz:=[],nils:=[] } Tryd.f53=some sf_rexp:=by kernel_rfl
theorem rexp_c (G:Glob) (key info:List UInt8) (hk:key.length≤140737488355328) (hb:info.length≤35184372088832) (n:Int) (hn1:-9223372036854775808≤n) (hn2:n≤9223372036854775807):Den Tryd.prog G 53 [.sl (key.map bD),.sl (info.map bD),.int .i64 n] (.tup [.c (.d (.sl ((expL key info n).map bD))),.c (.d (.int .i64 (expE n)))]):=by
  refine den_walk Tryd.func53 cf_rexp rfl rfl ?_
  by_cases h0:n<0
  ·have hc:¬ (0≤n∧n≤8160):=by omega
   rw[expE_out hc,expL_out key info hc]
   simp only[sf_rexp,putAll,wal,stV,seval,iteOmega,toNatUp,reduceCtorEq]
   exact qd2
  ·by_cases h1:8160<n
   ·have hc:¬ (0≤n∧n≤8160):=by omega
    rw[expE_out hc,expL_out key info hc]
    simp only[sf_rexp,putAll,wal,stV,seval,iteOmega,toNatUp,reduceCtorEq]
    exact qd2
   ·have hc:0≤n∧n≤8160:=by omega
    rw[expE_in hc,expL_in key info hc]
    obtain⟨m,rfl⟩:=Int.eq_ofNat_of_zero_le hc.1
    rw[Int.toNat_natCast]
    simp only[sf_rexp,putAll,wal,stV,seval,iteOmega,toNatUp,reduceCtorEq]
    refine loop_st (rexpSt key info m) (fun i=>(m+31) / 32-i) (fun i=>i≤(m+31) / 32) 0 (Nat.zero_le _) ?_ ?_
    ·refine ent_l (fun _=>136) ?_ ?_ rfl rfl <;> simp only[wx,wex,wez,stV,seval,iteOmega,toNatUp,reduceCtorEq,allK,partV]
    ·intro i hi
     have hl:=allK_len key info i
     have hp:=partK_len key info i
     by_cases hlt:i<(m+31) / 32
     ·have hj:=rjoin_c G [partK key info i,info,[UInt8.ofNat (i+1)]] (by simp) (by simp; omega)
      have hf:[partK key info i,info,[UInt8.ofNat (i+1)]].flatten=partK key info i++info++[UInt8.ofNat (i+1)]:=by simp
      rw[hf] at hj
      have hm:=rmac_c G key (partK key info i++info++[UInt8.ofNat (i+1)]) hk (by simp; omega)
      rw[part_next] at hm
      have hl2:(partK key info (i+1)).length=32:=macK_len _ _
      have hs':allK key info i++partK key info (i+1)=allK key info (i+1):=rfl
      have hcl:(allK key info (i+1)).length=32*i+32:=by rw[allK_len]; omega
      rcases i with _ | i
      ·simp only[Int.cast_ofNat_Int,Int.natCast_add,Int.natCast_one,Int.natCast_zero,Int.mul_zero,Int.sub_zero,Nat.mul_zero,Nat.zero_add] at hl hl2 hs' hcl
       simp only[lp_rexp_0,rexpSt,partV,wal,stV,seval,iteOmega,toNatUp,reduceCtorEq]
       refine sD (hj) ?_
       refine sD (hm) ?_
       simp only[wal,stV,seval,iteOmega,toNatUp,reduceCtorEq,hl2,hl,hs',srcV,Int.sub_zero]
       refine lop_next (0+1) (by omega) (by omega) (ent_l (fun _=>288) ?_ ?_ rfl rfl) <;> simp only[wx,wex,wez,stV,seval,iteOmega,toNatUp,reduceCtorEq,partV,hcl]
      ·have hby:D.int .u8 ((i:Int)+1+1)=bD (UInt8.ofNat (i+1+1)):=by rw[← byte_of,IntWalk.u8_in _ (by omega)]; rfl
       simp only[lp_rexp_0,rexpSt,partV,wal,stV,seval,iteOmega,toNatUp,reduceCtorEq,hby]
       refine sD (hj) ?_
       refine sD (hm) ?_
       simp only[wal,stV,seval,iteOmega,toNatUp,reduceCtorEq,hl2,hl,hs',srcV]
       refine lop_next (i+1+1) (by omega) (by omega) (ent_l (fun _=>288) ?_ ?_ rfl rfl) <;> simp only[wx,wex,wez,stV,seval,iteOmega,toNatUp,reduceCtorEq,partV,hcl]
     ·obtain rfl:i=(m+31) / 32:=by omega
      have he:(allK key info ((m+31) / 32)).take m=expK key info m:=rfl
      have hle:m≤(allK key info ((m+31) / 32)).length:=by omega
      simp only[lp_rexp_0,rexpSt,wal,stV,seval,iteOmega,toNatUp,reduceCtorEq]
      exact ret_d2 (by simp only[wal,stV,seval,iteOmega,toNatUp,reduceCtorEq,he]) (by simp only[wal,stV,seval,iteOmega,toNatUp,reduceCtorEq])
def sf_lab:SFn:=⟨3,19,
 .seq (.reg [oO 6 (.mv (.k (.c .nil)))])
 (.seq (.reg [oO 8 (.bldSl false 1 1 (.int .u8 0) [(0,(.k (.c (.d (.int .u8 0)))))]),
 oM 7 8])
 (.seq (.reg [oM 9 0,
 oO 10 (.s2b false (.t 9)),
 oM 11 7,
 oM 12 1,
 oO 13 (.s2b false (.t 12)),
 oM 14 7,
 oM 15 2,
 oO 16 (.call 37 [(.t 15)] none),
 oO 17 (.bldSl false 5 1 (.sl []) [(0,(.t 10)),(1,(.t 11)),(2,(.t 13)),(3,(.t 14)),(4,(.t 16))]),
 oO 18 (.call 24 [(.t 17)] (some (0,1))),
 oM 6 18])
 (.ret))),
 [(6,none)]⟩
theorem cf_lab:compFn Tryd.prog { own:=[18],comp:=[],frz:=[],nils:=[] } Tryd.f36=some sf_lab:=by kernel_rfl
theorem lab_c (G:Glob) (hF:G.at 0=some (.ra (firstK.map wD))) (hG:G.at 1=some (.ra (constK.map wD))) (p n:ByteArray) (c:List UInt8) (hp:p.size≤1099511627776) (hn:n.size≤1099511627776) (hc:c.length≤140737488355328):Den Tryd.prog G 36 [.str p,.str n,.sl (c.map bD)] (.w (.c (.fr 1 ((labK p.data.toList n.data.toList c).map bD)))):=by
  refine den_walk Tryd.func36 cf_lab rfl rfl ?_
  have hp':p.data.toList.length=p.size:=rfl
  have hn':n.data.toList.length=n.size:=rfl
  have hj:=join_c G [p.data.toList,[0],n.data.toList,[0],sumK c] (by simp) (by simp[sumK_len]; omega)
  have hf:[p.data.toList,[0],n.data.toList,[0],sumK c].flatten=labK p.data.toList n.data.toList c:=by simp[labK]
  rw[hf] at hj
  have hpm:p.size≤maxLen:=by unfold maxLen; omega
  have hnm:n.size≤maxLen:=by unfold maxLen; omega
  simp only[sf_lab,putAll,wal,stV,seval,iteOmega,toNatUp,reduceCtorEq,hpm,hnm]
  refine sD (sum_c G hF hG c hc) ?_
  refine sD (hj) ?_
  exact qf1
end Go.Proofs.YtbkhllchjbjhgaaDoor
namespace Go.Proofs.YtbkhllchjbjhgaaDoor
open Go.RowKit
theorem putk_c (G:Glob) (v:Nat) (k:Int) (hk:0≤k∧k≤64):Den Tryd.prog G 25 [.int .u64 (v:Int),.int .i64 k] (.w (.c (.fr 1 ((putL v k.toNat).map bD)))):=by
  have c:=put_c G v k
  rw[show putN v k=putL v k.toNat from if_pos hk] at c
  exact c
end Go.Proofs.YtbkhllchjbjhgaaDoor
namespace Go.Proofs.YtbkhllchjbjhgaaDoor
open Go.RowKit IntWalk
def sf_cut:SFn:=⟨2,25,
 .seq (.reg [oO 4 (.mv (.k (.c .nil))),
 oO 5 (.mv (.k (.c .nil))),
 oO 6 (.mv (.k (.c (.d (.bool false)))))])
 (.seq (.seq (.reg [oM 7 1,
 oO 8 (.bin .lss (.t 7) (kI 0)),
 oM 9 8,
 oG 10 (.mv (.t 1)) 9 false,
 oG 11 (.mv (.t 0)) 9 false,
 oG 12 (.len (.t 11)) 9 false,
 oG 13 (.bin .gtr (.t 10) (.t 12)) 9 false,
 oO 14 (.pick (.t 9) (.k (.c (.d (.bool true)))) (.t 13))])
 (.cond (.t 14) (.seq (.reg [oO 4 (.mv (.k (.c .nil))),
 oO 5 (.mv (.k (.c .nil))),
 oO 6 (.mv (.k (.c (.d (.bool false)))))])
 (.ret))
 (.skip)))
 (.seq (.reg [oM 15 0,
 oM 16 1,
 oO 17 (.slice 1 (.t 15) none (some (.t 16)) none),
 oO 18 (.bldSl false 1 1 (.sl []) [(0,(.t 17))]),
 oO 19 (.call 24 [(.t 18)] none),
 oM 20 0,
 oM 21 1,
 oO 22 (.slice 1 (.t 20) (some (.t 21)) none none),
 oO 23 (.bldSl false 1 1 (.sl []) [(0,(.t 22))]),
 oO 24 (.call 24 [(.t 23)] none),
 oM 4 19,
 oM 5 24,
 oO 6 (.mv (.k (.c (.d (.bool true)))))])
 (.ret))),
 [(4,none),(5,none),(6,none)]⟩
theorem cf_cut:compFn Tryd.prog { own:=[],comp:=[],frz:=[],nils:=[] } Tryd.f47=some sf_cut:=by kernel_rfl
set_option maxHeartbeats 800000 in
theorem cut_in (G:Glob) (b:List UInt8) (n:Nat) (h:n≤b.length) (hb:b.length≤1099511627776):Den Tryd.prog G 47 [.sl (b.map bD),.int .i64 (n:Int)] (.tup [.c (.d (.sl ((b.take n).map bD))),.c (.d (.sl ((b.drop n).map bD))),.c (.d (.bool true))]):=by
  refine den_walk Tryd.func47 cf_cut rfl rfl ?_
  have c1:=join_c G [b.take n] (by simp) (by simp; omega)
  have c2:=join_c G [b.drop n] (by simp) (by simp; omega)
  simp only[List.map_cons,List.map_nil,List.flatten_cons,List.flatten_nil,List.append_nil] at c1 c2
  have et:(b.drop n).take (b.length-n)=b.drop n:=List.take_of_length_le (by simp)
  have g:((n:Int)>(b.length:Int))=False:=eq_false (by omega)
  simp only[sf_cut,putAll,wal,stV,seval,iteOmega,toNatUp,reduceCtorEq,g]
  refine sC (c1) ?_
  simp only[et,wal,stV,seval,iteOmega,toNatUp,reduceCtorEq]
  refine sC (c2) ?_
  simp only[et,wal,stV,seval,iteOmega,toNatUp,reduceCtorEq]
  exact qd3
theorem cut_no (G:Glob) (b:List UInt8) (n:Int) (h:n<0∨(b.length:Int)<n):Den Tryd.prog G 47 [.sl (b.map bD),.int .i64 n] (.tup [.c (.d (.sl [])),.c (.d (.sl [])),.c (.d (.bool false))]):=by
  refine den_walk Tryd.func47 cf_cut rfl rfl ?_
  rcases Int.lt_or_le n 0 with h1 | h1
  ·simp only[sf_cut,putAll,wal,stV,seval,iteOmega,toNatUp,reduceCtorEq]
   exact ret_d3 (by simp only[wal,stV,seval,iteOmega,toNatUp,reduceCtorEq] <;> rfl) (by simp only[wal,stV,seval,iteOmega,toNatUp,reduceCtorEq] <;> rfl) (by simp only[wal,stV,seval,iteOmega,toNatUp,reduceCtorEq])
  ·have g:(n>(b.length:Int))=True:=eq_true (by omega)
   simp only[sf_cut,putAll,wal,stV,seval,iteOmega,toNatUp,reduceCtorEq,g]
   exact ret_d3 (by simp only[wal,stV,seval,iteOmega,toNatUp,reduceCtorEq] <;> rfl) (by simp only[wal,stV,seval,iteOmega,toNatUp,reduceCtorEq] <;> rfl) (by simp only[wal,stV,seval,iteOmega,toNatUp,reduceCtorEq])
end Go.Proofs.YtbkhllchjbjhgaaDoor
namespace Go.Proofs.YtbkhllchjbjhgaaDoor
open Go.RowKit IntWalk
def sf_wkey:SFn:=⟨1,5,
 .seq (.reg [oO 2 (.mv (.k (.c .nil)))])
 (.seq (.reg [oM 3 0,
 oO 4 (.call 9 [(.t 3),(kI 32)] none),
 oM 2 4])
 (.ret)),
 [(2,none)]⟩
theorem cf_wkey:compFn Tryd.prog { own:=[],comp:=[],frz:=[],nils:=[] } Tryd.f19=some sf_wkey:=by kernel_rfl
theorem wkey_c (G:Glob) (seed:Int):Den Tryd.prog G 19 [.int .i64 seed] (.w (.c (.d (.sl ((bytesK seed 32).map bD))))):=by
  refine den_walk Tryd.func19 cf_wkey rfl rfl ?_
  simp only[sf_wkey,putAll,wal,stV,seval,iteOmega,toNatUp,reduceCtorEq]
  refine sD (wbytes_c G seed 32 (by decide)) ?_
  exact qd1
end Go.Proofs.YtbkhllchjbjhgaaDoor
namespace Go.Proofs.YtbkhllchjbjhgaaDoor
open Go.RowKit IntWalk
def sf_wfew:SFn:=⟨2,14,
 .seq (.reg [oO 4 (.mv (.k (.c .nil)))])
 (.seq (.reg [oM 5 0,
 oM 6 0,
 oO 7 (.len (.t 6)),
 oM 8 1,
 oO 9 (.max [(.t 8),(kI 0)]),
 oO 10 (.min [(.t 7),(.t 9)]),
 oO 11 (.slice 1 (.t 5) none (some (.t 10)) none),
 oO 12 (.bldSl false 1 1 (.sl []) [(0,(.t 11))]),
 oO 13 (.call 16 [(.t 12)] (some (0,1))),
 oM 4 13])
 (.ret)),
 [(4,none)]⟩
theorem cf_wfew:compFn Tryd.prog { own:=[13],comp:=[],frz:=[],nils:=[] } Tryd.f8=some sf_wfew:=by kernel_rfl
set_option maxHeartbeats 800000 in
theorem wfew_f (G:Glob) (l:List UInt8) (n:Nat) (hl:l.length≤9223372036854775807) (hn:n≤1000000):Den Tryd.prog G 8 [.sl (l.map bD),.int .i64 (n:Int)] (.w (.c (.fr 1 ((l.take n).map bD)))):=by
  refine den_walk Tryd.func8 cf_wfew rfl rfl ?_
  have cj:=rjoin_c G [l.take n] (by simp) (by simp; omega)
  simp only[List.map_cons,List.map_nil,List.flatten_cons,List.flatten_nil,List.append_nil] at cj
  rcases Nat.eq_zero_or_pos n with h0 | h0
  ·subst h0
   have e1:((0:Int)>((0:Nat):Int))=False:=eq_false (by omega)
   have e2:((0:Int)<(l.length:Int))∨l.length=0:=by omega
   rcases e2 with e2 | e2
   ·simp only[sf_wfew,putAll,wal,stV,seval,iteOmega,toNatUp,reduceCtorEq,List.foldl_cons,List.foldl_nil]
    refine st_call cj (by simp only[wal,stV,seval,iteOmega,toNatUp,reduceCtorEq]) (.inl rfl) ?_
    simp only[wal,stV,seval,iteOmega,toNatUp,reduceCtorEq]
    exact qf1
   ·have hl0:l=[]:=List.length_eq_zero_iff.1 e2
    subst hl0
    simp only[sf_wfew,putAll,wal,stV,seval,iteOmega,toNatUp,reduceCtorEq,List.foldl_cons,List.foldl_nil]
    refine st_call cj (by simp only[wal,stV,seval,iteOmega,toNatUp,reduceCtorEq]) (.inl rfl) ?_
    simp only[wal,stV,seval,iteOmega,toNatUp,reduceCtorEq]
    exact qf1
  ·have e1:((0:Int)>(n:Int))=False:=eq_false (by omega)
   rcases Nat.lt_or_ge n l.length with h1 | h1
   ·simp only[sf_wfew,putAll,wal,stV,seval,iteOmega,toNatUp,reduceCtorEq,e1,List.foldl_cons,List.foldl_nil]
    refine st_call cj (by simp only[wal,stV,seval,iteOmega,toNatUp,reduceCtorEq]) (.inl rfl) ?_
    simp only[wal,stV,seval,iteOmega,toNatUp,reduceCtorEq]
    exact qf1
   ·have e3:l.take n=l:=List.take_of_length_le h1
    rw[e3] at cj ⊢
    simp only[sf_wfew,putAll,wal,stV,seval,iteOmega,toNatUp,reduceCtorEq,e1,List.foldl_cons,List.foldl_nil]
    refine st_call cj (by simp only[wal,stV,seval,iteOmega,toNatUp,reduceCtorEq]) (.inl rfl) ?_
    simp only[wal,stV,seval,iteOmega,toNatUp,reduceCtorEq]
    exact qf1
end Go.Proofs.YtbkhllchjbjhgaaDoor
