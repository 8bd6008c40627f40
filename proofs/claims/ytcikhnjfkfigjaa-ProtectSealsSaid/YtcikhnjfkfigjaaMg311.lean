/- Texts of one's own, merged: from: Layer 1 on data: Put,Get,Same,Join,Hex: what they return. Own work. -/
import Derived.Test.YtcikhnjfkfigjaaProg
import Derived.Test.YtcikhnjfkfigjaaMg37
set_option linter.unusedVariables false
set_option linter.unusedSimpArgs false
namespace Go.Proofs.Ytcikhnjfkfigjaa
open Go.RowKit IntWalk
set_option maxHeartbeats 400000
theorem stO_bs {l:List UInt8} {i:Nat} {x:D} (hi:i<l.length) (hx:x.one=true):stO .sc (.c (.d x)) i 0 (.row 1 (l.map bD))=some (.row 1 ((l.map bD).set i x)):=by
  simp[stO,get_map,List.getElem?_eq_getElem hi,bD,pureW,hx]
theorem stO_ws {l:List UInt32} {i:Nat} {x:D} (hi:i<l.length) (hx:x.one=true):stO .sc (.c (.d x)) i 0 (.row 1 (l.map wD))=some (.row 1 ((l.map wD).set i x)):=by
  simp[stO,get_map,List.getElem?_eq_getElem hi,wD,pureW,hx]
theorem set_bs (l:List UInt8) (i:Nat) (x:UInt8):(l.map bD).set i (bD x)=(l.set i x).map bD:=set_map bD l i x
theorem set_ws (l:List UInt32) (i:Nat) (x:UInt32):(l.map wD).set i (wD x)=(l.set i x).map wD:=set_map wD l i x
theorem rep_b (n:Nat):List.replicate n (D.int .u8 0)=(List.replicate n (0:UInt8)).map bD:=by simp[bD]
def putL (v n:Nat):List UInt8:=(List.range n).map fun i=>UInt8.ofNat (v / 256^(n-1-i))
def putS (v n m:Nat):List UInt8:=List.replicate m 0++(putL v n).drop m
def putN (v:Nat) (n:Int):List UInt8:=if 0≤n∧n≤64 then putL v n.toNat else []
theorem putL_length (v n:Nat):(putL v n).length=n:=by simp[putL]
theorem putS_length (v n m:Nat) (h:m≤n):(putS v n m).length=n:=by simp[putS,putL_length]; omega
theorem putS_zero (v n:Nat):putS v n 0=putL v n:=by simp[putS]
theorem putS_full (v n:Nat):putS v n n=List.replicate n 0:=by simp[putS,putL_length]
theorem putS_step (v n i:Nat) (h:i+1≤n):putS v n i=(putS v n (i+1)).set i (UInt8.ofNat (v / 256^(n-(i+1)))):=by
  apply List.ext_getElem?
  intro j
  rw[List.getElem?_set]
  have hl:i<(putL v n).length:=by rw[putL_length]; omega
  by_cases hj:i=j
  ·subst hj
   rw[if_pos rfl,if_pos (by rw[putS_length _ _ _ h]; omega)]
   simp only[putS,List.getElem?_append,List.length_replicate,Nat.lt_irrefl,if_false,Nat.sub_self,List.getElem?_drop,Nat.add_zero]
   rw[List.getElem?_eq_getElem hl]
   simp[putL,Nat.sub_sub,Nat.add_comm 1 i]
  ·rw[if_neg hj]
   simp only[putS,List.getElem?_append,List.length_replicate,List.getElem?_replicate,List.getElem?_drop]
   by_cases h1:j<i
   ·rw[if_pos h1,if_pos h1,if_pos (by omega),if_pos (by omega)]
   ·rw[if_neg h1,if_neg (by omega)]
    congr 1; omega
theorem byte_of (v:Nat):D.int .u8 (IntKind.u8.wrap (v:Int))=bD (UInt8.ofNat v):=by
  rw[IntKind.wrap_u8]
  simp[bD]
def putSt (v n m:Nat):St:=⟨ofL [(0,.w (.c (.d (.int .u64 ((v / 256^(n-m):Nat):Int))))),(5,.w (.c (.own 1 1 0 n))),(6,.w (.c (.d (.int .i64 ((m:Int)-1)))))],hL [(1,.row 1 ((putS v n m).map bD))],uL [1]⟩
def lp_put_0:SCode :=
 .seq (.seq (.reg [⟨some 17,.mv (.t 6),none⟩,
 ⟨some 18,.bin .geq (.t 17) (.k (.c (.d (.int .i64 0)))),none⟩])
 (.cond (.t 18) (.skip)
 (.exit 0)))
 (.seq (.block 1 (.seq (.reg [⟨some 21,.mv (.t 5),none⟩,
 ⟨some 22,.mv (.t 6),none⟩,
 ⟨some 23,.mv (.t 0),none⟩,
 ⟨some 24,.conv .u8 (.t 23),none⟩,
 ⟨some 25,.idxSl 1 (.t 21) (.t 22),none⟩,
 ⟨none,.store .sc (.t 25) (.t 24),none⟩])
 (.reg [⟨some 26,.mv (.t 0),none⟩,
 ⟨some 27,.bin .shr (.t 26) (.k (.c (.d (.int .u64 8)))),none⟩,
 ⟨some 0,.mv (.t 27),none⟩])))
 (.reg [⟨some 19,.mv (.t 6),none⟩,
 ⟨some 20,.bin .sub (.t 19) (.k (.c (.d (.int .i64 1)))),none⟩,
 ⟨some 6,.mv (.t 20),none⟩]))
def sf_put:SFn:=⟨2,29,
 .seq (.reg [⟨some 4,.mv (.k (.c .nil)),none⟩])
 (.seq (.seq (.reg [⟨some 7,.mv (.t 1),none⟩,
 ⟨some 8,.bin .lss (.t 7) (.k (.c (.d (.int .i64 0)))),none⟩,
 ⟨some 9,.mv (.t 8),none⟩,
 ⟨some 10,.mv (.t 1),some (9,false)⟩,
 ⟨some 11,.bin .gtr (.t 10) (.k (.c (.d (.int .i64 64)))),some (9,false)⟩,
 ⟨some 12,.pick (.t 9) (.k (.c (.d (.bool true)))) (.t 11),none⟩])
 (.cond (.t 12) (.seq (.reg [⟨some 4,.mv (.k (.c .nil)),none⟩])
 (.ret))
 (.skip)))
 (.seq (.reg [⟨some 13,.mv (.t 1),none⟩,
 ⟨some 14,.make 1 1 (.int .u8 0) (.t 13) (.t 13),none⟩,
 ⟨some 5,.mv (.t 14),none⟩])
 (.seq (.seq (.reg [⟨some 15,.mv (.t 1),none⟩,
 ⟨some 16,.bin .sub (.t 15) (.k (.c (.d (.int .i64 1)))),none⟩,
 ⟨some 6,.mv (.t 16),none⟩])
 (.block 0 (.loop lp_put_0)))
 (.seq (.reg [⟨some 28,.mv (.t 5),none⟩,
 ⟨some 4,.mv (.t 28),none⟩])
 (.ret))))),
 [(4,none)]⟩
theorem cf_put:compFn Try.prog { own:=[],comp:=[],frz:=[],nils:=[] } Try.f54=some sf_put:=by kernel_rfl
theorem put_in (G:Glob) (v n:Nat) (hn:n≤64):Den Try.prog G 54 [.int .u64 v,.int .i64 n] (.w (.c (.fr 1 ((putL v n).map bD)))):=by
  refine den_walk Try.func54 cf_put rfl rfl ?_
  have e1:IntKind.i64.wrap ((n:Int)-1)=(n:Int)-1:=IntWalk.i64_in _ (by omega)
  simp only[sf_put,putAll,wx,stV,seval,iteOmega,toNatUp,reduceCtorEq,e1]
  refine loop_st (putSt v n) (fun m=>m) (fun m=>m≤n) n (Nat.le_refl _) ?_ ?_
  ·refine ent_l (fun _=>112) ?_ ?_ rfl rfl <;> simp only[wx,wex,stV,seval,iteOmega,toNatUp,reduceCtorEq,putS_full,rep_b,Nat.sub_self,Nat.pow_zero,Nat.div_one]
  ·intro m hm
   rcases Nat.eq_zero_or_pos m with rfl | hpos
   ·simp only[lp_put_0,putSt,wx,stV,seval,iteOmega,toNatUp,reduceCtorEq,putS_zero]
    refine ret_own (id:=1) (n:=n) (s:=1) ?_ ?_ ?_ <;> simp only[wx,stV,seval,iteOmega,toNatUp,reduceCtorEq,putL_length]
   ·obtain⟨i,rfl⟩:∃ i,m=i+1:=⟨m-1,by omega⟩
    have e2:((i+1:Nat):Int)-1=(i:Int):=by omega
    have hlt:i<(putS v n (i+1)).length:=by rw[putS_length _ _ _ hm]; omega
    have e3:IntKind.i64.wrap ((i:Int)-1)=(i:Int)-1:=IntWalk.i64_in _ (by omega)
    simp only[lp_put_0,putSt,wx,stV,seval,iteOmega,toNatUp,reduceCtorEq,e2,e3,Nat.zero_add,Nat.add_zero,byte_of,stO_bs hlt (one_b _),set_bs,← putS_step _ _ _ hm,IntKind.bits]
    refine lop_next i (by omega) (by omega) (ent_l id ?_ ?_ rfl rfl) <;> simp only[wx,wex,stV,seval,iteOmega,toNatUp,reduceCtorEq]
    have e4:v / 256^(n-(i+1)) / 256=v / 256^(n-i):=by
      rw[show n-i=n-(i+1)+1 by omega,Nat.pow_succ,← Nat.div_div_eq_div_mul]
    simpa using congrArg (Nat.cast:Nat→Int) e4
theorem put_c (G:Glob) (v:Nat) (n:Int):Den Try.prog G 54 [.int .u64 v,.int .i64 n] (.w (.c (.fr 1 ((putN v n).map bD)))):=by
  unfold putN
  by_cases h:0≤n∧n≤64
  ·rw[if_pos h]
   obtain⟨n,rfl⟩:=Int.eq_ofNat_of_zero_le h.1
   exact put_in G v n (by omega)
  ·rw[if_neg h]
   refine den_walk Try.func54 cf_put rfl rfl ?_
   by_cases h0:n<0
   ·simp only[sf_put,putAll,wx,stV,seval,iteOmega,toNatUp,reduceCtorEq]
    exact ret_nil (by simp[wx,stV,seval,iteOmega,toNatUp,reduceCtorEq])
   ·have h1:64<n:=by omega
    simp only[sf_put,putAll,wx,stV,seval,iteOmega,toNatUp,reduceCtorEq]
    exact ret_nil (by simp[wx,stV,seval,iteOmega,toNatUp,reduceCtorEq])
def lp_rput_0:SCode :=
 .seq (.seq (.reg [⟨some 17,.mv (.t 6),none⟩,
 ⟨some 18,.bin .geq (.t 17) (.k (.c (.d (.int .i64 0)))),none⟩])
 (.cond (.t 18) (.skip)
 (.exit 0)))
 (.seq (.block 1 (.seq (.reg [⟨some 21,.mv (.t 5),none⟩,
 ⟨some 22,.mv (.t 6),none⟩,
 ⟨some 23,.mv (.t 0),none⟩,
 ⟨some 24,.conv .u8 (.t 23),none⟩,
 ⟨some 25,.idxSl 1 (.t 21) (.t 22),none⟩,
 ⟨none,.store .sc (.t 25) (.t 24),none⟩])
 (.reg [⟨some 26,.mv (.t 0),none⟩,
 ⟨some 27,.bin .shr (.t 26) (.k (.c (.d (.int .u64 8)))),none⟩,
 ⟨some 0,.mv (.t 27),none⟩])))
 (.reg [⟨some 19,.mv (.t 6),none⟩,
 ⟨some 20,.bin .sub (.t 19) (.k (.c (.d (.int .i64 1)))),none⟩,
 ⟨some 6,.mv (.t 20),none⟩]))
def sf_rput:SFn:=⟨2,29,
 .seq (.reg [⟨some 4,.mv (.k (.c .nil)),none⟩])
 (.seq (.seq (.reg [⟨some 7,.mv (.t 1),none⟩,
 ⟨some 8,.bin .lss (.t 7) (.k (.c (.d (.int .i64 0)))),none⟩,
 ⟨some 9,.mv (.t 8),none⟩,
 ⟨some 10,.mv (.t 1),some (9,false)⟩,
 ⟨some 11,.bin .gtr (.t 10) (.k (.c (.d (.int .i64 64)))),some (9,false)⟩,
 ⟨some 12,.pick (.t 9) (.k (.c (.d (.bool true)))) (.t 11),none⟩])
 (.cond (.t 12) (.seq (.reg [⟨some 4,.mv (.k (.c .nil)),none⟩])
 (.ret))
 (.skip)))
 (.seq (.reg [⟨some 13,.mv (.t 1),none⟩,
 ⟨some 14,.make 1 1 (.int .u8 0) (.t 13) (.t 13),none⟩,
 ⟨some 5,.mv (.t 14),none⟩])
 (.seq (.seq (.reg [⟨some 15,.mv (.t 1),none⟩,
 ⟨some 16,.bin .sub (.t 15) (.k (.c (.d (.int .i64 1)))),none⟩,
 ⟨some 6,.mv (.t 16),none⟩])
 (.block 0 (.loop lp_rput_0)))
 (.seq (.reg [⟨some 28,.mv (.t 5),none⟩,
 ⟨some 4,.mv (.t 28),none⟩])
 (.ret))))),
 [(4,none)]⟩
theorem cf_rput:compFn Try.prog { own:=[],comp:=[],frz:=[],nils:=[] } Try.f27=some sf_rput:=by kernel_rfl
theorem rput_in (G:Glob) (v n:Nat) (hn:n≤64):Den Try.prog G 27 [.int .u64 v,.int .i64 n] (.w (.c (.fr 1 ((putL v n).map bD)))):=by
  refine den_walk Try.func27 cf_rput rfl rfl ?_
  have e1:IntKind.i64.wrap ((n:Int)-1)=(n:Int)-1:=IntWalk.i64_in _ (by omega)
  simp only[sf_rput,putAll,wx,stV,seval,iteOmega,toNatUp,reduceCtorEq,e1]
  refine loop_st (putSt v n) (fun m=>m) (fun m=>m≤n) n (Nat.le_refl _) ?_ ?_
  ·refine ent_l (fun _=>112) ?_ ?_ rfl rfl <;> simp only[wx,wex,stV,seval,iteOmega,toNatUp,reduceCtorEq,putS_full,rep_b,Nat.sub_self,Nat.pow_zero,Nat.div_one]
  ·intro m hm
   rcases Nat.eq_zero_or_pos m with rfl | hpos
   ·simp only[lp_rput_0,putSt,wx,stV,seval,iteOmega,toNatUp,reduceCtorEq,putS_zero]
    refine ret_own (id:=1) (n:=n) (s:=1) ?_ ?_ ?_ <;> simp only[wx,stV,seval,iteOmega,toNatUp,reduceCtorEq,putL_length]
   ·obtain⟨i,rfl⟩:∃ i,m=i+1:=⟨m-1,by omega⟩
    have e2:((i+1:Nat):Int)-1=(i:Int):=by omega
    have hlt:i<(putS v n (i+1)).length:=by rw[putS_length _ _ _ hm]; omega
    have e3:IntKind.i64.wrap ((i:Int)-1)=(i:Int)-1:=IntWalk.i64_in _ (by omega)
    simp only[lp_rput_0,putSt,wx,stV,seval,iteOmega,toNatUp,reduceCtorEq,e2,e3,Nat.zero_add,Nat.add_zero,byte_of,stO_bs hlt (one_b _),set_bs,← putS_step _ _ _ hm,IntKind.bits]
    refine lop_next i (by omega) (by omega) (ent_l id ?_ ?_ rfl rfl) <;> simp only[wx,wex,stV,seval,iteOmega,toNatUp,reduceCtorEq]
    have e4:v / 256^(n-(i+1)) / 256=v / 256^(n-i):=by
      rw[show n-i=n-(i+1)+1 by omega,Nat.pow_succ,← Nat.div_div_eq_div_mul]
    simpa using congrArg (Nat.cast:Nat→Int) e4
theorem rput_c (G:Glob) (v:Nat) (n:Int):Den Try.prog G 27 [.int .u64 v,.int .i64 n] (.w (.c (.fr 1 ((putN v n).map bD)))):=by
  unfold putN
  by_cases h:0≤n∧n≤64
  ·rw[if_pos h]
   obtain⟨n,rfl⟩:=Int.eq_ofNat_of_zero_le h.1
   exact rput_in G v n (by omega)
  ·rw[if_neg h]
   refine den_walk Try.func27 cf_rput rfl rfl ?_
   by_cases h0:n<0
   ·simp only[sf_rput,putAll,wx,stV,seval,iteOmega,toNatUp,reduceCtorEq]
    exact ret_nil (by simp[wx,stV,seval,iteOmega,toNatUp,reduceCtorEq])
   ·have h1:64<n:=by omega
    simp only[sf_rput,putAll,wx,stV,seval,iteOmega,toNatUp,reduceCtorEq]
    exact ret_nil (by simp[wx,stV,seval,iteOmega,toNatUp,reduceCtorEq])
theorem toList_mk (l:List UInt8):(⟨l.toArray⟩:ByteArray).toList=l:=Go.ByteArray.toList_mk l
theorem binS_same (l m:List UInt8):binS .eql ⟨l.toArray⟩ ⟨m.toArray⟩=some (.bool (l==m)):=by
  simp only[binS,toList_mk]
def sf_rsame:SFn:=⟨2,10,
 .seq (.reg [⟨some 4,.mv (.k (.c (.d (.bool false)))),none⟩])
 (.seq (.reg [⟨some 5,.mv (.t 0),none⟩,
 ⟨some 6,.b2s (.t 5),none⟩,
 ⟨some 7,.mv (.t 1),none⟩,
 ⟨some 8,.b2s (.t 7),none⟩,
 ⟨some 9,.bin .eql (.t 6) (.t 8),none⟩,
 ⟨some 4,.mv (.t 9),none⟩])
 (.ret)),
 [(4,none)]⟩
theorem cf_rsame:compFn Try.prog { own:=[],comp:=[],frz:=[],nils:=[] } Try.f22=some sf_rsame:=by kernel_rfl
theorem rsame_c (G:Glob) (l m:List UInt8):Den Try.prog G 22 [.sl (l.map bD),.sl (m.map bD)] (.w (.c (.d (.bool (l==m))))):=by
  refine den_walk Try.func22 cf_rsame rfl rfl ?_
  simp only[sf_rsame,putAll,wx,stV,seval,iteOmega,toNatUp,reduceCtorEq,ofBs_map,binS_same]
  exact ret_d (by simp only[wx,stV,seval,iteOmega,toNatUp,reduceCtorEq])
theorem allSz_ls (ls:List (List UInt8)):allSz 1 (ls.map fun l=>D.sl (l.map bD))=true:=allSz_map _ (fun _=>rfl) ls
def rjoinSt (ls:List (List UInt8)) (i:Nat):St:=⟨ofL [(0,.w (.c (.d (.sl (ls.map fun l=>D.sl (l.map bD)))))),(3,.w (.c (.own 1 1 0 ((ls.take i).flatten).length))),(4,.w (.c (.d (.int .i64 (i:Int)))))],hL [(1,.row 1 (((ls.take i).flatten).map bD))],uL [1]⟩
theorem take_flat {α:Type} (ls:List (List α)) (i:Nat) (h:i<ls.length):(ls.take (i+1)).flatten=(ls.take i).flatten++ls[i]:=by
  rw[List.take_succ_eq_append_getElem h,List.flatten_append]; simp
theorem flat_le {α:Type} (ls:List (List α)) (i:Nat) (h:i<ls.length):(ls.take i).flatten.length+ls[i].length≤ls.flatten.length:=by
  have h1:=take_flat ls i h
  have h2:ls.flatten=(ls.take (i+1)).flatten++(ls.drop (i+1)).flatten:=by rw[← List.flatten_append,List.take_append_drop]
  have h3:=congrArg List.length h2
  rw[List.length_append,h1,List.length_append] at h3
  omega
def lp_rjoin_0:SCode :=
 .seq (.seq (.reg [⟨some 6,.mv (.t 4),none⟩,
 ⟨some 7,.mv (.t 0),none⟩,
 ⟨some 8,.len (.t 7),none⟩,
 ⟨some 9,.bin .lss (.t 6) (.t 8),none⟩])
 (.cond (.t 9) (.skip)
 (.exit 0)))
 (.seq (.block 1 (.reg [⟨some 12,.mv (.t 3),none⟩,
 ⟨some 13,.mv (.t 0),none⟩,
 ⟨some 14,.mv (.t 4),none⟩,
 ⟨some 15,.idxSl 1 (.t 13) (.t 14),none⟩,
 ⟨some 16,.load .sc (.t 15),none⟩,
 ⟨some 17,.app false 1 1 (.t 12) (.t 16),none⟩,
 ⟨some 3,.mv (.t 17),none⟩]))
 (.reg [⟨some 10,.mv (.t 4),none⟩,
 ⟨some 11,.bin .add (.t 10) (.k (.c (.d (.int .i64 1)))),none⟩,
 ⟨some 4,.mv (.t 11),none⟩]))
def sf_rjoin:SFn:=⟨1,19,
 .seq (.reg [⟨some 2,.mv (.k (.c .nil)),none⟩])
 (.seq (.reg [⟨some 5,.bldSl true 0 1 (.int .u8 0) [],none⟩,
 ⟨some 3,.mv (.t 5),none⟩])
 (.seq (.seq (.reg [⟨some 4,.mv (.k (.c (.d (.int .i64 0)))),none⟩])
 (.block 0 (.loop lp_rjoin_0)))
 (.seq (.reg [⟨some 18,.mv (.t 3),none⟩,
 ⟨some 2,.mv (.t 18),none⟩])
 (.ret)))),
 [(2,none)]⟩
theorem cf_rjoin:compFn Try.prog { own:=[5],comp:=[],frz:=[],nils:=[] } Try.f26=some sf_rjoin:=by kernel_rfl
theorem rjoin_c (G:Glob) (ls:List (List UInt8)) (hl:ls.length≤9223372036854775807) (hf:ls.flatten.length≤140737488355328):Den Try.prog G 26 [.sl (ls.map fun l=>D.sl (l.map bD))] (.w (.c (.fr 1 (ls.flatten.map bD)))):=by
  refine den_walk Try.func26 cf_rjoin rfl rfl ?_
  simp only[sf_rjoin,putAll,wx,stV,seval,iteOmega,toNatUp,reduceCtorEq]
  refine loop_st (rjoinSt ls) (fun i=>ls.length-i) (fun i=>i≤ls.length) 0 (Nat.zero_le _) ?_ ?_
  ·refine ent_l (fun _=>40) ?_ ?_ rfl rfl <;> simp only[wx,wex,stV,seval,iteOmega,toNatUp,reduceCtorEq]
  ·intro i hi
   by_cases hlt:i<ls.length
   ·have e2:ls[i]?=some ls[i]:=List.getElem?_eq_getElem hlt
    have e4:IntKind.i64.wrap ((i:Int)+1)=((i+1:Nat):Int):=by rw[IntWalk.i64_in _ (by omega)]; rfl
    have h5:=flat_le ls i hlt
    simp only[lp_rjoin_0,rjoinSt,wx,stV,seval,iteOmega,toNatUp,reduceCtorEq,get_map,e2,e4,Nat.mul_one,srcV]
    refine lop_next (i+1) (by omega) (by omega) (ent_l (fun _=>136) ?_ ?_ rfl rfl) <;> simp only[wx,wex,stV,seval,iteOmega,toNatUp,reduceCtorEq,take_flat ls i hlt]
   ·have:ls.take i=ls:=List.take_of_length_le (by omega)
    simp only[lp_rjoin_0,rjoinSt,wx,stV,seval,iteOmega,toNatUp,reduceCtorEq,this]
    refine ret_own (id:=1) (n:=ls.flatten.length) (s:=1) ?_ ?_ ?_ <;> simp only[wx,stV,seval,iteOmega,toNatUp,reduceCtorEq]
def joinSt1 (ls:List (List UInt8)) (i:Nat):St:=⟨ofL [(0,.w (.c (.d (.sl (ls.map fun l=>D.sl (l.map bD)))))),(3,.w (.c (.d (.int .i64 (((ls.take i).flatten).length:Int))))),(9,.w (.c (.d (.sl (ls.map fun l=>D.sl (l.map bD)))))),(10,.w (.c (.d (.int .i64 (ls.length:Int))))),(11,.w (.c (.d (.int .i64 (i:Int)))))],hL [],uL []⟩
def joinSt2 (ls:List (List UInt8)) (i:Nat):St:=⟨ofL [(6,.w (.c (.own 1 1 0 ((ls.take i).flatten).length))),(22,.w (.c (.d (.sl (ls.map fun l=>D.sl (l.map bD)))))),(23,.w (.c (.d (.int .i64 (ls.length:Int))))),(24,.w (.c (.d (.int .i64 (i:Int)))))],hL [(1,.row 1 (((ls.take i).flatten).map bD))],uL [1]⟩
def lp_join_0:SCode :=
 .seq (.reg [⟨some 12,.bin .lss (.t 11) (.t 10),none⟩])
 (.seq (.cond (.t 12) (.skip)
 (.exit 0))
 (.seq (.block 1 (.seq (.reg [⟨some 13,.idxSl 1 (.t 9) (.t 11),none⟩,
 ⟨some 14,.load .sc (.t 13),none⟩,
 ⟨some 5,.mv (.t 14),none⟩])
 (.reg [⟨some 15,.mv (.t 3),none⟩,
 ⟨some 16,.mv (.t 5),none⟩,
 ⟨some 17,.len (.t 16),none⟩,
 ⟨some 18,.bin .add (.t 15) (.t 17),none⟩,
 ⟨some 3,.mv (.t 18),none⟩])))
 (.reg [⟨some 19,.bin .add (.t 11) (.k (.c (.d (.int .i64 1)))),none⟩,
 ⟨some 11,.mv (.t 19),none⟩])))
def lp_join_1:SCode :=
 .seq (.reg [⟨some 25,.bin .lss (.t 24) (.t 23),none⟩])
 (.seq (.cond (.t 25) (.skip)
 (.exit 2))
 (.seq (.block 3 (.seq (.reg [⟨some 26,.idxSl 1 (.t 22) (.t 24),none⟩,
 ⟨some 27,.load .sc (.t 26),none⟩,
 ⟨some 8,.mv (.t 27),none⟩])
 (.reg [⟨some 28,.mv (.t 6),none⟩,
 ⟨some 29,.mv (.t 8),none⟩,
 ⟨some 30,.app false 1 1 (.t 28) (.t 29),none⟩,
 ⟨some 6,.mv (.t 30),none⟩])))
 (.reg [⟨some 31,.bin .add (.t 24) (.k (.c (.d (.int .i64 1)))),none⟩,
 ⟨some 24,.mv (.t 31),none⟩])))
def sf_join:SFn:=⟨1,33,
 .seq (.reg [⟨some 2,.mv (.k (.c .nil)),none⟩])
 (.seq (.reg [⟨some 3,.mv (.k (.c (.d (.int .i64 0)))),none⟩])
 (.seq (.seq (.reg [⟨some 9,.mv (.t 0),none⟩,
 ⟨some 10,.len (.t 9),none⟩,
 ⟨some 11,.mv (.k (.c (.d (.int .i64 0)))),none⟩])
 (.block 0 (.loop lp_join_0)))
 (.seq (.reg [⟨some 20,.mv (.t 3),none⟩,
 ⟨some 21,.make 1 1 (.int .u8 0) (.k (.c (.d (.int .i64 0)))) (.t 20),none⟩,
 ⟨some 6,.mv (.t 21),none⟩])
 (.seq (.seq (.reg [⟨some 22,.mv (.t 0),none⟩,
 ⟨some 23,.len (.t 22),none⟩,
 ⟨some 24,.mv (.k (.c (.d (.int .i64 0)))),none⟩])
 (.block 2 (.loop lp_join_1)))
 (.seq (.reg [⟨some 32,.mv (.t 6),none⟩,
 ⟨some 2,.mv (.t 32),none⟩])
 (.ret)))))),
 [(2,none)]⟩
theorem cf_join:compFn Try.prog { own:=[],comp:=[],frz:=[],nils:=[] } Try.f40=some sf_join:=by kernel_rfl
theorem join_c (G:Glob) (ls:List (List UInt8)) (hl:ls.length≤9223372036854775807) (hf:ls.flatten.length≤140737488355328):Den Try.prog G 40 [.sl (ls.map fun l=>D.sl (l.map bD))] (.w (.c (.fr 1 (ls.flatten.map bD)))):=by
  refine den_walk Try.func40 cf_join rfl rfl ?_
  simp only[sf_join,putAll,wx,stV,seval,iteOmega,toNatUp,reduceCtorEq]
  refine loop_st (joinSt1 ls) (fun i=>ls.length-i) (fun i=>i≤ls.length) 0 (Nat.zero_le _) ?_ ?_
  ·refine ent_l id ?_ ?_ rfl rfl <;> simp only[wx,wex,stV,seval,iteOmega,toNatUp,reduceCtorEq]
  ·intro i hi
   by_cases hlt:i<ls.length
   ·have e2:ls[i]?=some ls[i]:=List.getElem?_eq_getElem hlt
    have e4:IntKind.i64.wrap ((i:Int)+1)=((i+1:Nat):Int):=by rw[IntWalk.i64_in _ (by omega)]; rfl
    have h5:=flat_le ls i hlt
    have e5:IntKind.i64.wrap (((ls.take i).flatten.length:Int)+(ls[i].length:Int))=(((ls.take (i+1)).flatten.length:Nat):Int):=by
      rw[take_flat ls i hlt,List.length_append,IntWalk.i64_in _ (by omega)]; rfl
    simp only[lp_join_0,joinSt1,wx,stV,seval,iteOmega,toNatUp,reduceCtorEq,get_map,e2,e4,e5]
    refine lop_next (i+1) (by omega) (by omega) (ent_l id ?_ ?_ rfl rfl) <;> simp only[wx,wex,stV,seval,iteOmega,toNatUp,reduceCtorEq]
   ·have:ls.take i=ls:=List.take_of_length_le (by omega)
    simp only[lp_join_0,joinSt1,wx,stV,seval,iteOmega,toNatUp,reduceCtorEq,this,Nat.mul_one]
    refine loop_st (joinSt2 ls) (fun i=>ls.length-i) (fun i=>i≤ls.length) 0 (Nat.zero_le _) ?_ ?_
    ·refine ent_l (fun _=>168) ?_ ?_ rfl rfl <;> simp only[wx,wex,stV,seval,iteOmega,toNatUp,reduceCtorEq]
    ·intro i hi
     by_cases hlt:i<ls.length
     ·have e2:ls[i]?=some ls[i]:=List.getElem?_eq_getElem hlt
      have e4:IntKind.i64.wrap ((i:Int)+1)=((i+1:Nat):Int):=by rw[IntWalk.i64_in _ (by omega)]; rfl
      have h5:=flat_le ls i hlt
      simp only[lp_join_1,joinSt2,wx,stV,seval,iteOmega,toNatUp,reduceCtorEq,get_map,e2,e4,Nat.mul_one,srcV]
      refine lop_next (i+1) (by omega) (by omega) (ent_l (fun _=>240) ?_ ?_ rfl rfl) <;> simp only[wx,wex,stV,seval,iteOmega,toNatUp,reduceCtorEq,take_flat ls i hlt]
     ·have:ls.take i=ls:=List.take_of_length_le (by omega)
      simp only[lp_join_1,joinSt2,wx,stV,seval,iteOmega,toNatUp,reduceCtorEq,this]
      refine ret_own (id:=1) (n:=ls.flatten.length) (s:=1) ?_ ?_ ?_ <;> simp only[wx,stV,seval,iteOmega,toNatUp,reduceCtorEq]
def getN (l:List UInt8):Nat:=l.foldl (fun a x=>(a*256+x.toNat)%18446744073709551616) 0
theorem getN_lt (l:List UInt8):getN l<18446744073709551616:=by
  unfold getN
  rcases List.eq_nil_or_concat l with rfl | ⟨a,x,rfl⟩
  ·simp
  ·simp only[List.concat_eq_append,List.foldl_append,List.foldl_cons,List.foldl_nil]; omega
theorem u64_in (n:Int) (h₀:0≤n) (h₁:n<2^64):IntKind.u64.wrap n=n:=by rw[IntKind.wrap_u64]; omega
theorem getN_snoc (a:List UInt8) (x:UInt8):bits .or .u64 (IntKind.u64.wrap ((getN a:Int)*256)) (x.toNat:Int)=(getN (a++[x]):Int):=by
  have hx:x.toNat<256:=x.toNat_lt
  have h1:=bits_join .u64 64 (by decide) u64_in 8 (IntKind.u64.wrap ((getN a:Int)*256)) (x.toNat:Int)
    (by rw[IntKind.wrap_u64]; omega) (by rw[IntKind.wrap_u64]; omega) (by rw[IntKind.wrap_u64]; omega) (by omega) (by omega) (by omega)
  rw[h1,IntKind.wrap_u64]
  simp only[getN,List.foldl_append,List.foldl_cons,List.foldl_nil]
  omega
theorem getN_take (l:List UInt8) (j:Nat) (h:j<l.length):bits .or .u64 (IntKind.u64.wrap ((getN (l.take j):Int)*256)) (l[j].toNat:Int)=(getN (l.take (j+1)):Int):=by
  rw[getN_snoc,List.take_succ_eq_append_getElem h]
theorem getN_app (a b:List UInt8):getN (a++b)=(getN a*256^b.length+getN b)%18446744073709551616:=by
  have key:∀ (n:Nat) (b:List UInt8),b.length=n→getN (a++b)=(getN a*256^n+getN b)%18446744073709551616:=by
    intro n
    induction n with
    | zero =>
      intro b hb
      have:b=[]:=List.eq_nil_of_length_eq_zero hb
      subst this
      have h0:getN []=0:=rfl
      rw[List.append_nil,Nat.pow_zero,h0]
      have:=getN_lt a
      omega
    | succ n ih =>
      intro b hb
      rcases List.eq_nil_or_concat b with rfl | ⟨c,x,rfl⟩
      ·simp at hb
      ·rw[List.concat_eq_append] at hb ⊢
       rw[← List.append_assoc]
       have h1:∀ l:List UInt8,getN (l++[x])=(getN l*256+x.toNat)%18446744073709551616:=fun l=>by simp[getN]
       rw[h1,h1,ih c (by simpa using hb),Nat.pow_succ]
       generalize getN a=p
       generalize getN c=q
       generalize 256^n=r
       have e:p*(r*256)=p*r*256:=by rw[Nat.mul_assoc]
       rw[e]
       generalize p*r=z
       omega
  exact key _ b rfl
theorem getN_tail (l:List UInt8) (h:8<l.length):getN (l.drop (l.length-8))=getN l:=by
  have h1:=getN_app (l.take (l.length-8)) (l.drop (l.length-8))
  rw[List.take_append_drop] at h1
  have h2:(l.drop (l.length-8)).length=8:=by rw[List.length_drop]; omega
  rw[h2] at h1
  have h3:=getN_lt (l.drop (l.length-8))
  rw[h1]
  have:(256:Nat)^8=18446744073709551616:=by decide
  rw[this]
  omega
def getSt (l:List UInt8) (i:Nat):St:=⟨ofL [(3,.w (.c (.d (.int .u64 (getN (l.take i)))))),(14,.w (.c (.d (.sl (l.map bD))))),(15,.w (.c (.d (.int .i64 (l.length:Int))))),(16,.w (.c (.d (.int .i64 (i:Int)))))],hL [],uL []⟩
def lp_get_0:SCode :=
 .seq (.reg [⟨some 17,.bin .lss (.t 16) (.t 15),none⟩])
 (.seq (.cond (.t 17) (.skip)
 (.exit 0))
 (.seq (.block 1 (.seq (.reg [⟨some 18,.idxSl 1 (.t 14) (.t 16),none⟩,
 ⟨some 19,.load .sc (.t 18),none⟩,
 ⟨some 5,.mv (.t 19),none⟩])
 (.reg [⟨some 20,.mv (.t 3),none⟩,
 ⟨some 21,.bin .shl (.t 20) (.k (.c (.d (.int .u64 8)))),none⟩,
 ⟨some 22,.mv (.t 5),none⟩,
 ⟨some 23,.conv .u64 (.t 22),none⟩,
 ⟨some 24,.bin .or (.t 21) (.t 23),none⟩,
 ⟨some 3,.mv (.t 24),none⟩])))
 (.reg [⟨some 25,.bin .add (.t 16) (.k (.c (.d (.int .i64 1)))),none⟩,
 ⟨some 16,.mv (.t 25),none⟩])))
def sf_get:SFn:=⟨1,27,
 .seq (.reg [⟨some 2,.mv (.k (.c (.d (.int .u64 0)))),none⟩])
 (.seq (.seq (.reg [⟨some 6,.mv (.t 0),none⟩,
 ⟨some 7,.len (.t 6),none⟩,
 ⟨some 8,.bin .gtr (.t 7) (.k (.c (.d (.int .i64 8)))),none⟩])
 (.cond (.t 8) (.reg [⟨some 9,.mv (.t 0),none⟩,
 ⟨some 10,.mv (.t 0),none⟩,
 ⟨some 11,.len (.t 10),none⟩,
 ⟨some 12,.bin .sub (.t 11) (.k (.c (.d (.int .i64 8)))),none⟩,
 ⟨some 13,.slice 1 (.t 9) (some (.t 12)) none none,none⟩,
 ⟨some 0,.mv (.t 13),none⟩])
 (.skip)))
 (.seq (.reg [⟨some 3,.mv (.k (.c (.d (.int .u64 0)))),none⟩])
 (.seq (.seq (.reg [⟨some 14,.mv (.t 0),none⟩,
 ⟨some 15,.len (.t 14),none⟩,
 ⟨some 16,.mv (.k (.c (.d (.int .i64 0)))),none⟩])
 (.block 0 (.loop lp_get_0)))
 (.seq (.reg [⟨some 26,.mv (.t 3),none⟩,
 ⟨some 2,.mv (.t 26),none⟩])
 (.ret))))),
 [(2,none)]⟩
theorem cf_get:compFn Try.prog { own:=[],comp:=[],frz:=[],nils:=[] } Try.f63=some sf_get:=by kernel_rfl
theorem get_l (G:Glob) (Q:AX→St→Prop) (l:List UInt8) (hl:l.length≤8) (σ:St) (he:Ent σ (getSt l 0)) (hq:∀ f,f 3=.w (.c (.d (.int .u64 (getN l))))→Q (.ex 0) ⟨f,hN,uN⟩):awp Try.prog G (.loop lp_get_0) Q σ:=by
  refine loop_st (getSt l) (fun i=>l.length-i) (fun i=>i≤l.length) 0 (Nat.zero_le _) he ?_
  intro i hi
  by_cases hlt:i<l.length
  ·have hb:=l[i].toNat_lt
   have e2:l[i]?=some l[i]:=List.getElem?_eq_getElem hlt
   have e3:IntKind.u64.wrap (l[i].toNat:Int)=(l[i].toNat:Int):=u64_in _ (by omega) (by omega)
   have e4:IntKind.i64.wrap ((i:Int)+1)=((i+1:Nat):Int):=by rw[IntWalk.i64_in _ (by omega)]; rfl
   have e5:=getN_take l i hlt
   simp only[lp_get_0,getSt,wx,stV,seval,iteOmega,toNatUp,reduceCtorEq,get_map,e2,IntKind.bits,e3,e4]
   refine lop_next (i+1) (by omega) (by omega) (ent_l id ?_ ?_ rfl rfl) <;> simp only[wx,wex,stV,seval,iteOmega,toNatUp,reduceCtorEq,← e5]
  ·have:l.take i=l:=List.take_of_length_le (by omega)
   simp only[lp_get_0,getSt,wx,stV,seval,iteOmega,toNatUp,reduceCtorEq,this]
   exact hq _ (by simp only[wx,stV,seval,iteOmega,toNatUp,reduceCtorEq])
theorem get_c (G:Glob) (l:List UInt8) (hl:l.length≤9223372036854775807):Den Try.prog G 63 [.sl (l.map bD)] (.w (.c (.d (.int .u64 (getN l))))):=by
  refine den_walk Try.func63 cf_get rfl rfl ?_
  by_cases h8:8<l.length
  ·have e0:IntKind.i64.wrap ((l.length:Int)-8)=((l.length-8:Nat):Int):=by rw[IntWalk.i64_in _ (by omega)]; omega
   have e1:(l.drop (l.length-8)).take (l.length-(l.length-8))=l.drop (l.length-8):=List.take_of_length_le (by rw[List.length_drop]; omega)
   simp only[sf_get,putAll,wx,stV,seval,iteOmega,toNatUp,reduceCtorEq,e0,e1]
   refine get_l G _ (l.drop (l.length-8)) (by rw[List.length_drop]; omega) _ ?_ fun f hf=>?_
   ·refine ent_l id ?_ ?_ rfl rfl <;> simp only[wx,wex,stV,seval,iteOmega,toNatUp,reduceCtorEq] <;> rfl
   ·rw[getN_tail l h8] at hf
    simp only[wx,stV,seval,iteOmega,toNatUp,reduceCtorEq,hf]
    exact ret_d (by simp only[wx,stV,seval,iteOmega,toNatUp,reduceCtorEq])
  ·simp only[sf_get,putAll,wx,stV,seval,iteOmega,toNatUp,reduceCtorEq]
   refine get_l G _ l (by omega) _ ?_ fun f hf=>?_
   ·refine ent_l id ?_ ?_ rfl rfl <;> simp only[wx,wex,stV,seval,iteOmega,toNatUp,reduceCtorEq] <;> rfl
   ·simp only[wx,stV,seval,iteOmega,toNatUp,reduceCtorEq,hf]
    exact ret_d (by simp only[wx,stV,seval,iteOmega,toNatUp,reduceCtorEq])
end Go.Proofs.Ytcikhnjfkfigjaa
namespace Go.Proofs.Ytcikhnjfkfigjaa
open Go.RowKit IntWalk
theorem fl_by (s:Nat) (l:List UInt8) (k:IntKind) (n:Int):V.flat (.tup [.c (.fr s (l.map bD)),.c (.d (.int k n))])=true:=by
  have:=fl_b s l
  simp only[V.flat,W.flat,List.all_cons,List.all_nil,Bool.and_true] at this ⊢
  rw[this]; rfl
def sf_beq:SFn:=⟨2,10,
 .seq (.reg [⟨some 4,.mv (.k (.c (.d (.bool false)))),none⟩])
 (.seq (.reg [⟨some 5,.mv (.t 0),none⟩,
 ⟨some 6,.b2s (.t 5),none⟩,
 ⟨some 7,.mv (.t 1),none⟩,
 ⟨some 8,.b2s (.t 7),none⟩,
 ⟨some 9,.bin .eql (.t 6) (.t 8),none⟩,
 ⟨some 4,.mv (.t 9),none⟩])
 (.ret)),
 [(4,none)]⟩
theorem cf_beq:compFn Try.prog { own:=[],comp:=[],frz:=[],nils:=[] } Try.f76=some sf_beq:=by kernel_rfl
theorem beq_c (G:Glob) (l m:List UInt8):Den Try.prog G 76 [.sl (l.map bD),.sl (m.map bD)] (.w (.c (.d (.bool (l==m))))):=by
  refine den_walk Try.func76 cf_beq rfl rfl ?_
  simp only[sf_beq,putAll,wx,stV,seval,iteOmega,toNatUp,reduceCtorEq,ofBs_map,binS_same]
  exact ret_d (by simp only[wx,stV,seval,iteOmega,toNatUp,reduceCtorEq])
def sf_same:SFn:=⟨2,8,
 .seq (.reg [⟨some 4,.mv (.k (.c (.d (.bool false)))),none⟩])
 (.seq (.reg [⟨some 5,.mv (.t 0),none⟩,
 ⟨some 6,.mv (.t 1),none⟩,
 ⟨some 7,.call 76 [(.t 5),(.t 6)] none,none⟩,
 ⟨some 4,.mv (.t 7),none⟩])
 (.ret)),
 [(4,none)]⟩
theorem cf_same:compFn Try.prog { own:=[],comp:=[],frz:=[],nils:=[] } Try.f64=some sf_same:=by kernel_rfl
theorem same_c (G:Glob) (l m:List UInt8):Den Try.prog G 64 [.sl (l.map bD),.sl (m.map bD)] (.w (.c (.d (.bool (l==m))))):=by
  refine den_walk Try.func64 cf_same rfl rfl ?_
  simp only[sf_same,putAll,wx,wy,wz,stV,seval,iteOmega,toNatUp,reduceCtorEq]
  refine st_call (beq_c G l m) rfl (.inl rfl) ?_
  simp only[wx,wy,wz,stV,seval,iteOmega,toNatUp,reduceCtorEq]
  exact ret_d1 (by simp only[wx,wy,wz,stV,seval,iteOmega,toNatUp,reduceCtorEq])
end Go.Proofs.Ytcikhnjfkfigjaa
namespace Go.Proofs.Ytcikhnjfkfigjaa
open Go.RowKit
theorem putL_snoc (v k:Nat):putL v (k+1)=putL (v / 256) k++[UInt8.ofNat v]:=by
  unfold putL
  rw[List.range_succ,List.map_append]
  congr 1
  ·apply List.map_congr_left
   intro i hi
   have hi':i<k:=List.mem_range.1 hi
   rw[show k+1-1-i=(k-1-i)+1 by omega,Nat.pow_succ,Nat.mul_comm,← Nat.div_div_eq_div_mul]
  ·simp
theorem getN_one (a:List UInt8) (x:UInt8):getN (a++[x])=(getN a*256+x.toNat)%18446744073709551616:=by simp[getN]
theorem pow_le8 {k:Nat} (h:k≤8):256^k≤18446744073709551616:=Nat.le_trans (Nat.pow_le_pow_right (by decide) h) (by decide)
theorem get_put (k:Nat) (h:k≤8):∀ v,getN (putL v k)=v%256^k:=by
  induction k with
  | zero=>intro v; rw[Nat.pow_zero,Nat.mod_one]; rfl
  | succ k ih =>
    intro v
    have hp:=pow_le8 h
    have hv:v%256^(k+1)<256^(k+1):=Nat.mod_lt _ (Nat.pow_pos (by decide))
    have e:v%256^(k+1)=v%256+256*(v / 256%256^k):=by rw[Nat.pow_succ',Nat.mod_mul]
    rw[putL_snoc,getN_one,ih (by omega),UInt8.toNat_ofNat',Nat.mod_eq_of_lt (by omega)]
    omega
theorem getN_lt_pow:∀ (k:Nat) (l:List UInt8),l.length=k→k≤8→getN l<256^k∧putL (getN l) k=l:=by
  intro k
  induction k with
  | zero=>intro l h _; rw[List.eq_nil_of_length_eq_zero h]; exact⟨by decide,rfl⟩
  | succ k ih =>
    intro l h h8
    rcases List.eq_nil_or_concat l with rfl | ⟨a,x,rfl⟩
    ·simp at h
    ·rw[List.concat_eq_append] at *
     obtain⟨a1,a2⟩:=ih a (by simpa using h) (by omega)
     have hx:x.toNat<256:=x.toNat_lt
     have hp:=pow_le8 h8
     have e:getN (a++[x])=getN a*256+x.toNat:=by
       rw[getN_one,Nat.mod_eq_of_lt]
       rw[Nat.pow_succ] at hp; omega
     refine⟨by rw[e,Nat.pow_succ]; omega,?_⟩
     rw[e,putL_snoc,show (getN a*256+x.toNat) / 256=getN a by omega,a2]
     congr 2
     rw[← UInt8.toNat_inj,UInt8.toNat_ofNat']
     omega
structure Hd where
  lp:Int
  vr:Int
  md:Int
  st:Int
  pl:Int
  pr:Int
  rd:Nat
  rp:Nat
  ri:Nat
  rf:Nat
  og:Nat
  rc:Nat
  tr:Nat
def Hd.z:Hd:=⟨0,0,0,0,0,0,0,0,0,0,0,0,0⟩
def hdR (h:Hd):Prop:=0≤h.lp∧h.lp≤3∧(h.vr=3∨h.vr=4)∧0≤h.md∧h.md≤7∧0≤h.st∧h.st≤255∧-128≤h.pl∧h.pl≤127∧-128≤h.pr∧h.pr≤127
instance (h:Hd):Decidable (hdR h):=by unfold hdR; infer_instance
def hdOk (h:Hd):Bool:=decide (hdR h)
def hdF (h:Hd):Prop:=h.rd<4294967296∧h.rp<4294967296∧h.ri<4294967296∧h.rf<18446744073709551616∧h.og<18446744073709551616∧h.rc<18446744073709551616∧h.tr<18446744073709551616
def byZ (v:Int):UInt8:=UInt8.ofNat (v%256).toNat
def sgB8 (b:UInt8):Int:=if b.toNat>127 then (b.toNat:Int)-256 else (b.toNat:Int)
def hdT (h:Hd):List UInt8:=putL h.rd 4++(putL h.rp 4++(putL h.ri 4++(putL h.rf 8++(putL h.og 8++(putL h.rc 8++putL h.tr 8)))))
def hdB (h:Hd):List UInt8:=[byZ (h.lp*64+h.vr*8+h.md),byZ h.st,byZ h.pl,byZ h.pr]++hdT h
theorem hdT_len (h:Hd):(hdT h).length=44:=by simp[hdT,putL_length]
theorem hdB_len (h:Hd):(hdB h).length=48:=by unfold hdB; rw[List.length_append,hdT_len]; rfl
def cutN (l:List UInt8) (a n:Nat):List UInt8:=(l.drop a).take n
def hdG (l:List UInt8):Hd:=⟨((l.getD 0 0).toNat / 64:Nat),((l.getD 0 0).toNat / 8%8:Nat),((l.getD 0 0).toNat%8:Nat),((l.getD 1 0).toNat:Nat),sgB8 (l.getD 2 0),sgB8 (l.getD 3 0),
  getN (cutN l 4 4),getN (cutN l 8 4),getN (cutN l 12 4),getN (cutN l 16 8),getN (cutN l 24 8),getN (cutN l 32 8),getN (cutN l 40 8)⟩
theorem cutN_len {l:List UInt8} {a n:Nat} (h:a+n≤l.length):(cutN l a n).length=n:=by
  unfold cutN; rw[List.length_take,List.length_drop]; omega
theorem cutN_hit (p q r:List UInt8):cutN (p++(q++r)) p.length q.length=q:=by
  unfold cutN; rw[List.drop_left,List.take_left]
theorem byZ_nat (v:Int):((byZ v).toNat:Int)=v%256:=by
  unfold byZ
  rw[UInt8.toNat_ofNat']; omega
theorem sgB8_by {v:Int} (h1:-128≤v) (h2:v≤127):sgB8 (byZ v)=v:=by
  have:=byZ_nat v
  unfold sgB8
  split <;> omega
theorem sgB8_in (b:UInt8):-128≤sgB8 b∧sgB8 b≤127:=by
  have:=b.toNat_lt
  unfold sgB8
  split <;> omega
theorem hd_part (h:Hd) (r:List UInt8):hdB h++r=([byZ (h.lp*64+h.vr*8+h.md),byZ h.st,byZ h.pl,byZ h.pr]:List UInt8)++(putL h.rd 4++(putL h.rp 4++(putL h.ri 4++(putL h.rf 8++(putL h.og 8++(putL h.rc 8++(putL h.tr 8++r))))))):=by
  unfold hdB hdT
  simp only[List.append_assoc]
theorem hd_cuts (h:Hd) (r:List UInt8):cutN (hdB h++r) 4 4=putL h.rd 4∧cutN (hdB h++r) 8 4=putL h.rp 4∧cutN (hdB h++r) 12 4=putL h.ri 4∧cutN (hdB h++r) 16 8=putL h.rf 8∧cutN (hdB h++r) 24 8=putL h.og 8∧cutN (hdB h++r) 32 8=putL h.rc 8∧cutN (hdB h++r) 40 8=putL h.tr 8:=by
  have key:∀ (p q s:List UInt8) (a n:Nat),hdB h++r=p++(q++s)→p.length=a→q.length=n→cutN (hdB h++r) a n=q:=by
    intro p q s a n e ha hn
    rw[e,← ha,← hn]; exact cutN_hit p q s
  have e:=hd_part h r
  generalize ([byZ (h.lp*64+h.vr*8+h.md),byZ h.st,byZ h.pl,byZ h.pr]:List UInt8)=F at *
  have hF:F.length=4:=by
    have:=hdB_len h
    have e':=congrArg List.length e
    simp only[List.length_append,putL_length,this] at e'
    omega
  refine⟨key F _ _ _ _ e hF (putL_length _ _),key (F++putL h.rd 4) _ _ _ _ (by rw[e]; simp only[List.append_assoc] <;> rfl) ?_ (putL_length _ _),key (F++putL h.rd 4++putL h.rp 4) _ _ _ _ (by rw[e]; simp only[List.append_assoc] <;> rfl) ?_ (putL_length _ _),
    key (F++putL h.rd 4++putL h.rp 4++putL h.ri 4) _ _ _ _ (by rw[e]; simp only[List.append_assoc] <;> rfl) ?_ (putL_length _ _),key (F++putL h.rd 4++putL h.rp 4++putL h.ri 4++putL h.rf 8) _ _ _ _ (by rw[e]; simp only[List.append_assoc] <;> rfl) ?_ (putL_length _ _),
    key (F++putL h.rd 4++putL h.rp 4++putL h.ri 4++putL h.rf 8++putL h.og 8) _ _ _ _ (by rw[e]; simp only[List.append_assoc] <;> rfl) ?_ (putL_length _ _),key (F++putL h.rd 4++putL h.rp 4++putL h.ri 4++putL h.rf 8++putL h.og 8++putL h.rc 8) _ r _ _ (by rw[e]; simp only[List.append_assoc] <;> rfl) ?_ (putL_length _ _)⟩ <;>
    simp only[List.length_append,putL_length,hF]
theorem hd_back {h:Hd} (ok:hdR h) (fit:hdF h) (r:List UInt8):hdG (hdB h++r)=h:=by
  obtain⟨c1,c2,c3,c4,c5,c6,c7⟩:=hd_cuts h r
  obtain⟨f1,f2,f3,f4,f5,f6,f7⟩:=fit
  obtain⟨o1,o2,o3,o4,o5,o6,o7,o8,o9,o10,o11⟩:=ok
  have g0:(hdB h++r).getD 0 0=byZ (h.lp*64+h.vr*8+h.md):=rfl
  have g1:(hdB h++r).getD 1 0=byZ h.st:=rfl
  have g2:(hdB h++r).getD 2 0=byZ h.pl:=rfl
  have g3:(hdB h++r).getD 3 0=byZ h.pr:=rfl
  unfold hdG
  rw[c1,c2,c3,c4,c5,c6,c7,g0,g1,g2,g3,get_put 4 (by decide),get_put 4 (by decide),get_put 4 (by decide),get_put 8 (by decide),get_put 8 (by decide),get_put 8 (by decide),get_put 8 (by decide),sgB8_by o8 o9,sgB8_by o10 o11]
  have n0:=byZ_nat (h.lp*64+h.vr*8+h.md)
  have n1:=byZ_nat h.st
  obtain⟨lp,vr,md,st,pl,pr,rd,rp,ri,rf,og,rc,tr⟩:=h
  simp only at *
  congr 1 <;> omega
end Go.Proofs.Ytcikhnjfkfigjaa
namespace Go.Proofs.Ytcikhnjfkfigjaa
open Go.RowKit
theorem putk_c (G:Glob) (v:Nat) (k:Int) (hk:0≤k∧k≤64):Den Try.prog G 54 [.int .u64 (v:Int),.int .i64 k] (.w (.c (.fr 1 ((putL v k.toNat).map bD)))):=by
  have c:=put_c G v k
  rw[show putN v k=putL v k.toNat from if_pos hk] at c
  exact c
theorem rputk_c (G:Glob) (v:Nat) (k:Int) (hk:0≤k∧k≤64):Den Try.prog G 27 [.int .u64 (v:Int),.int .i64 k] (.w (.c (.fr 1 ((putL v k.toNat).map bD)))):=by
  have c:=rput_c G v k
  rw[show putN v k=putL v k.toNat from if_pos hk] at c
  exact c
end Go.Proofs.Ytcikhnjfkfigjaa
namespace Go.Proofs.Ytcikhnjfkfigjaa
open Go.RowKit IntWalk
def withinN (v m:Int):Int:=if m<1 then 0 else v%m
theorem withinN_range (v m:Int) (h:1≤m):0≤withinN v m∧withinN v m<m:=by
  unfold withinN
  rw[if_neg (by omega)]
  exact⟨Int.emod_nonneg _ (by omega),Int.emod_lt_of_pos _ (by omega)⟩
theorem tmod_neg {v m:Int} (hm:0<m) (h:v.tmod m<0):v.tmod m+m=v%m:=by
  have h1:=Int.emod_add_mul_ediv v m
  have h2:=Int.tmod_add_mul_tdiv v m
  have h3:=Int.emod_nonneg v (show m≠0 by omega)
  have h4:=Int.emod_lt_of_pos v hm
  have h5:=Int.lt_tmod_of_pos v hm
  have e:m*(v.tdiv m-v / m)=v%m-v.tmod m:=by rw[Int.mul_sub]; omega
  have k1:v.tdiv m-v / m=1:=by
    rcases Int.lt_trichotomy (v.tdiv m-v / m) 1 with hlt | heq | hgt
    ·exfalso
     have:v.tdiv m-v / m≤0:=by omega
     have:=Int.mul_le_mul_of_nonneg_left this (show 0≤m by omega)
     omega
    ·exact heq
    ·exfalso
     have:2≤v.tdiv m-v / m:=by omega
     have:=Int.mul_le_mul_of_nonneg_left this (show 0≤m by omega)
     omega
  rw[k1] at e
  omega
theorem tmod_pos {v m:Int} (hm:0<m) (h:0≤v.tmod m):v.tmod m=v%m:=by
  have h1:=Int.emod_add_mul_ediv v m
  have h2:=Int.tmod_add_mul_tdiv v m
  have h3:=Int.emod_nonneg v (show m≠0 by omega)
  have h4:=Int.emod_lt_of_pos v hm
  have h5:=Int.tmod_lt_of_pos v hm
  have e:m*(v.tdiv m-v / m)=v%m-v.tmod m:=by rw[Int.mul_sub]; omega
  have k1:v.tdiv m-v / m=0:=by
    rcases Int.lt_trichotomy (v.tdiv m-v / m) 0 with hlt | heq | hgt
    ·exfalso
     have:v.tdiv m-v / m ≤ -1:=by omega
     have:=Int.mul_le_mul_of_nonneg_left this (show 0≤m by omega)
     omega
    ·exact heq
    ·exfalso
     have:1≤v.tdiv m-v / m:=by omega
     have:=Int.mul_le_mul_of_nonneg_left this (show 0≤m by omega)
     omega
  rw[k1] at e
  omega
def sf_within:SFn:=⟨2,16,
 .seq (.reg [⟨some 4,.mv (.k (.c (.d (.int .i64 0)))),none⟩])
 (.seq (.seq (.reg [⟨some 5,.mv (.t 1),none⟩,
 ⟨some 6,.bin .lss (.t 5) (.k (.c (.d (.int .i64 1)))),none⟩])
 (.cond (.t 6) (.seq (.reg [⟨some 4,.mv (.k (.c (.d (.int .i64 0)))),none⟩])
 (.ret))
 (.skip)))
 (.seq (.reg [⟨some 7,.mv (.t 0),none⟩,
 ⟨some 8,.mv (.t 1),none⟩,
 ⟨some 9,.bin .rem (.t 7) (.t 8),none⟩,
 ⟨some 0,.mv (.t 9),none⟩])
 (.seq (.seq (.reg [⟨some 10,.mv (.t 0),none⟩,
 ⟨some 11,.bin .lss (.t 10) (.k (.c (.d (.int .i64 0)))),none⟩])
 (.cond (.t 11) (.reg [⟨some 12,.mv (.t 0),none⟩,
 ⟨some 13,.mv (.t 1),none⟩,
 ⟨some 14,.bin .add (.t 12) (.t 13),none⟩,
 ⟨some 0,.mv (.t 14),none⟩])
 (.skip)))
 (.seq (.reg [⟨some 15,.mv (.t 0),none⟩,
 ⟨some 4,.mv (.t 15),none⟩])
 (.ret))))),
 [(4,none)]⟩
theorem cf_within:compFn Try.prog { own:=[],comp:=[],frz:=[],nils:=[] } Try.f14=some sf_within:=by kernel_rfl
theorem within_c (G:Glob) (v m:Int) (hm:m≤9223372036854775807):Den Try.prog G 14 [.int .i64 v,.int .i64 m] (.w (.c (.d (.int .i64 (withinN v m))))):=by
  refine den_walk Try.func14 cf_within rfl rfl ?_
  unfold withinN
  by_cases h:m<1
  ·rw[if_pos h]
   simp only[sf_within,putAll,wx,wy,wz,stV,seval,iteOmega,toNatUp,reduceCtorEq]
   exact ret_d1 (by simp only[wx,wy,wz,stV,seval,iteOmega,toNatUp,reduceCtorEq])
  ·rw[if_neg h]
   have hne:¬ m=0:=by omega
   have h4:=Int.tmod_lt_of_pos v (show 0<m by omega)
   by_cases hn:v.tmod m<0
   ·have e:=tmod_neg (by omega) hn
    have h3:=Int.emod_lt_of_pos v (show 0<m by omega)
    have h5:=Int.emod_nonneg v (show m≠0 by omega)
    simp only[sf_within,putAll,wx,wy,wz,stV,seval,iteOmega,toNatUp,reduceCtorEq,hne]
    exact ret_d1 (by simp only[wx,wy,wz,stV,seval,iteOmega,toNatUp,reduceCtorEq,e])
   ·have e:=tmod_pos (v:=v) (show 0<m by omega) (by omega)
    simp only[sf_within,putAll,wx,wy,wz,stV,seval,iteOmega,toNatUp,reduceCtorEq,hne]
    exact ret_d1 (by simp only[wx,wy,wz,stV,seval,iteOmega,toNatUp,reduceCtorEq,e])
end Go.Proofs.Ytcikhnjfkfigjaa
namespace Go.Proofs.Ytcikhnjfkfigjaa
open Go.RowKit
def firstK:List UInt32:=[0x6a09e667,0xbb67ae85,0x3c6ef372,0xa54ff53a,0x510e527f,0x9b05688c,0x1f83d9ab,0x5be0cd19]
def constK:List UInt32:=[
  0x428a2f98,0x71374491,0xb5c0fbcf,0xe9b5dba5,0x3956c25b,0x59f111f1,0x923f82a4,0xab1c5ed5,
  0xd807aa98,0x12835b01,0x243185be,0x550c7dc3,0x72be5d74,0x80deb1fe,0x9bdc06a7,0xc19bf174,
  0xe49b69c1,0xefbe4786,0x0fc19dc6,0x240ca1cc,0x2de92c6f,0x4a7484aa,0x5cb0a9dc,0x76f988da,
  0x983e5152,0xa831c66d,0xb00327c8,0xbf597fc7,0xc6e00bf3,0xd5a79147,0x06ca6351,0x14292967,
  0x27b70a85,0x2e1b2138,0x4d2c6dfc,0x53380d13,0x650a7354,0x766a0abb,0x81c2c92e,0x92722c85,
  0xa2bfe8a1,0xa81a664b,0xc24b8b70,0xc76c51a3,0xd192e819,0xd6990624,0xf40e3585,0x106aa070,
  0x19a4c116,0x1e376c08,0x2748774c,0x34b0bcb5,0x391c0cb3,0x4ed8aa4a,0x5b9cca4f,0x682e6ff3,
  0x748f82ee,0x78a5636f,0x84c87814,0x8cc70208,0x90befffa,0xa4506ceb,0xbef9a3f7,0xc67178f2]
theorem firstK_len:firstK.length=8:=rfl
theorem constK_len:constK.length=64:=rfl
def wordAt (b:List UInt8) (t:Nat):UInt32 :=
  orW (orW (orW (shlW (byteW (b.getD (4*t) 0)) 24) (shlW (byteW (b.getD (4*t+1) 0)) 16)) (shlW (byteW (b.getD (4*t+2) 0)) 8)) (byteW (b.getD (4*t+3) 0))
def smallA (x:UInt32):UInt32:=xorW (xorW (rotW x 7) (rotW x 18)) (shrW x 3)
def smallB (y:UInt32):UInt32:=xorW (xorW (rotW y 17) (rotW y 19)) (shrW y 10)
def nextW (s:List UInt32) (t:Nat):UInt32 :=
  addW (addW (addW (smallB (s.getD (t-2) 0)) (s.getD (t-7) 0)) (smallA (s.getD (t-15) 0))) (s.getD (t-16) 0)
def sched16 (b:List UInt8) (n:Nat):List UInt32:=(List.range n).map (wordAt b)
def schedN (b:List UInt8):Nat→List UInt32
  | 0=>sched16 b 16
  | n+1=>schedN b n++[nextW (schedN b n) (16+n)]
def sched (b:List UInt8):List UInt32:=schedN b 48
theorem sched_at (b:List UInt8) (m:Nat) (h:m=48):sched b=schedN b m:=by rw[h]; rfl
def bigE (e:UInt32):UInt32:=xorW (xorW (rotW e 6) (rotW e 11)) (rotW e 25)
def bigA (a:UInt32):UInt32:=xorW (xorW (rotW a 2) (rotW a 13)) (rotW a 22)
def chW (e f g:UInt32):UInt32:=xorW (andW e f) (andW (notW e) g)
def majW (a b c:UInt32):UInt32:=xorW (xorW (andW a b) (andW a c)) (andW b c)
structure Eight where
  (a b c d e f g h:UInt32)
def Eight.step (s:Eight) (k w:UInt32):Eight :=
  let t1:=addW (addW (addW (addW s.h (bigE s.e)) (chW s.e s.f s.g)) k) w
  let t2:=addW (bigA s.a) (majW s.a s.b s.c)
  ⟨addW t1 t2,s.a,s.b,s.c,addW s.d t1,s.e,s.f,s.g⟩
def Eight.of (h:List UInt32):Eight:=⟨h.getD 0 0,h.getD 1 0,h.getD 2 0,h.getD 3 0,h.getD 4 0,h.getD 5 0,h.getD 6 0,h.getD 7 0⟩
def Eight.rounds (s:Eight) (k w:List UInt32):Nat→Eight
  | 0=>s
  | n+1=>(s.rounds k w n).step (k.getD n 0) (w.getD n 0)
def Eight.sum (s:Eight) (h:List UInt32):List UInt32 :=
  [addW (h.getD 0 0) s.a,addW (h.getD 1 0) s.b,addW (h.getD 2 0) s.c,addW (h.getD 3 0) s.d,addW (h.getD 4 0) s.e,addW (h.getD 5 0) s.f,addW (h.getD 6 0) s.g,addW (h.getD 7 0) s.h]
def blockK (h:List UInt32) (b:List UInt8):List UInt32:=((Eight.of h).rounds constK (sched b) 64).sum h
theorem blockK_len (h:List UInt32) (b:List UInt8):(blockK h b).length=8:=rfl
end Go.Proofs.Ytcikhnjfkfigjaa
namespace Go.Proofs.Ytcikhnjfkfigjaa
open Go.RowKit IntWalk
def sf_rturn:SFn:=⟨2,15,
 .seq (.reg [⟨some 4,.mv (.k (.c (.d (.int .u32 0)))),none⟩])
 (.seq (.reg [⟨some 5,.mv (.t 0),none⟩,
 ⟨some 6,.mv (.t 1),none⟩,
 ⟨some 7,.conv .u64 (.t 6),none⟩,
 ⟨some 8,.bin .shr (.t 5) (.t 7),none⟩,
 ⟨some 9,.mv (.t 0),none⟩,
 ⟨some 10,.mv (.t 1),none⟩,
 ⟨some 11,.bin .sub (.k (.c (.d (.int .i64 32)))) (.t 10),none⟩,
 ⟨some 12,.conv .u64 (.t 11),none⟩,
 ⟨some 13,.bin .shl (.t 9) (.t 12),none⟩,
 ⟨some 14,.bin .or (.t 8) (.t 13),none⟩,
 ⟨some 4,.mv (.t 14),none⟩])
 (.ret)),
 [(4,none)]⟩
theorem cf_rturn:compFn Try.prog { own:=[],comp:=[],frz:=[],nils:=[] } Try.f75=some sf_rturn:=by kernel_rfl
theorem rturn_c (G:Glob) (x:UInt32) (n:Nat) (h0:0<n) (hn:n<32):Den Try.prog G 75 [wD x,.int .i64 n] (.w (.c (.d (wD (rotW x n))))):=by
  refine den_walk Try.func75 cf_rturn rfl rfl ?_
  have e1:IntKind.u64.wrap (n:Int)=(n:Int):=IntWalk.u64_in _ (by omega)
  have e2:IntKind.i64.wrap (32-(n:Int))=((32-n:Nat):Int):=by rw[IntWalk.i64_in _ (by omega)]; omega
  have e3:IntKind.u64.wrap ((32-n:Nat):Int)=((32-n:Nat):Int):=IntWalk.u64_in _ (by omega)
  simp only[sf_rturn,putAll,wx,stV,seval,iteOmega,toNatUp,reduceCtorEq,e1,e2,e3]
  exact ret_d (by simp only[wx,stV,seval,iteOmega,toNatUp,reduceCtorEq] <;> rfl)
def sf_rfst:SFn:=⟨0,2,
 .seq (.reg [⟨some 0,.mv (.k (.c .nil)),none⟩])
 (.seq (.reg [⟨some 1,.bldSl true 8 1 (.int .u32 0) [(0,(.k (.c (.d (.int .u32 1779033703))))),(1,(.k (.c (.d (.int .u32 3144134277))))),(2,(.k (.c (.d (.int .u32 1013904242))))),(3,(.k (.c (.d (.int .u32 2773480762))))),(4,(.k (.c (.d (.int .u32 1359893119))))),(5,(.k (.c (.d (.int .u32 2600822924))))),(6,(.k (.c (.d (.int .u32 528734635))))),(7,(.k (.c (.d (.int .u32 1541459225)))))],none⟩,
 ⟨some 0,.mv (.t 1),none⟩])
 (.ret)),
 [(0,none)]⟩
theorem cf_rfst:compFn Try.prog { own:=[1],comp:=[],frz:=[],nils:=[] } Try.f58=some sf_rfst:=by kernel_rfl
theorem rfst_c (G:Glob):Den Try.prog G 58 [] (.w (.c (.fr 1 (firstK.map wD)))):=by
  refine den_walk Try.func58 cf_rfst rfl rfl ?_
  simp only[sf_rfst,putAll,sx]
  refine optK_mk (.w (.c (.own 8 1 0 8)),upd hN 8 (some (.row 1 (firstK.map wD))),upd uN 8 true) (by kernel_rfl) ?_
  simp only[wx,stV,seval,iteOmega,toNatUp,reduceCtorEq]
  exact ret_own (id:=8) (n:=8) (s:=1) (by simp only[wx,stV,seval,iteOmega,toNatUp,reduceCtorEq]) (by simp only[wx,stV,seval,iteOmega,toNatUp,reduceCtorEq]) rfl
def sf_rcon:SFn:=⟨0,2,
 .seq (.reg [⟨some 0,.mv (.k (.c .nil)),none⟩])
 (.seq (.reg [⟨some 1,.bldSl true 64 1 (.int .u32 0) [(0,(.k (.c (.d (.int .u32 1116352408))))),(1,(.k (.c (.d (.int .u32 1899447441))))),(2,(.k (.c (.d (.int .u32 3049323471))))),(3,(.k (.c (.d (.int .u32 3921009573))))),(4,(.k (.c (.d (.int .u32 961987163))))),(5,(.k (.c (.d (.int .u32 1508970993))))),(6,(.k (.c (.d (.int .u32 2453635748))))),(7,(.k (.c (.d (.int .u32 2870763221))))),(8,(.k (.c (.d (.int .u32 3624381080))))),(9,(.k (.c (.d (.int .u32 310598401))))),(10,(.k (.c (.d (.int .u32 607225278))))),(11,(.k (.c (.d (.int .u32 1426881987))))),(12,(.k (.c (.d (.int .u32 1925078388))))),(13,(.k (.c (.d (.int .u32 2162078206))))),(14,(.k (.c (.d (.int .u32 2614888103))))),(15,(.k (.c (.d (.int .u32 3248222580))))),(16,(.k (.c (.d (.int .u32 3835390401))))),(17,(.k (.c (.d (.int .u32 4022224774))))),(18,(.k (.c (.d (.int .u32 264347078))))),(19,(.k (.c (.d (.int .u32 604807628))))),(20,(.k (.c (.d (.int .u32 770255983))))),(21,(.k (.c (.d (.int .u32 1249150122))))),(22,(.k (.c (.d (.int .u32 1555081692))))),(23,(.k (.c (.d (.int .u32 1996064986))))),(24,(.k (.c (.d (.int .u32 2554220882))))),(25,(.k (.c (.d (.int .u32 2821834349))))),(26,(.k (.c (.d (.int .u32 2952996808))))),(27,(.k (.c (.d (.int .u32 3210313671))))),(28,(.k (.c (.d (.int .u32 3336571891))))),(29,(.k (.c (.d (.int .u32 3584528711))))),(30,(.k (.c (.d (.int .u32 113926993))))),(31,(.k (.c (.d (.int .u32 338241895))))),(32,(.k (.c (.d (.int .u32 666307205))))),(33,(.k (.c (.d (.int .u32 773529912))))),(34,(.k (.c (.d (.int .u32 1294757372))))),(35,(.k (.c (.d (.int .u32 1396182291))))),(36,(.k (.c (.d (.int .u32 1695183700))))),(37,(.k (.c (.d (.int .u32 1986661051))))),(38,(.k (.c (.d (.int .u32 2177026350))))),(39,(.k (.c (.d (.int .u32 2456956037))))),(40,(.k (.c (.d (.int .u32 2730485921))))),(41,(.k (.c (.d (.int .u32 2820302411))))),(42,(.k (.c (.d (.int .u32 3259730800))))),(43,(.k (.c (.d (.int .u32 3345764771))))),(44,(.k (.c (.d (.int .u32 3516065817))))),(45,(.k (.c (.d (.int .u32 3600352804))))),(46,(.k (.c (.d (.int .u32 4094571909))))),(47,(.k (.c (.d (.int .u32 275423344))))),(48,(.k (.c (.d (.int .u32 430227734))))),(49,(.k (.c (.d (.int .u32 506948616))))),(50,(.k (.c (.d (.int .u32 659060556))))),(51,(.k (.c (.d (.int .u32 883997877))))),(52,(.k (.c (.d (.int .u32 958139571))))),(53,(.k (.c (.d (.int .u32 1322822218))))),(54,(.k (.c (.d (.int .u32 1537002063))))),(55,(.k (.c (.d (.int .u32 1747873779))))),(56,(.k (.c (.d (.int .u32 1955562222))))),(57,(.k (.c (.d (.int .u32 2024104815))))),(58,(.k (.c (.d (.int .u32 2227730452))))),(59,(.k (.c (.d (.int .u32 2361852424))))),(60,(.k (.c (.d (.int .u32 2428436474))))),(61,(.k (.c (.d (.int .u32 2756734187))))),(62,(.k (.c (.d (.int .u32 3204031479))))),(63,(.k (.c (.d (.int .u32 3329325298)))))],none⟩,
 ⟨some 0,.mv (.t 1),none⟩])
 (.ret)),
 [(0,none)]⟩
theorem cf_rcon:compFn Try.prog { own:=[1],comp:=[],frz:=[],nils:=[] } Try.f59=some sf_rcon:=by kernel_rfl
theorem rcon_c (G:Glob):Den Try.prog G 59 [] (.w (.c (.fr 1 (constK.map wD)))):=by
  refine den_walk Try.func59 cf_rcon rfl rfl ?_
  simp only[sf_rcon,putAll,sx]
  refine optK_mk (.w (.c (.own 8 1 0 64)),upd hN 8 (some (.row 1 (constK.map wD))),upd uN 8 true) (by kernel_rfl) ?_
  simp only[wx,stV,seval,iteOmega,toNatUp,reduceCtorEq]
  exact ret_own (id:=8) (n:=64) (s:=1) (by simp only[wx,stV,seval,iteOmega,toNatUp,reduceCtorEq]) (by simp only[wx,stV,seval,iteOmega,toNatUp,reduceCtorEq]) rfl
end Go.Proofs.Ytcikhnjfkfigjaa
namespace Go.Proofs.Ytcikhnjfkfigjaa
open Go.RowKit
theorem sched16_len (b:List UInt8) (n:Nat):(sched16 b n).length=n:=by simp[sched16]
theorem schedN_len (b:List UInt8):∀ n,(schedN b n).length=16+n
  | 0=>by simp[schedN,sched16_len]
  | n+1=>by rw[schedN,List.length_append,schedN_len b n]; simp; omega
theorem set_next {α:Type} (l:List α) (z x:α) (n:Nat) (h:0<n):(l++List.replicate n z).set l.length x=(l++[x])++List.replicate (n-1) z:=by
  obtain⟨k,rfl⟩:∃ k,n=k+1:=⟨n-1,by omega⟩
  rw[List.set_append_right _ _ (Nat.le_refl _),Nat.sub_self,List.replicate_succ,List.set_cons_zero]
  simp
theorem get_of {l:List UInt32} {r:List UInt32} {i:Nat} (h:i<l.length):(l++r)[i]?=some (l.getD i 0):=by
  rw[List.getElem?_append_left h]
  simp[h]
end Go.Proofs.Ytcikhnjfkfigjaa
namespace Go.Proofs.Ytcikhnjfkfigjaa
open Go.RowKit IntWalk
theorem getD_some {l:List UInt32} {i:Nat} (h:i<l.length):l[i]?=some (l.getD i 0):=by simp[h]
theorem eight {l:List UInt32} (h:l.length=8):∃ a b c d e f g i,l=[a,b,c,d,e,f,g,i]:=by
  match l,h with
  | [a,b,c,d,e,f,g,i],_=>exact⟨a,b,c,d,e,f,g,i,rfl⟩
def Eight.list (s:Eight):List UInt32:=[s.a,s.b,s.c,s.d,s.e,s.f,s.g,s.h]
theorem step_a (s:Eight) (k w:UInt32):(s.step k w).a=addW (addW (addW (addW (addW s.h (bigE s.e)) (chW s.e s.f s.g)) k) w) (addW (bigA s.a) (majW s.a s.b s.c)):=rfl
theorem step_b (s:Eight) (k w:UInt32):(s.step k w).b=s.a:=rfl
theorem step_c (s:Eight) (k w:UInt32):(s.step k w).c=s.b:=rfl
theorem step_d (s:Eight) (k w:UInt32):(s.step k w).d=s.c:=rfl
theorem step_e (s:Eight) (k w:UInt32):(s.step k w).e=addW s.d (addW (addW (addW (addW s.h (bigE s.e)) (chW s.e s.f s.g)) k) w):=rfl
theorem step_f (s:Eight) (k w:UInt32):(s.step k w).f=s.e:=rfl
theorem step_g (s:Eight) (k w:UInt32):(s.step k w).g=s.f:=rfl
theorem step_h (s:Eight) (k w:UInt32):(s.step k w).h=s.g:=rfl
theorem getD_someB {l:List UInt8} {i:Nat} (h:i<l.length):l[i]?=some (l.getD i 0):=by simp[h]
def rbSt1 (h k:List UInt32) (b:List UInt8) (t:Nat):St:=⟨ofL [(0,.w (.c (.d (.sl (h.map wD))))),(1,.w (.c (.d (.sl (k.map wD))))),(2,.w (.c (.d (.sl (b.map bD))))),(7,.w (.c (.pa 1 1))),(8,.w (.c (.d (.int .i64 (t:Int)))))],
  hL [(1,.row 1 ((sched16 b t++List.replicate (64-t) 0).map wD))],uL [1]⟩
def rbSt2 (h k:List UInt32) (b:List UInt8) (n:Nat):St:=⟨ofL [(0,.w (.c (.d (.sl (h.map wD))))),(1,.w (.c (.d (.sl (k.map wD))))),(7,.w (.c (.pa 1 1))),(9,.w (.c (.d (.int .i64 ((16+n:Nat):Int)))))],
  hL [(1,.row 1 ((schedN b n++List.replicate (48-n) 0).map wD))],uL [1]⟩
def rbSt3 (h:List UInt32) (b:List UInt8) (s:Eight) (n:Nat):St:=⟨ofL [(0,.w (.c (.d (.sl (h.map wD))))),(1,.w (.c (.d (.sl (constK.map wD))))),(7,.w (.c (.pa 1 1))),(12,.w (.c (.d (wD s.a)))),(13,.w (.c (.d (wD s.b)))),(14,.w (.c (.d (wD s.c)))),(15,.w (.c (.d (wD s.d)))),(16,.w (.c (.d (wD s.e)))),(17,.w (.c (.d (wD s.f)))),(18,.w (.c (.d (wD s.g)))),(19,.w (.c (.d (wD s.h)))),(20,.w (.c (.d (.int .i64 (n:Int)))))],
  hL [(1,.row 1 ((sched b).map wD))],uL [1]⟩
def rbR3 (h:List UInt32) (b:List UInt8) (n:Nat):St:=rbSt3 h b ((Eight.of h).rounds constK (sched b) n) n
def lp_rblock_0:SCode :=
 .seq (.seq (.reg [⟨some 23,.mv (.t 8),none⟩,
 ⟨some 24,.bin .lss (.t 23) (.k (.c (.d (.int .i64 16)))),none⟩])
 (.cond (.t 24) (.skip)
 (.exit 0)))
 (.seq (.block 1 (.reg [⟨some 27,.mv (.t 8),none⟩,
 ⟨some 28,.mv (.t 2),none⟩,
 ⟨some 29,.mv (.t 8),none⟩,
 ⟨some 30,.bin .mul (.k (.c (.d (.int .i64 4)))) (.t 29),none⟩,
 ⟨some 31,.idxSl 1 (.t 28) (.t 30),none⟩,
 ⟨some 32,.load .sc (.t 31),none⟩,
 ⟨some 33,.conv .u32 (.t 32),none⟩,
 ⟨some 34,.bin .shl (.t 33) (.k (.c (.d (.int .u64 24)))),none⟩,
 ⟨some 35,.mv (.t 2),none⟩,
 ⟨some 36,.mv (.t 8),none⟩,
 ⟨some 37,.bin .mul (.k (.c (.d (.int .i64 4)))) (.t 36),none⟩,
 ⟨some 38,.bin .add (.t 37) (.k (.c (.d (.int .i64 1)))),none⟩,
 ⟨some 39,.idxSl 1 (.t 35) (.t 38),none⟩,
 ⟨some 40,.load .sc (.t 39),none⟩,
 ⟨some 41,.conv .u32 (.t 40),none⟩,
 ⟨some 42,.bin .shl (.t 41) (.k (.c (.d (.int .u64 16)))),none⟩,
 ⟨some 43,.bin .or (.t 34) (.t 42),none⟩,
 ⟨some 44,.mv (.t 2),none⟩,
 ⟨some 45,.mv (.t 8),none⟩,
 ⟨some 46,.bin .mul (.k (.c (.d (.int .i64 4)))) (.t 45),none⟩,
 ⟨some 47,.bin .add (.t 46) (.k (.c (.d (.int .i64 2)))),none⟩,
 ⟨some 48,.idxSl 1 (.t 44) (.t 47),none⟩,
 ⟨some 49,.load .sc (.t 48),none⟩,
 ⟨some 50,.conv .u32 (.t 49),none⟩,
 ⟨some 51,.bin .shl (.t 50) (.k (.c (.d (.int .u64 8)))),none⟩,
 ⟨some 52,.bin .or (.t 43) (.t 51),none⟩,
 ⟨some 53,.mv (.t 2),none⟩,
 ⟨some 54,.mv (.t 8),none⟩,
 ⟨some 55,.bin .mul (.k (.c (.d (.int .i64 4)))) (.t 54),none⟩,
 ⟨some 56,.bin .add (.t 55) (.k (.c (.d (.int .i64 3)))),none⟩,
 ⟨some 57,.idxSl 1 (.t 53) (.t 56),none⟩,
 ⟨some 58,.load .sc (.t 57),none⟩,
 ⟨some 59,.conv .u32 (.t 58),none⟩,
 ⟨some 60,.bin .or (.t 52) (.t 59),none⟩,
 ⟨some 61,.idxPa 1 64 (.t 7) (.t 27),none⟩,
 ⟨none,.store .sc (.t 61) (.t 60),none⟩]))
 (.reg [⟨some 25,.mv (.t 8),none⟩,
 ⟨some 26,.bin .add (.t 25) (.k (.c (.d (.int .i64 1)))),none⟩,
 ⟨some 8,.mv (.t 26),none⟩]))
def lp_rblock_1:SCode :=
 .seq (.seq (.reg [⟨some 62,.mv (.t 9),none⟩,
 ⟨some 63,.bin .lss (.t 62) (.k (.c (.d (.int .i64 64)))),none⟩])
 (.cond (.t 63) (.skip)
 (.exit 2)))
 (.seq (.block 3 (.seq (.reg [⟨some 66,.mv (.t 9),none⟩,
 ⟨some 67,.bin .sub (.t 66) (.k (.c (.d (.int .i64 15)))),none⟩,
 ⟨some 68,.idxPa 1 64 (.t 7) (.t 67),none⟩,
 ⟨some 69,.load .sc (.t 68),none⟩,
 ⟨some 70,.mv (.t 9),none⟩,
 ⟨some 71,.bin .sub (.t 70) (.k (.c (.d (.int .i64 2)))),none⟩,
 ⟨some 72,.idxPa 1 64 (.t 7) (.t 71),none⟩,
 ⟨some 73,.load .sc (.t 72),none⟩,
 ⟨some 10,.mv (.t 69),none⟩,
 ⟨some 11,.mv (.t 73),none⟩])
 (.reg [⟨some 74,.mv (.t 9),none⟩,
 ⟨some 75,.mv (.t 11),none⟩,
 ⟨some 76,.call 75 [(.t 75),(.k (.c (.d (.int .i64 17))))] none,none⟩,
 ⟨some 77,.mv (.t 11),none⟩,
 ⟨some 78,.call 75 [(.t 77),(.k (.c (.d (.int .i64 19))))] none,none⟩,
 ⟨some 79,.bin .xor (.t 76) (.t 78),none⟩,
 ⟨some 80,.mv (.t 11),none⟩,
 ⟨some 81,.bin .shr (.t 80) (.k (.c (.d (.int .u64 10)))),none⟩,
 ⟨some 82,.bin .xor (.t 79) (.t 81),none⟩,
 ⟨some 83,.mv (.t 9),none⟩,
 ⟨some 84,.bin .sub (.t 83) (.k (.c (.d (.int .i64 7)))),none⟩,
 ⟨some 85,.idxPa 1 64 (.t 7) (.t 84),none⟩,
 ⟨some 86,.load .sc (.t 85),none⟩,
 ⟨some 87,.bin .add (.t 82) (.t 86),none⟩,
 ⟨some 88,.mv (.t 10),none⟩,
 ⟨some 89,.call 75 [(.t 88),(.k (.c (.d (.int .i64 7))))] none,none⟩,
 ⟨some 90,.mv (.t 10),none⟩,
 ⟨some 91,.call 75 [(.t 90),(.k (.c (.d (.int .i64 18))))] none,none⟩,
 ⟨some 92,.bin .xor (.t 89) (.t 91),none⟩,
 ⟨some 93,.mv (.t 10),none⟩,
 ⟨some 94,.bin .shr (.t 93) (.k (.c (.d (.int .u64 3)))),none⟩,
 ⟨some 95,.bin .xor (.t 92) (.t 94),none⟩,
 ⟨some 96,.bin .add (.t 87) (.t 95),none⟩,
 ⟨some 97,.mv (.t 9),none⟩,
 ⟨some 98,.bin .sub (.t 97) (.k (.c (.d (.int .i64 16)))),none⟩,
 ⟨some 99,.idxPa 1 64 (.t 7) (.t 98),none⟩,
 ⟨some 100,.load .sc (.t 99),none⟩,
 ⟨some 101,.bin .add (.t 96) (.t 100),none⟩,
 ⟨some 102,.idxPa 1 64 (.t 7) (.t 74),none⟩,
 ⟨none,.store .sc (.t 102) (.t 101),none⟩])))
 (.reg [⟨some 64,.mv (.t 9),none⟩,
 ⟨some 65,.bin .add (.t 64) (.k (.c (.d (.int .i64 1)))),none⟩,
 ⟨some 9,.mv (.t 65),none⟩]))
def lp_rblock_2:SCode :=
 .seq (.seq (.reg [⟨some 127,.mv (.t 20),none⟩,
 ⟨some 128,.bin .lss (.t 127) (.k (.c (.d (.int .i64 64)))),none⟩])
 (.cond (.t 128) (.skip)
 (.exit 4)))
 (.seq (.block 5 (.seq (.reg [⟨some 131,.mv (.t 19),none⟩,
 ⟨some 132,.mv (.t 16),none⟩,
 ⟨some 133,.call 75 [(.t 132),(.k (.c (.d (.int .i64 6))))] none,none⟩,
 ⟨some 134,.mv (.t 16),none⟩,
 ⟨some 135,.call 75 [(.t 134),(.k (.c (.d (.int .i64 11))))] none,none⟩,
 ⟨some 136,.bin .xor (.t 133) (.t 135),none⟩,
 ⟨some 137,.mv (.t 16),none⟩,
 ⟨some 138,.call 75 [(.t 137),(.k (.c (.d (.int .i64 25))))] none,none⟩,
 ⟨some 139,.bin .xor (.t 136) (.t 138),none⟩,
 ⟨some 140,.bin .add (.t 131) (.t 139),none⟩,
 ⟨some 141,.mv (.t 16),none⟩,
 ⟨some 142,.mv (.t 17),none⟩,
 ⟨some 143,.bin .and (.t 141) (.t 142),none⟩,
 ⟨some 144,.mv (.t 16),none⟩,
 ⟨some 145,.un .xor (.t 144),none⟩,
 ⟨some 146,.mv (.t 18),none⟩,
 ⟨some 147,.bin .and (.t 145) (.t 146),none⟩,
 ⟨some 148,.bin .xor (.t 143) (.t 147),none⟩,
 ⟨some 149,.bin .add (.t 140) (.t 148),none⟩,
 ⟨some 150,.mv (.t 1),none⟩,
 ⟨some 151,.mv (.t 20),none⟩,
 ⟨some 152,.idxSl 1 (.t 150) (.t 151),none⟩,
 ⟨some 153,.load .sc (.t 152),none⟩,
 ⟨some 154,.bin .add (.t 149) (.t 153),none⟩,
 ⟨some 155,.mv (.t 20),none⟩,
 ⟨some 156,.idxPa 1 64 (.t 7) (.t 155),none⟩,
 ⟨some 157,.load .sc (.t 156),none⟩,
 ⟨some 158,.bin .add (.t 154) (.t 157),none⟩,
 ⟨some 21,.mv (.t 158),none⟩])
 (.seq (.reg [⟨some 159,.mv (.t 12),none⟩,
 ⟨some 160,.call 75 [(.t 159),(.k (.c (.d (.int .i64 2))))] none,none⟩,
 ⟨some 161,.mv (.t 12),none⟩,
 ⟨some 162,.call 75 [(.t 161),(.k (.c (.d (.int .i64 13))))] none,none⟩,
 ⟨some 163,.bin .xor (.t 160) (.t 162),none⟩,
 ⟨some 164,.mv (.t 12),none⟩,
 ⟨some 165,.call 75 [(.t 164),(.k (.c (.d (.int .i64 22))))] none,none⟩,
 ⟨some 166,.bin .xor (.t 163) (.t 165),none⟩,
 ⟨some 167,.mv (.t 12),none⟩,
 ⟨some 168,.mv (.t 13),none⟩,
 ⟨some 169,.bin .and (.t 167) (.t 168),none⟩,
 ⟨some 170,.mv (.t 12),none⟩,
 ⟨some 171,.mv (.t 14),none⟩,
 ⟨some 172,.bin .and (.t 170) (.t 171),none⟩,
 ⟨some 173,.bin .xor (.t 169) (.t 172),none⟩,
 ⟨some 174,.mv (.t 13),none⟩,
 ⟨some 175,.mv (.t 14),none⟩,
 ⟨some 176,.bin .and (.t 174) (.t 175),none⟩,
 ⟨some 177,.bin .xor (.t 173) (.t 176),none⟩,
 ⟨some 178,.bin .add (.t 166) (.t 177),none⟩,
 ⟨some 22,.mv (.t 178),none⟩])
 (.reg [⟨some 179,.mv (.t 21),none⟩,
 ⟨some 180,.mv (.t 22),none⟩,
 ⟨some 181,.bin .add (.t 179) (.t 180),none⟩,
 ⟨some 182,.mv (.t 12),none⟩,
 ⟨some 183,.mv (.t 13),none⟩,
 ⟨some 184,.mv (.t 14),none⟩,
 ⟨some 185,.mv (.t 15),none⟩,
 ⟨some 186,.mv (.t 21),none⟩,
 ⟨some 187,.bin .add (.t 185) (.t 186),none⟩,
 ⟨some 188,.mv (.t 16),none⟩,
 ⟨some 189,.mv (.t 17),none⟩,
 ⟨some 190,.mv (.t 18),none⟩,
 ⟨some 12,.mv (.t 181),none⟩,
 ⟨some 13,.mv (.t 182),none⟩,
 ⟨some 14,.mv (.t 183),none⟩,
 ⟨some 15,.mv (.t 184),none⟩,
 ⟨some 16,.mv (.t 187),none⟩,
 ⟨some 17,.mv (.t 188),none⟩,
 ⟨some 18,.mv (.t 189),none⟩,
 ⟨some 19,.mv (.t 190),none⟩]))))
 (.reg [⟨some 129,.mv (.t 20),none⟩,
 ⟨some 130,.bin .add (.t 129) (.k (.c (.d (.int .i64 1)))),none⟩,
 ⟨some 20,.mv (.t 130),none⟩]))
def sf_rblock:SFn:=⟨3,232,
 .seq (.reg [⟨some 6,.mv (.k (.c .nil)),none⟩])
 (.seq (.reg [⟨some 7,.allocArr [(.int .u32 0),(.int .u32 0),(.int .u32 0),(.int .u32 0),(.int .u32 0),(.int .u32 0),(.int .u32 0),(.int .u32 0),(.int .u32 0),(.int .u32 0),(.int .u32 0),(.int .u32 0),(.int .u32 0),(.int .u32 0),(.int .u32 0),(.int .u32 0),(.int .u32 0),(.int .u32 0),(.int .u32 0),(.int .u32 0),(.int .u32 0),(.int .u32 0),(.int .u32 0),(.int .u32 0),(.int .u32 0),(.int .u32 0),(.int .u32 0),(.int .u32 0),(.int .u32 0),(.int .u32 0),(.int .u32 0),(.int .u32 0),(.int .u32 0),(.int .u32 0),(.int .u32 0),(.int .u32 0),(.int .u32 0),(.int .u32 0),(.int .u32 0),(.int .u32 0),(.int .u32 0),(.int .u32 0),(.int .u32 0),(.int .u32 0),(.int .u32 0),(.int .u32 0),(.int .u32 0),(.int .u32 0),(.int .u32 0),(.int .u32 0),(.int .u32 0),(.int .u32 0),(.int .u32 0),(.int .u32 0),(.int .u32 0),(.int .u32 0),(.int .u32 0),(.int .u32 0),(.int .u32 0),(.int .u32 0),(.int .u32 0),(.int .u32 0),(.int .u32 0),(.int .u32 0)],none⟩])
 (.seq (.seq (.reg [⟨some 8,.mv (.k (.c (.d (.int .i64 0)))),none⟩])
 (.block 0 (.loop lp_rblock_0)))
 (.seq (.seq (.reg [⟨some 9,.mv (.k (.c (.d (.int .i64 16)))),none⟩])
 (.block 2 (.loop lp_rblock_1)))
 (.seq (.reg [⟨some 103,.mv (.t 0),none⟩,
 ⟨some 104,.idxSl 1 (.t 103) (.k (.c (.d (.int .i64 0)))),none⟩,
 ⟨some 105,.load .sc (.t 104),none⟩,
 ⟨some 106,.mv (.t 0),none⟩,
 ⟨some 107,.idxSl 1 (.t 106) (.k (.c (.d (.int .i64 1)))),none⟩,
 ⟨some 108,.load .sc (.t 107),none⟩,
 ⟨some 109,.mv (.t 0),none⟩,
 ⟨some 110,.idxSl 1 (.t 109) (.k (.c (.d (.int .i64 2)))),none⟩,
 ⟨some 111,.load .sc (.t 110),none⟩,
 ⟨some 112,.mv (.t 0),none⟩,
 ⟨some 113,.idxSl 1 (.t 112) (.k (.c (.d (.int .i64 3)))),none⟩,
 ⟨some 114,.load .sc (.t 113),none⟩,
 ⟨some 115,.mv (.t 0),none⟩,
 ⟨some 116,.idxSl 1 (.t 115) (.k (.c (.d (.int .i64 4)))),none⟩,
 ⟨some 117,.load .sc (.t 116),none⟩,
 ⟨some 118,.mv (.t 0),none⟩,
 ⟨some 119,.idxSl 1 (.t 118) (.k (.c (.d (.int .i64 5)))),none⟩,
 ⟨some 120,.load .sc (.t 119),none⟩,
 ⟨some 121,.mv (.t 0),none⟩,
 ⟨some 122,.idxSl 1 (.t 121) (.k (.c (.d (.int .i64 6)))),none⟩,
 ⟨some 123,.load .sc (.t 122),none⟩,
 ⟨some 124,.mv (.t 0),none⟩,
 ⟨some 125,.idxSl 1 (.t 124) (.k (.c (.d (.int .i64 7)))),none⟩,
 ⟨some 126,.load .sc (.t 125),none⟩,
 ⟨some 12,.mv (.t 105),none⟩,
 ⟨some 13,.mv (.t 108),none⟩,
 ⟨some 14,.mv (.t 111),none⟩,
 ⟨some 15,.mv (.t 114),none⟩,
 ⟨some 16,.mv (.t 117),none⟩,
 ⟨some 17,.mv (.t 120),none⟩,
 ⟨some 18,.mv (.t 123),none⟩,
 ⟨some 19,.mv (.t 126),none⟩])
 (.seq (.seq (.reg [⟨some 20,.mv (.k (.c (.d (.int .i64 0)))),none⟩])
 (.block 4 (.loop lp_rblock_2)))
 (.seq (.reg [⟨some 191,.mv (.t 0),none⟩,
 ⟨some 192,.idxSl 1 (.t 191) (.k (.c (.d (.int .i64 0)))),none⟩,
 ⟨some 193,.load .sc (.t 192),none⟩,
 ⟨some 194,.mv (.t 12),none⟩,
 ⟨some 195,.bin .add (.t 193) (.t 194),none⟩,
 ⟨some 196,.mv (.t 0),none⟩,
 ⟨some 197,.idxSl 1 (.t 196) (.k (.c (.d (.int .i64 1)))),none⟩,
 ⟨some 198,.load .sc (.t 197),none⟩,
 ⟨some 199,.mv (.t 13),none⟩,
 ⟨some 200,.bin .add (.t 198) (.t 199),none⟩,
 ⟨some 201,.mv (.t 0),none⟩,
 ⟨some 202,.idxSl 1 (.t 201) (.k (.c (.d (.int .i64 2)))),none⟩,
 ⟨some 203,.load .sc (.t 202),none⟩,
 ⟨some 204,.mv (.t 14),none⟩,
 ⟨some 205,.bin .add (.t 203) (.t 204),none⟩,
 ⟨some 206,.mv (.t 0),none⟩,
 ⟨some 207,.idxSl 1 (.t 206) (.k (.c (.d (.int .i64 3)))),none⟩,
 ⟨some 208,.load .sc (.t 207),none⟩,
 ⟨some 209,.mv (.t 15),none⟩,
 ⟨some 210,.bin .add (.t 208) (.t 209),none⟩,
 ⟨some 211,.mv (.t 0),none⟩,
 ⟨some 212,.idxSl 1 (.t 211) (.k (.c (.d (.int .i64 4)))),none⟩,
 ⟨some 213,.load .sc (.t 212),none⟩,
 ⟨some 214,.mv (.t 16),none⟩,
 ⟨some 215,.bin .add (.t 213) (.t 214),none⟩,
 ⟨some 216,.mv (.t 0),none⟩,
 ⟨some 217,.idxSl 1 (.t 216) (.k (.c (.d (.int .i64 5)))),none⟩,
 ⟨some 218,.load .sc (.t 217),none⟩,
 ⟨some 219,.mv (.t 17),none⟩,
 ⟨some 220,.bin .add (.t 218) (.t 219),none⟩,
 ⟨some 221,.mv (.t 0),none⟩,
 ⟨some 222,.idxSl 1 (.t 221) (.k (.c (.d (.int .i64 6)))),none⟩,
 ⟨some 223,.load .sc (.t 222),none⟩,
 ⟨some 224,.mv (.t 18),none⟩,
 ⟨some 225,.bin .add (.t 223) (.t 224),none⟩,
 ⟨some 226,.mv (.t 0),none⟩,
 ⟨some 227,.idxSl 1 (.t 226) (.k (.c (.d (.int .i64 7)))),none⟩,
 ⟨some 228,.load .sc (.t 227),none⟩,
 ⟨some 229,.mv (.t 19),none⟩,
 ⟨some 230,.bin .add (.t 228) (.t 229),none⟩,
 ⟨some 231,.bldSl true 8 1 (.int .u32 0) [(0,(.t 195)),(1,(.t 200)),(2,(.t 205)),(3,(.t 210)),(4,(.t 215)),(5,(.t 220)),(6,(.t 225)),(7,(.t 230))],none⟩,
 ⟨some 6,.mv (.t 231),none⟩])
 (.ret))))))),
 [(6,none)]⟩
theorem cf_rblock:compFn Try.prog { own:=[231],comp:=[],frz:=[],nils:=[] } Try.f60=some sf_rblock:=by kernel_rfl
set_option maxHeartbeats 1600000 in
theorem rblock_c (G:Glob) (h:List UInt32) (b:List UInt8) (hh:h.length=8) (hb:b.length=64):Den Try.prog G 60 [.sl (h.map wD),.sl (constK.map wD),.sl (b.map bD)] (.w (.c (.fr 1 ((blockK h b).map wD)))):=by
  refine den_walk Try.func60 cf_rblock rfl rfl ?_
  have hsl:(sched b).length=64:=schedN_len b 48
  have hcl:constK.length=64:=constK_len
  simp only[sf_rblock,putAll,wx,stV,seval,iteOmega,toNatUp,reduceCtorEq]
  refine loop_st (rbSt1 h constK b) (fun t=>16-t) (fun t=>t≤16) 0 (Nat.zero_le _) ?_ ?_
  ·refine ent_l (fun _=>56) ?_ ?_ rfl rfl <;> simp only[wx,wex,stV,seval,iteOmega,toNatUp,reduceCtorEq]
   rfl
  ·intro t ht
   by_cases hlt:t<16
   ·have e0:IntKind.i64.wrap (4*(t:Int))=((4*t:Nat):Int):=by rw[IntWalk.i64_in _ (by omega)]; omega
    have e1:IntKind.i64.wrap (((4*t:Nat):Int)+1)=((4*t+1:Nat):Int):=by rw[IntWalk.i64_in _ (by omega)]; omega
    have e2:IntKind.i64.wrap (((4*t:Nat):Int)+2)=((4*t+2:Nat):Int):=by rw[IntWalk.i64_in _ (by omega)]; omega
    have e3:IntKind.i64.wrap (((4*t:Nat):Int)+3)=((4*t+3:Nat):Int):=by rw[IntWalk.i64_in _ (by omega)]; omega
    have e4:IntKind.i64.wrap ((t:Int)+1)=((t+1:Nat):Int):=by rw[IntWalk.i64_in _ (by omega)]; omega
    have g:∀ k,k<64→(b.map bD)[k]?=some (bD (b.getD k 0)):=fun k hk=>by rw[get_map,getD_someB (by omega)]; rfl
    have g0:=g (4*t) (by omega)
    have g1:=g (4*t+1) (by omega)
    have g2:=g (4*t+2) (by omega)
    have g3:=g (4*t+3) (by omega)
    have h1:t<(sched16 b t++List.replicate (64-t) 0).length:=by rw[List.length_append,sched16_len,List.length_replicate]; omega
    have h2:=set_next (sched16 b t) 0 (wordAt b t) (64-t) (by omega)
    rw[sched16_len] at h2
    have h3:sched16 b t++[wordAt b t]=sched16 b (t+1):=by simp[sched16,List.range_succ]
    have h4:64-t-1=64-(t+1):=by omega
    rw[h3,h4] at h2
    simp only[wordAt] at h2
    have m24:min (24:Int).toNat 32=24:=by decide
    have m16:min (16:Int).toNat 32=16:=by decide
    have m8:min (8:Int).toNat 32=8:=by decide
    simp only[lp_rblock_0,rbSt1,wx,stV,seval,iteOmega,toNatUp,reduceCtorEq,e0,e1,e2,e3,e4,g0,g1,g2,g3,Nat.zero_add,stO_ws h1 (one_w _),set_ws,h2]
    refine lop_next (t+1) (by omega) (by omega) (ent_l id ?_ ?_ rfl rfl) <;> simp only[wx,wex,stV,seval,iteOmega,toNatUp,reduceCtorEq]
   ·obtain rfl:t=16:=by omega
    simp only[lp_rblock_0,rbSt1,wx,stV,seval,iteOmega,toNatUp,reduceCtorEq]
    refine loop_st (rbSt2 h constK b) (fun n=>48-n) (fun n=>n≤48) 0 (Nat.zero_le _) ?_ ?_
    ·have h0:sched16 b 16=schedN b 0:=rfl
     refine ent_l id ?_ ?_ rfl rfl <;> simp only[wx,wex,stV,seval,iteOmega,toNatUp,reduceCtorEq,h0]
    ·intro n hn
     by_cases hlt:n<48
     ·have hl:=schedN_len b n
      have w1:∀ k:Nat,k≤16→IntKind.i64.wrap (((16+n:Nat):Int)-(k:Int))=((16+n-k:Nat):Int):=fun k hk=>by rw[IntWalk.i64_in _ (by omega)]; omega
      have e15:IntKind.i64.wrap (((16+n:Nat):Int)-15)=((16+n-15:Nat):Int):=w1 15 (by decide)
      have e2:IntKind.i64.wrap (((16+n:Nat):Int)-2)=((16+n-2:Nat):Int):=w1 2 (by decide)
      have e7:IntKind.i64.wrap (((16+n:Nat):Int)-7)=((16+n-7:Nat):Int):=w1 7 (by decide)
      have e16:IntKind.i64.wrap (((16+n:Nat):Int)-16)=((16+n-16:Nat):Int):=w1 16 (by decide)
      have e0:IntKind.i64.wrap (((16+n:Nat):Int)+1)=((16+(n+1):Nat):Int):=by rw[IntWalk.i64_in _ (by omega)]; omega
      have g:∀ k,k<16+n→((schedN b n++List.replicate (48-n) 0).map wD)[k]?=some (wD ((schedN b n).getD k 0)):=fun k hk=>by
        rw[List.getElem?_map,get_of (by omega)]; rfl
      have g15:=g (16+n-15) (by omega)
      have g2:=g (16+n-2) (by omega)
      have g7:=g (16+n-7) (by omega)
      have g16:=g (16+n-16) (by omega)
      simp only[lp_rblock_1,rbSt2,wx,stV,seval,iteOmega,toNatUp,reduceCtorEq,e15,e2,e7,e16,e0,g15,g2,g7,g16]
      refine st_call (rturn_c G _ 17 (by decide) (by decide)) rfl (.inr rfl) ?_
      simp only[wx,stV,seval,iteOmega,toNatUp,reduceCtorEq]
      refine st_call (rturn_c G _ 19 (by decide) (by decide)) rfl (.inr rfl) ?_
      simp only[wx,stV,seval,iteOmega,toNatUp,reduceCtorEq,e15,e2,e7,e16,e0,g15,g2,g7,g16]
      refine st_call (rturn_c G _ 7 (by decide) (by decide)) rfl (.inr rfl) ?_
      simp only[wx,stV,seval,iteOmega,toNatUp,reduceCtorEq]
      refine st_call (rturn_c G _ 18 (by decide) (by decide)) rfl (.inr rfl) ?_
      have h1:16+n<(schedN b n++List.replicate (48-n) 0).length:=by rw[List.length_append,hl,List.length_replicate]; omega
      have h2:=set_next (schedN b n) 0 (nextW (schedN b n) (16+n)) (48-n) (by omega)
      rw[hl] at h2
      have h4:48-n-1=48-(n+1):=by omega
      have h3:schedN b n++[nextW (schedN b n) (16+n)]=schedN b (n+1):=rfl
      rw[h3,h4] at h2
      simp only[nextW,smallA,smallB] at h2
      simp only[wx,stV,seval,iteOmega,toNatUp,reduceCtorEq,e15,e2,e7,e16,e0,g15,g2,g7,g16,stO_ws h1 (one_w _),set_ws,h2]
      refine lop_next (n+1) (by omega) (by omega) (ent_l id ?_ ?_ rfl rfl) <;> simp only[wx,wex,stV,seval,iteOmega,toNatUp,reduceCtorEq]
     ·have hn48:n=48:=by omega
      have h0:48-n=0:=by omega
      obtain⟨h0',h1,h2,h3,h4,h5,h6,h7,rfl⟩:=eight hh
      simp only[lp_rblock_1,rbSt2,wx,stV,seval,iteOmega,toNatUp,reduceCtorEq,h0,List.append_nil,List.replicate_zero,← sched_at b n hn48]
      refine loop_st (rbR3 [h0',h1,h2,h3,h4,h5,h6,h7] b) (fun n=>64-n) (fun n=>n≤64) 0 (Nat.zero_le _) ?_ ?_
      ·refine ent_l id ?_ ?_ rfl rfl <;> simp only[rbR3,rbSt3,wx,wex,stV,seval,iteOmega,toNatUp,reduceCtorEq]
       exact⟨rfl,rfl,rfl,rfl,rfl,rfl,rfl,rfl⟩
      ·clear hn hlt hn48 h0
       intro n hn
       by_cases hlt:n<64
       ·have e1:IntKind.i64.wrap ((n:Int)+1)=((n+1:Nat):Int):=by rw[IntWalk.i64_in _ (by omega)]; rfl
        have g1:(constK.map wD)[n]?=some (wD (constK.getD n 0)):=by rw[get_map,getD_some (by omega)]; rfl
        have g2:((sched b).map wD)[n]?=some (wD ((sched b).getD n 0)):=by rw[get_map,getD_some (by omega)]; rfl
        have hr:(Eight.of [h0',h1,h2,h3,h4,h5,h6,h7]).rounds constK (sched b) (n+1)=((Eight.of [h0',h1,h2,h3,h4,h5,h6,h7]).rounds constK (sched b) n).step (constK.getD n 0) ((sched b).getD n 0):=rfl
        generalize hs:(Eight.of [h0',h1,h2,h3,h4,h5,h6,h7]).rounds constK (sched b) n=s at hr
        simp only[lp_rblock_2,rbR3,rbSt3,hs,wx,stV,seval,iteOmega,toNatUp,reduceCtorEq,hcl,hsl,g1,g2,e1]
        refine st_call (rturn_c G _ 6 (by decide) (by decide)) rfl (.inr rfl) ?_
        simp only[wx,stV,seval,iteOmega,toNatUp,reduceCtorEq]
        refine st_call (rturn_c G _ 11 (by decide) (by decide)) rfl (.inr rfl) ?_
        simp only[wx,stV,seval,iteOmega,toNatUp,reduceCtorEq]
        refine st_call (rturn_c G _ 25 (by decide) (by decide)) rfl (.inr rfl) ?_
        simp only[wx,stV,seval,iteOmega,toNatUp,reduceCtorEq,g1,g2,hcl,hsl]
        refine st_call (rturn_c G _ 2 (by decide) (by decide)) rfl (.inr rfl) ?_
        simp only[wx,stV,seval,iteOmega,toNatUp,reduceCtorEq]
        refine st_call (rturn_c G _ 13 (by decide) (by decide)) rfl (.inr rfl) ?_
        simp only[wx,stV,seval,iteOmega,toNatUp,reduceCtorEq]
        refine st_call (rturn_c G _ 22 (by decide) (by decide)) rfl (.inr rfl) ?_
        simp only[wx,stV,seval,iteOmega,toNatUp,reduceCtorEq,e1]
        refine lop_next (n+1) (by omega) (by omega) ?_
        rw[rbR3,hr]
        refine (ent_l id ?_ ?_ rfl rfl) <;> simp only[wx,wex,stV,seval,iteOmega,toNatUp,reduceCtorEq,step_a,step_b,step_c,step_d,step_e,step_f,step_g,step_h]
        exact⟨rfl,rfl⟩
       ·obtain rfl:n=64:=by omega
        have hK:blockK [h0',h1,h2,h3,h4,h5,h6,h7] b=((Eight.of [h0',h1,h2,h3,h4,h5,h6,h7]).rounds constK (sched b) 64).sum [h0',h1,h2,h3,h4,h5,h6,h7]:=rfl
        rw[hK]
        simp only[rbR3]
        generalize (Eight.of [h0',h1,h2,h3,h4,h5,h6,h7]).rounds constK (sched b) 64=s
        have e8:s.sum [h0',h1,h2,h3,h4,h5,h6,h7]=[addW h0' s.a,addW h1 s.b,addW h2 s.c,addW h3 s.d,addW h4 s.e,addW h5 s.f,addW h6 s.g,addW h7 s.h]:=rfl
        simp only[lp_rblock_2,rbSt3,e8,wx,stV,seval,iteOmega,toNatUp,reduceCtorEq]
        exact ret_own (id:=1848) (n:=8) (s:=1) (by simp only[wx,stV,seval,iteOmega,toNatUp,reduceCtorEq]) (by simp only[wx,stV,seval,iteOmega,toNatUp,reduceCtorEq] <;> rfl) rfl
end Go.Proofs.Ytcikhnjfkfigjaa
namespace Go.Proofs.Ytcikhnjfkfigjaa
open Go.RowKit
def foldB (h:List UInt32) (b:List UInt8):Nat→List UInt32
  | 0=>h
  | n+1=>blockK (foldB h b n) ((b.drop (64*n)).take 64)
theorem foldB_len {h:List UInt32} (hh:h.length=8) (b:List UInt8):∀ n,(foldB h b n).length=8
  | 0=>hh
  | n+1=>blockK_len _ _
def padK (rest:List UInt8) (count:Nat):List UInt8:=rest++[128]++List.replicate ((119-rest.length)%64) 0++putL (count*8) 8
def wordsB (ws:List UInt32):List UInt8:=ws.flatMap fun w=>putL w.toNat 4
def finK (s:List UInt32) (rest:List UInt8) (count:Nat):List UInt8:=wordsB (foldB s (padK rest count) ((padK rest count).length / 64))
def sumK (b:List UInt8):List UInt8:=finK (foldB firstK b (b.length / 64)) (b.drop (64*(b.length / 64))) b.length
theorem wordsB_len:∀ ws:List UInt32,(wordsB ws).length=4*ws.length
  | []=>rfl
  | w::ws=>by
    have:wordsB (w::ws)=putL w.toNat 4++wordsB ws:=rfl
    rw[this,List.length_append,putL_length,wordsB_len ws,List.length_cons]; omega
theorem finK_len {s:List UInt32} (hs:s.length=8) (rest:List UInt8) (count:Nat):(finK s rest count).length=32:=by
  unfold finK
  rw[wordsB_len,foldB_len hs]
theorem sumK_len (b:List UInt8):(sumK b).length=32:=finK_len (foldB_len firstK_len _ _) _ _
theorem padK_len (rest:List UInt8) (count:Nat) (h:rest.length<64):(padK rest count).length=rest.length+9+(119-rest.length)%64∧(padK rest count).length%64=0:=by
  have:(padK rest count).length=rest.length+9+(119-rest.length)%64:=by simp[padK,putL_length]; omega
  exact⟨this,by omega⟩
theorem wordsB_take (ws:List UInt32) (k:Nat) (h:k<ws.length):wordsB (ws.take k)++putL (ws.getD k 0).toNat 4=wordsB (ws.take (k+1)):=by
  rw[List.take_succ_eq_append_getElem h]
  unfold wordsB
  rw[List.flatMap_append]
  simp[h]
end Go.Proofs.Ytcikhnjfkfigjaa
namespace Go.Proofs.Ytcikhnjfkfigjaa
open Go.RowKit IntWalk
set_option maxHeartbeats 1600000
theorem rep_snoc {α:Type} (a:α) (j:Nat):List.replicate j a++[a]=List.replicate (j+1) a:=by rw[List.replicate_succ']
def rf1St (h:List UInt32) (rest:List UInt8) (count:Nat) (j:Nat):St:=⟨ofL [(0,.w (.c (.d (.sl (h.map wD))))),(2,.w (.c (.d (.int .i64 (count:Int))))),(7,.w (.c (.d (.sl (constK.map wD))))),(8,.w (.c (.own 1 1 0 (rest++[128]++List.replicate j 0).length)))],hL [(1,.row 1 ((rest++[128]++List.replicate j 0).map bD))],uL [1]⟩
def rf2St (h:List UInt32) (p:List UInt8) (n:Nat):St:=⟨ofL [(0,.w (.c (.d (.sl ((foldB h p n).map wD))))),(7,.w (.c (.d (.sl (constK.map wD))))),(8,.w (.c (.own 1 1 0 p.length))),(9,.w (.c (.d (.int .i64 ((64*n:Nat):Int)))))],hL [(1,.row 1 (p.map bD))],uL [1]⟩
def rf3St (ws:List UInt32) (k:Nat):St:=⟨ofL [(0,.w (.c (.d (.sl (ws.map wD))))),(10,.w (.c (.own 1 1 0 (wordsB (ws.take k)).length))),(11,.w (.c (.d (.int .i64 (k:Int)))))],hL [(1,.row 1 ((wordsB (ws.take k)).map bD))],uL [1]⟩
theorem get_ws {ws:List UInt32} {k:Nat} (h:k<ws.length):(ws.map wD)[k]?=some (wD (ws.getD k 0)):=by
  simp[h]
theorem b0_is:D.int .u8 0=bD 0:=rfl
theorem b128_is:D.int .u8 128=bD 128:=rfl
theorem app_c (l:List UInt8) (a:UInt8):l.map bD++[bD a]=(l++[a]).map bD:=by simp
def lp_rfin_0:SCode :=
 .seq (.seq (.reg [⟨some 18,.mv (.t 8),none⟩,
 ⟨some 19,.len (.t 18),none⟩,
 ⟨some 20,.bin .rem (.t 19) (.k (.c (.d (.int .i64 64)))),none⟩,
 ⟨some 21,.bin .neq (.t 20) (.k (.c (.d (.int .i64 56)))),none⟩])
 (.cond (.t 21) (.skip)
 (.exit 0)))
 (.block 1 (.reg [⟨some 22,.mv (.t 8),none⟩,
 ⟨some 23,.bldSl false 1 1 (.int .u8 0) [(0,(.k (.c (.d (.int .u8 0)))))],none⟩,
 ⟨some 24,.app false 1 1 (.t 22) (.t 23),none⟩,
 ⟨some 8,.mv (.t 24),none⟩]))
def lp_rfin_1:SCode :=
 .seq (.seq (.reg [⟨some 31,.mv (.t 9),none⟩,
 ⟨some 32,.mv (.t 8),none⟩,
 ⟨some 33,.len (.t 32),none⟩,
 ⟨some 34,.bin .lss (.t 31) (.t 33),none⟩])
 (.cond (.t 34) (.skip)
 (.exit 2)))
 (.seq (.block 3 (.reg [⟨some 37,.mv (.t 0),none⟩,
 ⟨some 38,.mv (.t 7),none⟩,
 ⟨some 39,.mv (.t 8),none⟩,
 ⟨some 40,.mv (.t 9),none⟩,
 ⟨some 41,.mv (.t 9),none⟩,
 ⟨some 42,.bin .add (.t 41) (.k (.c (.d (.int .i64 64)))),none⟩,
 ⟨some 43,.slice 1 (.t 39) (some (.t 40)) (some (.t 42)) none,none⟩,
 ⟨some 44,.call 60 [(.t 37),(.t 38),(.t 43)] none,none⟩,
 ⟨some 0,.mv (.t 44),none⟩]))
 (.reg [⟨some 35,.mv (.t 9),none⟩,
 ⟨some 36,.bin .add (.t 35) (.k (.c (.d (.int .i64 64)))),none⟩,
 ⟨some 9,.mv (.t 36),none⟩]))
def lp_rfin_2:SCode :=
 .seq (.seq (.reg [⟨some 46,.mv (.t 11),none⟩,
 ⟨some 47,.bin .lss (.t 46) (.k (.c (.d (.int .i64 8)))),none⟩])
 (.cond (.t 47) (.skip)
 (.exit 4)))
 (.seq (.block 5 (.reg [⟨some 50,.mv (.t 10),none⟩,
 ⟨some 51,.mv (.t 0),none⟩,
 ⟨some 52,.mv (.t 11),none⟩,
 ⟨some 53,.idxSl 1 (.t 51) (.t 52),none⟩,
 ⟨some 54,.load .sc (.t 53),none⟩,
 ⟨some 55,.conv .u64 (.t 54),none⟩,
 ⟨some 56,.call 27 [(.t 55),(.k (.c (.d (.int .i64 4))))] none,none⟩,
 ⟨some 57,.app false 1 1 (.t 50) (.t 56),none⟩,
 ⟨some 10,.mv (.t 57),none⟩]))
 (.reg [⟨some 48,.mv (.t 11),none⟩,
 ⟨some 49,.bin .add (.t 48) (.k (.c (.d (.int .i64 1)))),none⟩,
 ⟨some 11,.mv (.t 49),none⟩]))
def sf_rfin:SFn:=⟨3,59,
 .seq (.reg [⟨some 6,.mv (.k (.c .nil)),none⟩])
 (.seq (.reg [⟨some 12,.call 59 [] none,none⟩,
 ⟨some 7,.mv (.t 12),none⟩])
 (.seq (.reg [⟨some 13,.mv (.t 1),none⟩,
 ⟨some 14,.bldSl false 1 1 (.sl []) [(0,(.t 13))],none⟩,
 ⟨some 15,.call 26 [(.t 14)] (some (0,1)),none⟩,
 ⟨some 16,.bldSl false 1 1 (.int .u8 0) [(0,(.k (.c (.d (.int .u8 128)))))],none⟩,
 ⟨some 17,.app false 1 1 (.t 15) (.t 16),none⟩,
 ⟨some 8,.mv (.t 17),none⟩])
 (.seq (.block 0 (.loop lp_rfin_0))
 (.seq (.reg [⟨some 25,.mv (.t 8),none⟩,
 ⟨some 26,.mv (.t 2),none⟩,
 ⟨some 27,.conv .u64 (.t 26),none⟩,
 ⟨some 28,.bin .mul (.t 27) (.k (.c (.d (.int .u64 8)))),none⟩,
 ⟨some 29,.call 27 [(.t 28),(.k (.c (.d (.int .i64 8))))] none,none⟩,
 ⟨some 30,.app false 1 1 (.t 25) (.t 29),none⟩,
 ⟨some 8,.mv (.t 30),none⟩])
 (.seq (.seq (.reg [⟨some 9,.mv (.k (.c (.d (.int .i64 0)))),none⟩])
 (.block 2 (.loop lp_rfin_1)))
 (.seq (.reg [⟨some 45,.bldSl true 0 1 (.int .u8 0) [],none⟩,
 ⟨some 10,.mv (.t 45),none⟩])
 (.seq (.seq (.reg [⟨some 11,.mv (.k (.c (.d (.int .i64 0)))),none⟩])
 (.block 4 (.loop lp_rfin_2)))
 (.seq (.reg [⟨some 58,.mv (.t 10),none⟩,
 ⟨some 6,.mv (.t 58),none⟩])
 (.ret))))))))),
 [(6,none)]⟩
theorem cf_rfin:compFn Try.prog { own:=[15,45],comp:=[],frz:=[],nils:=[] } Try.f61=some sf_rfin:=by kernel_rfl
theorem rfin_c (G:Glob) (s:List UInt32) (rest:List UInt8) (count:Nat) (hs:s.length=8) (hr:rest.length<64) (hc:count≤140737488355328):Den Try.prog G 61 [.sl (s.map wD),.sl (rest.map bD),.int .i64 (count:Int)] (.w (.c (.fr 1 ((finK s rest count).map bD)))):=by
  refine den_walk Try.func61 cf_rfin rfl rfl ?_
  have hj:=rjoin_c G [rest] (by simp) (by simp; omega)
  have hf:[rest].flatten=rest:=by simp
  rw[hf] at hj
  obtain⟨hp1,hp2⟩:=padK_len rest count hr
  simp only[sf_rfin,putAll,wx,wy,wz,stV,seval,iteOmega,toNatUp,reduceCtorEq]
  refine st_call (rcon_c G) rfl (.inl rfl) ?_
  simp only[wx,wy,wz,stV,seval,iteOmega,toNatUp,reduceCtorEq]
  refine st_call hj rfl (.inl rfl) ?_
  simp only[wx,wy,wz,stV,seval,iteOmega,toNatUp,reduceCtorEq,srcV,b128_is,app_c]
  refine loop_st (rf1St s rest count) (fun j=>(119-rest.length)%64-j) (fun j=>j≤(119-rest.length)%64) 0 (Nat.zero_le _) ?_ ?_
  ·refine ent_l (fun _=>136) ?_ ?_ rfl rfl <;> simp only[wx,wex,wez,stV,seval,iteOmega,toNatUp,reduceCtorEq]
  ·intro j hj
   have hl:(rest++[128]++List.replicate j 0).length=rest.length+1+j:=by simp; omega
   have ht:((rest++[128]++List.replicate j 0).length:Int).tmod 64=(((rest.length+1+j)%64:Nat):Int):=by rw[hl]; rfl
   by_cases hlt:j<(119-rest.length)%64
   ·have e1:rest++[128]++List.replicate j 0++[0]=rest++[128]++List.replicate (j+1) 0:=by
      rw[List.append_assoc,rep_snoc]
    generalize hx:rest++[128]++List.replicate j 0=x at *
    simp only[lp_rfin_0,rf1St,hx,wx,wy,wz,stV,seval,iteOmega,toNatUp,reduceCtorEq,ht,srcV,b0_is,app_c,e1]
    refine lop_next (j+1) (by omega) (by omega) (ent_l (fun _=>192) ?_ ?_ rfl rfl) <;> simp only[wx,wex,wez,stV,seval,iteOmega,toNatUp,reduceCtorEq]
   ·obtain rfl:j=(119-rest.length)%64:=by omega
    generalize hx:rest++[128]++List.replicate ((119-rest.length)%64) 0=x at *
    simp only[lp_rfin_0,rf1St,hx,wx,wy,wz,stV,seval,iteOmega,toNatUp,reduceCtorEq,ht]
    refine st_call (rput_in G (count*8) 8 (by decide)) ?_ (.inl rfl) ?_
    ·simp only[wx,wy,wz,stV,seval,iteOmega,toNatUp,reduceCtorEq]
    have hx2:x++putL (count*8) 8=padK rest count:=by rw[← hx]; rfl
    simp only[wx,wy,wz,stV,seval,iteOmega,toNatUp,reduceCtorEq,srcV,app_map,hx2,putL_length]
    refine loop_st (rf2St s (padK rest count)) (fun n=>(padK rest count).length / 64-n) (fun n=>n≤(padK rest count).length / 64) 0 (Nat.zero_le _) ?_ ?_
    ·refine ent_l (fun _=>240) ?_ ?_ rfl rfl <;> simp only[wx,wex,wez,stV,seval,iteOmega,toNatUp,reduceCtorEq,foldB]
    ·generalize hpk:padK rest count=p at *
     intro n hn
     have hl8:=foldB_len hs p n
     by_cases hlt:n<p.length / 64
     ·have h2:((p.drop (64*n)).take 64).length=64:=by rw[List.length_take,List.length_drop]; omega
      have e1:64*n+64-64*n=64:=by omega
      simp only[lp_rfin_1,rf2St,wx,wy,wz,stV,seval,iteOmega,toNatUp,reduceCtorEq]
      refine st_call (rblock_c G (foldB s p n) ((p.drop (64*n)).take 64) hl8 h2) ?_ (.inr (fl_w _ _)) ?_
      ·simp only[wx,wy,wz,stV,seval,iteOmega,toNatUp,reduceCtorEq,obSl,e1]
      simp only[wx,wy,wz,stV,seval,iteOmega,toNatUp,reduceCtorEq]
      have e2:64*(n:Int)+64=64*((n:Int)+1):=by omega
      refine lop_next (n+1) (by omega) (by omega) (ent_l id ?_ ?_ rfl rfl) <;> simp only[wx,wex,wez,stV,seval,iteOmega,toNatUp,reduceCtorEq,foldB,e2]
     ·obtain rfl:n=p.length / 64:=by omega
      have hfk:finK s rest count=wordsB (foldB s p (p.length / 64)):=by unfold finK; rw[hpk]
      rw[hfk]
      simp only[rf2St]
      generalize foldB s p (p.length / 64)=ws at hl8
      have h64:¬ ((64*(p.length / 64):Nat):Int)<(p.length:Int):=by omega
      simp only[lp_rfin_1,wx,wy,wz,stV,seval,iteOmega,toNatUp,reduceCtorEq,h64]
      refine loop_st (rf3St ws) (fun k=>8-k) (fun k=>k≤8) 0 (Nat.zero_le _) ?_ ?_
      ·refine ent_l (fun _=>360) ?_ ?_ rfl rfl <;> simp only[wx,wex,wez,stV,seval,iteOmega,toNatUp,reduceCtorEq,wordsB]
      ·intro k hk
       by_cases hlt:k<8
       ·have hw1:(ws.getD k 0).toNat<4294967296:=word_lt _
        have hwl:=wordsB_len (ws.take k)
        rw[List.length_take] at hwl
        simp only[lp_rfin_2,rf3St,wx,wy,wz,stV,seval,iteOmega,toNatUp,reduceCtorEq,get_ws (show k<ws.length by omega)]
        refine st_call (rput_in G (ws.getD k 0).toNat 4 (by decide)) ?_ (.inl rfl) ?_
        ·simp only[wx,wy,wz,stV,seval,iteOmega,toNatUp,reduceCtorEq]
        simp only[wx,wy,wz,stV,seval,iteOmega,toNatUp,reduceCtorEq,srcV,wordsB_take ws k (by omega),putL_length]
        refine lop_next (k+1) (by omega) (by omega) (ent_l (fun _=>456) ?_ ?_ rfl rfl) <;> simp only[wx,wex,wez,stV,seval,iteOmega,toNatUp,reduceCtorEq]
       ·obtain rfl:k=8:=by omega
        have:ws.take 8=ws:=List.take_of_length_le (by omega)
        simp only[lp_rfin_2,rf3St,wx,wy,wz,stV,seval,iteOmega,toNatUp,reduceCtorEq,this]
        exact ret_own (id:=1) (n:=(wordsB ws).length) (s:=1) (by simp only[wx,stV,seval,iteOmega,toNatUp,reduceCtorEq]) (by simp only[wx,stV,seval,iteOmega,toNatUp,reduceCtorEq]) (by rw[List.length_map])
def rsSt (b:List UInt8) (n:Nat):St:=⟨ofL [(0,.w (.c (.d (.sl (b.map bD))))),(3,.w (.c (.d (.sl ((foldB firstK b n).map wD))))),(4,.w (.c (.d (.sl (constK.map wD))))),(5,.w (.c (.d (.int .i64 ((64*(b.length / 64):Nat):Int))))),(6,.w (.c (.d (.int .i64 ((64*n:Nat):Int)))))],hL [],uL []⟩
def lp_rsum_0:SCode :=
 .seq (.seq (.reg [⟨some 13,.mv (.t 6),none⟩,
 ⟨some 14,.mv (.t 5),none⟩,
 ⟨some 15,.bin .lss (.t 13) (.t 14),none⟩])
 (.cond (.t 15) (.skip)
 (.exit 0)))
 (.seq (.block 1 (.reg [⟨some 18,.mv (.t 3),none⟩,
 ⟨some 19,.mv (.t 4),none⟩,
 ⟨some 20,.mv (.t 0),none⟩,
 ⟨some 21,.mv (.t 6),none⟩,
 ⟨some 22,.mv (.t 6),none⟩,
 ⟨some 23,.bin .add (.t 22) (.k (.c (.d (.int .i64 64)))),none⟩,
 ⟨some 24,.slice 1 (.t 20) (some (.t 21)) (some (.t 23)) none,none⟩,
 ⟨some 25,.call 60 [(.t 18),(.t 19),(.t 24)] none,none⟩,
 ⟨some 3,.mv (.t 25),none⟩]))
 (.reg [⟨some 16,.mv (.t 6),none⟩,
 ⟨some 17,.bin .add (.t 16) (.k (.c (.d (.int .i64 64)))),none⟩,
 ⟨some 6,.mv (.t 17),none⟩]))
def sf_rsum:SFn:=⟨1,33,
 .seq (.reg [⟨some 2,.mv (.k (.c .nil)),none⟩])
 (.seq (.reg [⟨some 7,.call 58 [] none,none⟩,
 ⟨some 8,.call 59 [] none,none⟩,
 ⟨some 3,.mv (.t 7),none⟩,
 ⟨some 4,.mv (.t 8),none⟩])
 (.seq (.reg [⟨some 9,.mv (.t 0),none⟩,
 ⟨some 10,.len (.t 9),none⟩,
 ⟨some 11,.bin .quo (.t 10) (.k (.c (.d (.int .i64 64)))),none⟩,
 ⟨some 12,.bin .mul (.t 11) (.k (.c (.d (.int .i64 64)))),none⟩,
 ⟨some 5,.mv (.t 12),none⟩])
 (.seq (.seq (.reg [⟨some 6,.mv (.k (.c (.d (.int .i64 0)))),none⟩])
 (.block 0 (.loop lp_rsum_0)))
 (.seq (.reg [⟨some 26,.mv (.t 3),none⟩,
 ⟨some 27,.mv (.t 0),none⟩,
 ⟨some 28,.mv (.t 5),none⟩,
 ⟨some 29,.slice 1 (.t 27) (some (.t 28)) none none,none⟩,
 ⟨some 30,.mv (.t 0),none⟩,
 ⟨some 31,.len (.t 30),none⟩,
 ⟨some 32,.call 61 [(.t 26),(.t 29),(.t 31)] (some (0,1)),none⟩,
 ⟨some 2,.mv (.t 32),none⟩])
 (.ret))))),
 [(2,none)]⟩
theorem cf_rsum:compFn Try.prog { own:=[32],comp:=[],frz:=[],nils:=[] } Try.f41=some sf_rsum:=by kernel_rfl
theorem rsum_c (G:Glob) (b:List UInt8) (hb:b.length≤140737488355328):Den Try.prog G 41 [.sl (b.map bD)] (.w (.c (.fr 1 ((sumK b).map bD)))):=by
  refine den_walk Try.func41 cf_rsum rfl rfl ?_
  have e1:(b.length:Int).tdiv 64=((b.length / 64:Nat):Int):=rfl
  have e2:((b.length / 64:Nat):Int)*64=((64*(b.length / 64):Nat):Int):=by omega
  have e3:IntKind.i64.wrap ((64*(b.length / 64):Nat):Int)=((64*(b.length / 64):Nat):Int):=IntWalk.i64_in _ (by omega)
  have e4:IntKind.i64.wrap ((b.length / 64:Nat):Int)=((b.length / 64:Nat):Int):=IntWalk.i64_in _ (by omega)
  simp only[sf_rsum,putAll,wx,wy,stV,seval,iteOmega,toNatUp,reduceCtorEq]
  refine st_call (rfst_c G) rfl (.inl rfl) ?_
  simp only[wx,wy,stV,seval,iteOmega,toNatUp,reduceCtorEq]
  refine st_call (rcon_c G) rfl (.inl rfl) ?_
  simp only[wx,wy,stV,seval,iteOmega,toNatUp,reduceCtorEq,e1,e2,e3,e4]
  refine loop_st (rsSt b) (fun n=>b.length / 64-n) (fun n=>n≤b.length / 64) 0 (Nat.zero_le _) ?_ ?_
  ·refine ent_l id ?_ ?_ rfl rfl <;> simp only[wx,wex,stV,seval,iteOmega,toNatUp,reduceCtorEq,foldB]
  ·intro n hn
   have hl8:=foldB_len firstK_len b n
   by_cases hlt:n<b.length / 64
   ·have h2:((b.drop (64*n)).take 64).length=64:=by rw[List.length_take,List.length_drop]; omega
    have e1:64*n+64-64*n=64:=by omega
    have e5:IntKind.i64.wrap (((64*n:Nat):Int)+64)=((64*(n+1):Nat):Int):=by rw[IntWalk.i64_in _ (by omega)]; omega
    have e6:64*(n+1)-64*n=64:=by omega
    simp only[lp_rsum_0,rsSt,wx,wy,stV,seval,iteOmega,toNatUp,reduceCtorEq,e1,e5,e6]
    refine st_call (rblock_c G (foldB firstK b n) ((b.drop (64*n)).take 64) hl8 h2) ?_ (.inl rfl) ?_
    ·simp only[wx,wy,stV,seval,iteOmega,toNatUp,reduceCtorEq]
    simp only[wx,wy,stV,seval,iteOmega,toNatUp,reduceCtorEq,e5]
    refine lop_next (n+1) (by omega) (by omega) (ent_l id ?_ ?_ rfl rfl) <;> simp only[wx,wex,stV,seval,iteOmega,toNatUp,reduceCtorEq,foldB]
   ·obtain rfl:n=b.length / 64:=by omega
    have e1:List.take (b.length-64*(b.length / 64)) (b.drop (64*(b.length / 64)))=b.drop (64*(b.length / 64)):=List.take_of_length_le (by rw[List.length_drop]; exact Nat.le_refl _)
    simp only[lp_rsum_0,rsSt,wx,wy,stV,seval,iteOmega,toNatUp,reduceCtorEq,e1]
    refine st_call (rfin_c G (foldB firstK b (b.length / 64)) (b.drop (64*(b.length / 64))) b.length hl8 (by rw[List.length_drop]; omega) hb) ?_ (.inl rfl) ?_
    ·simp only[wx,wy,stV,seval,iteOmega,toNatUp,reduceCtorEq]
    simp only[wx,wy,stV,seval,iteOmega,toNatUp,reduceCtorEq]
    exact ret_own (id:=256) (n:=(finK (foldB firstK b (b.length / 64)) (b.drop (64*(b.length / 64))) b.length).length) (s:=1) (by simp only[wx,stV,seval,iteOmega,toNatUp,reduceCtorEq]) (by simp only[wx,stV,seval,iteOmega,toNatUp,reduceCtorEq] <;> rfl) (by rw[List.length_map]; rfl)
end Go.Proofs.Ytcikhnjfkfigjaa
namespace Go.Proofs.Ytcikhnjfkfigjaa
open Go.RowKit
end Go.Proofs.Ytcikhnjfkfigjaa
namespace Go.Proofs.Ytcikhnjfkfigjaa
open Go.RowKit IntWalk
def hashAt (s i:Nat):List UInt8:=sumK (putL s 8++putL i 4)
def bytesN (s:Nat) (k:Nat):List UInt8:=((List.range k).map (hashAt s)).flatten
theorem bytesN_succ (s k:Nat):bytesN s k++hashAt s k=bytesN s (k+1):=by simp[bytesN,List.range_succ]
theorem bytesN_len (s:Nat):∀ k,(bytesN s k).length=32*k
  | 0=>rfl
  | k+1=>by rw[← bytesN_succ,List.length_append,bytesN_len s k]; unfold hashAt; rw[sumK_len]; omega
def bytesK (seed n:Int):List UInt8:=(bytesN (seed%18446744073709551616).toNat ((n.toNat+31) / 32)).take n.toNat
theorem bytesK_len (seed n:Int):(bytesK seed n).length=n.toNat:=by
  unfold bytesK; rw[List.length_take,bytesN_len]; omega
def byLSt (seed n:Int) (s:Nat) (k:Nat):St:=⟨ofL [(0,.w (.c (.d (.int .i64 seed)))),(1,.w (.c (.d (.int .i64 n)))),(5,.w (.c (.own 1 1 0 (bytesN s k).length))),(6,.w (.c (.d (.int .i64 (k:Int)))))],hL [(1,.row 1 ((bytesN s k).map bD))],uL [1]⟩
def lp_wbytes_0:SCode :=
 .seq (.seq (.reg [⟨some 8,.mv (.t 5),none⟩,
 ⟨some 9,.len (.t 8),none⟩,
 ⟨some 10,.mv (.t 1),none⟩,
 ⟨some 11,.bin .lss (.t 9) (.t 10),none⟩])
 (.cond (.t 11) (.skip)
 (.exit 0)))
 (.seq (.block 1 (.reg [⟨some 14,.mv (.t 5),none⟩,
 ⟨some 15,.mv (.t 0),none⟩,
 ⟨some 16,.conv .u64 (.t 15),none⟩,
 ⟨some 17,.call 27 [(.t 16),(.k (.c (.d (.int .i64 8))))] none,none⟩,
 ⟨some 18,.mv (.t 6),none⟩,
 ⟨some 19,.conv .u64 (.t 18),none⟩,
 ⟨some 20,.call 27 [(.t 19),(.k (.c (.d (.int .i64 4))))] none,none⟩,
 ⟨some 21,.bldSl false 2 1 (.sl []) [(0,(.t 17)),(1,(.t 20))],none⟩,
 ⟨some 22,.call 26 [(.t 21)] none,none⟩,
 ⟨some 23,.call 41 [(.t 22)] none,none⟩,
 ⟨some 24,.app false 1 1 (.t 14) (.t 23),none⟩,
 ⟨some 5,.mv (.t 24),none⟩]))
 (.reg [⟨some 12,.mv (.t 6),none⟩,
 ⟨some 13,.bin .add (.t 12) (.k (.c (.d (.int .i64 1)))),none⟩,
 ⟨some 6,.mv (.t 13),none⟩]))
def sf_wbytes:SFn:=⟨2,29,
 .seq (.reg [⟨some 4,.mv (.k (.c .nil)),none⟩])
 (.seq (.reg [⟨some 7,.bldSl true 0 1 (.int .u8 0) [],none⟩,
 ⟨some 5,.mv (.t 7),none⟩])
 (.seq (.seq (.reg [⟨some 6,.mv (.k (.c (.d (.int .i64 0)))),none⟩])
 (.block 0 (.loop lp_wbytes_0)))
 (.seq (.reg [⟨some 25,.mv (.t 5),none⟩,
 ⟨some 26,.mv (.t 1),none⟩,
 ⟨some 27,.max [(.t 26),(.k (.c (.d (.int .i64 0))))],none⟩,
 ⟨some 28,.slice 1 (.t 25) none (some (.t 27)) none,none⟩,
 ⟨some 4,.mv (.t 28),none⟩])
 (.ret)))),
 [(4,none)]⟩
theorem cf_wbytes:compFn Try.prog { own:=[7],comp:=[],frz:=[],nils:=[] } Try.f15=some sf_wbytes:=by kernel_rfl
set_option maxHeartbeats 1600000 in
theorem wbytes_f (G:Glob) (seed n:Int) (hn:n≤1099511627776):Den Try.prog G 15 [.int .i64 seed,.int .i64 n] (.w (.c (.fr 1 ((bytesK seed n).map bD)))):=by
  refine den_walk Try.func15 cf_wbytes rfl rfl ?_
  obtain⟨s,hs⟩:∃ s:Nat,(seed%18446744073709551616).toNat=s:=⟨_,rfl⟩
  have hw:IntKind.u64.wrap seed=(s:Int):=by rw[IntKind.wrap_u64,← hs]; omega
  have hs2:s<18446744073709551616:=by omega
  have hK:bytesK seed n=(bytesN s ((n.toNat+31) / 32)).take n.toNat:=by unfold bytesK; rw[hs]
  rw[hK]
  simp only[sf_wbytes,putAll,wx,wy,wz,stV,seval,iteOmega,toNatUp,reduceCtorEq]
  refine loop_st (byLSt seed n s) (fun k=>(n.toNat+31) / 32-k) (fun k=>k≤(n.toNat+31) / 32) 0 (Nat.zero_le _) ?_ ?_
  ·refine ent_l (fun _=>56) ?_ ?_ rfl rfl <;> simp only[wx,wex,wez,stV,seval,iteOmega,toNatUp,reduceCtorEq] <;> rfl
  ·intro k hk
   have hl:=bytesN_len s k
   by_cases hlt:k<(n.toNat+31) / 32
   ·have hc:((bytesN s k).length:Int)<n:=by omega
    have hj:=rjoin_c G [putL s 8,putL k 4] (by simp) (by simp[putL_length])
    have hf:[putL s 8,putL k 4].flatten=putL s 8++putL k 4:=by simp
    rw[hf] at hj
    have hb:=bytesN_succ s k
    have hk2:IntKind.u64.wrap (k:Int)=(k:Int):=u64_in _ (by omega) (by omega)
    simp only[lp_wbytes_0,byLSt,wx,wy,stV,seval,iteOmega,toNatUp,reduceCtorEq,hw,hk2]
    refine st_call (rput_in G s 8 (by decide)) rfl (.inl rfl) ?_
    simp only[wx,wy,stV,seval,iteOmega,toNatUp,reduceCtorEq,hw,hk2]
    refine st_call (rput_in G k 4 (by decide)) rfl (.inl rfl) ?_
    simp only[wx,wy,stV,seval,iteOmega,toNatUp,reduceCtorEq]
    refine st_call hj rfl (.inl rfl) ?_
    simp only[wx,wy,stV,seval,iteOmega,toNatUp,reduceCtorEq]
    refine st_call (rsum_c G (putL s 8++putL k 4) (by simp[putL_length])) rfl (.inl rfl) ?_
    have hh:(sumK (putL s 8++putL k 4)).length=32:=sumK_len _
    have hb':bytesN s k++sumK (putL s 8++putL k 4)=bytesN s (k+1):=hb
    simp only[wx,wy,wz,stV,seval,iteOmega,toNatUp,reduceCtorEq,srcV,app_map,hb',hh]
    refine lop_next (k+1) (by omega) (by omega) (ent_l (fun _=>192) ?_ ?_ rfl rfl) <;> simp only[wx,wex,wez,stV,seval,iteOmega,toNatUp,reduceCtorEq]
   ·obtain rfl:k=(n.toNat+31) / 32:=by omega
    have hc:¬ ((bytesN s ((n.toNat+31) / 32)).length:Int)<n:=by omega
    by_cases h0:n<0
    ·have e0:n.toNat=0:=by omega
     simp only[lp_wbytes_0,byLSt,wx,wy,wz,stV,seval,iteOmega,toNatUp,reduceCtorEq,hc,List.foldl_cons,List.foldl_nil]
     rw[e0,List.map_take]
     exact ret_ownN (id:=1) (s:=1) (by simp only[wx,stV,seval,iteOmega,toNatUp,reduceCtorEq]) (by simp only[wx,stV,seval,iteOmega,toNatUp,reduceCtorEq]) (Nat.zero_le _)
    ·simp only[lp_wbytes_0,byLSt,wx,wy,wz,stV,seval,iteOmega,toNatUp,reduceCtorEq,hc,List.foldl_cons,List.foldl_nil]
     rw[List.map_take]
     exact ret_ownN (id:=1) (s:=1) (by simp only[wx,stV,seval,iteOmega,toNatUp,reduceCtorEq]) (by simp only[wx,stV,seval,iteOmega,toNatUp,reduceCtorEq]) (by rw[List.length_map,bytesN_len]; omega)
theorem wbytes_c (G:Glob) (seed n:Int) (hn:n≤1099511627776):Den Try.prog G 15 [.int .i64 seed,.int .i64 n] (.w (.c (.d (.sl ((bytesK seed n).map bD))))):=den_ro (wbytes_f G seed n hn)
end Go.Proofs.Ytcikhnjfkfigjaa
namespace Go.Proofs.Ytcikhnjfkfigjaa
open Go.RowKit
end Go.Proofs.Ytcikhnjfkfigjaa
namespace Go.Proofs.Ytcikhnjfkfigjaa
open Go.RowKit IntWalk
def sf_wkey:SFn:=⟨1,5,
 .seq (.reg [⟨some 2,.mv (.k (.c .nil)),none⟩])
 (.seq (.reg [⟨some 3,.mv (.t 0),none⟩,
 ⟨some 4,.call 15 [(.t 3),(.k (.c (.d (.int .i64 32))))] none,none⟩,
 ⟨some 2,.mv (.t 4),none⟩])
 (.ret)),
 [(2,none)]⟩
theorem cf_wkey:compFn Try.prog { own:=[],comp:=[],frz:=[],nils:=[] } Try.f13=some sf_wkey:=by kernel_rfl
theorem wkey_c (G:Glob) (seed:Int):Den Try.prog G 13 [.int .i64 seed] (.w (.c (.d (.sl ((bytesK seed 32).map bD))))):=by
  refine den_walk Try.func13 cf_wkey rfl rfl ?_
  simp only[sf_wkey,putAll,wx,wy,wz,stV,seval,iteOmega,toNatUp,reduceCtorEq]
  refine st_call (wbytes_c G seed 32 (by decide)) rfl (.inl rfl) ?_
  simp only[wx,wy,wz,stV,seval,iteOmega,toNatUp,reduceCtorEq]
  exact ret_d1 (by simp only[wx,wy,wz,stV,seval,iteOmega,toNatUp,reduceCtorEq])
end Go.Proofs.Ytcikhnjfkfigjaa
namespace Go.Proofs.Ytcikhnjfkfigjaa
open Go.RowKit
end Go.Proofs.Ytcikhnjfkfigjaa
namespace Go.Proofs.Ytcikhnjfkfigjaa
open Go.RowKit IntWalk
theorem xt_cases (x:UInt8):xtB x=if shrB x 7==1 then xorB (shlB x 1) 27 else shlB x 1:=by
  have:=all_b (p:=fun x=>xtB x==if shrB x 7==1 then xorB (shlB x 1) 27 else shlB x 1) (by decide +kernel) x
  simpa using this
theorem xt_two (x:UInt8):timesK x 2=xtB x:=by
  have:=all_b (p:=fun x=>timesK x 2==xtB x) (by decide +kernel) x
  simpa using this
def sf_dbl:SFn:=⟨1,11,
 .seq (.reg [⟨some 2,.mv (.k (.c (.d (.int .u8 0)))),none⟩])
 (.seq (.seq (.reg [⟨some 3,.mv (.t 0),none⟩,
 ⟨some 4,.bin .shr (.t 3) (.k (.c (.d (.int .u64 7)))),none⟩,
 ⟨some 5,.bin .eql (.t 4) (.k (.c (.d (.int .u8 1)))),none⟩])
 (.cond (.t 5) (.seq (.reg [⟨some 6,.mv (.t 0),none⟩,
 ⟨some 7,.bin .shl (.t 6) (.k (.c (.d (.int .u64 1)))),none⟩,
 ⟨some 8,.bin .xor (.t 7) (.k (.c (.d (.int .u8 27)))),none⟩,
 ⟨some 2,.mv (.t 8),none⟩])
 (.ret))
 (.skip)))
 (.seq (.reg [⟨some 9,.mv (.t 0),none⟩,
 ⟨some 10,.bin .shl (.t 9) (.k (.c (.d (.int .u64 1)))),none⟩,
 ⟨some 2,.mv (.t 10),none⟩])
 (.ret))),
 [(2,none)]⟩
theorem cf_dbl:compFn Try.prog { own:=[],comp:=[],frz:=[],nils:=[] } Try.f94=some sf_dbl:=by kernel_rfl
theorem dbl_c (G:Glob) (x:UInt8):Den Try.prog G 94 [bD x] (.w (.c (.d (bD (xtB x))))):=by
  refine den_walk Try.func94 cf_dbl rfl rfl ?_
  have h1:=bl_shr x .u64 7 7 rfl (by decide)
  have h2:=bl_eql (shrB x 7) 1 1 rfl
  have h3:=bl_shl x .u64 1 1 rfl (by decide)
  have h4:=bl_xor (shlB x 1) 27 27 rfl
  rw[xt_cases]
  cases h5:shrB x 7==1
  ·rw[h5] at h2
   simp only[sf_dbl,putAll,h1,h2,h3,h4,wx,wy,wz,stV,seval,iteOmega,toNatUp,reduceCtorEq,if_false,Bool.false_eq_true]
   exact ret_d1 (by simp only[wx,wy,wz,stV,seval,iteOmega,toNatUp,reduceCtorEq])
  ·rw[h5] at h2
   simp only[sf_dbl,putAll,h1,h2,h3,h4,wx,wy,wz,stV,seval,iteOmega,toNatUp,reduceCtorEq,if_true]
   exact ret_d1 (by simp only[wx,wy,wz,stV,seval,iteOmega,toNatUp,reduceCtorEq])
def boxT:List UInt8:=[99,124,119,123,242,107,111,197,48,1,103,43,254,215,171,118,202,130,201,125,250,89,71,240,173,212,162,175,156,164,114,192,183,253,147,38,54,63,247,204,52,165,229,241,113,216,49,21,4,199,35,195,24,150,5,154,7,18,128,226,235,39,178,117,9,131,44,26,27,110,90,160,82,59,214,179,41,227,47,132,83,209,0,237,32,252,177,91,106,203,190,57,74,76,88,207,208,239,170,251,67,77,51,133,69,249,2,127,80,60,159,168,81,163,64,143,146,157,56,245,188,182,218,33,16,255,243,210,205,12,19,236,95,151,68,23,196,167,126,61,100,93,25,115,96,129,79,220,34,42,144,136,70,238,184,20,222,94,11,219,224,50,58,10,73,6,36,92,194,211,172,98,145,149,228,121,231,200,55,109,141,213,78,169,108,86,244,234,101,122,174,8,186,120,37,46,28,166,180,198,232,221,116,31,75,189,139,138,112,62,181,102,72,3,246,14,97,53,87,185,134,193,29,158,225,248,152,17,105,217,142,148,155,30,135,233,206,85,40,223,140,161,137,13,191,230,66,104,65,153,45,15,176,84,187,22]
theorem boxT_eq:boxT=boxL:=by decide +kernel
set_option maxRecDepth 100000 in
theorem box_size:ByteArray.size ⟨#[99,124,119,123,242,107,111,197,48,1,103,43,254,215,171,118,202,130,201,125,250,89,71,240,173,212,162,175,156,164,114,192,183,253,147,38,54,63,247,204,52,165,229,241,113,216,49,21,4,199,35,195,24,150,5,154,7,18,128,226,235,39,178,117,9,131,44,26,27,110,90,160,82,59,214,179,41,227,47,132,83,209,0,237,32,252,177,91,106,203,190,57,74,76,88,207,208,239,170,251,67,77,51,133,69,249,2,127,80,60,159,168,81,163,64,143,146,157,56,245,188,182,218,33,16,255,243,210,205,12,19,236,95,151,68,23,196,167,126,61,100,93,25,115,96,129,79,220,34,42,144,136,70,238,184,20,222,94,11,219,224,50,58,10,73,6,36,92,194,211,172,98,145,149,228,121,231,200,55,109,141,213,78,169,108,86,244,234,101,122,174,8,186,120,37,46,28,166,180,198,232,221,116,31,75,189,139,138,112,62,181,102,72,3,246,14,97,53,87,185,134,193,29,158,225,248,152,17,105,217,142,148,155,30,135,233,206,85,40,223,140,161,137,13,191,230,66,104,65,153,45,15,176,84,187,22]⟩=256:=rfl
set_option maxRecDepth 100000 in
theorem box_at (x:UInt8):(ByteArray.data ⟨#[99,124,119,123,242,107,111,197,48,1,103,43,254,215,171,118,202,130,201,125,250,89,71,240,173,212,162,175,156,164,114,192,183,253,147,38,54,63,247,204,52,165,229,241,113,216,49,21,4,199,35,195,24,150,5,154,7,18,128,226,235,39,178,117,9,131,44,26,27,110,90,160,82,59,214,179,41,227,47,132,83,209,0,237,32,252,177,91,106,203,190,57,74,76,88,207,208,239,170,251,67,77,51,133,69,249,2,127,80,60,159,168,81,163,64,143,146,157,56,245,188,182,218,33,16,255,243,210,205,12,19,236,95,151,68,23,196,167,126,61,100,93,25,115,96,129,79,220,34,42,144,136,70,238,184,20,222,94,11,219,224,50,58,10,73,6,36,92,194,211,172,98,145,149,228,121,231,200,55,109,141,213,78,169,108,86,244,234,101,122,174,8,186,120,37,46,28,166,180,198,232,221,116,31,75,189,139,138,112,62,181,102,72,3,246,14,97,53,87,185,134,193,29,158,225,248,152,17,105,217,142,148,155,30,135,233,206,85,40,223,140,161,137,13,191,230,66,104,65,153,45,15,176,84,187,22]⟩).toList[x.toNat]?=some (subK x):=by
  have e:(ByteArray.data ⟨#[99,124,119,123,242,107,111,197,48,1,103,43,254,215,171,118,202,130,201,125,250,89,71,240,173,212,162,175,156,164,114,192,183,253,147,38,54,63,247,204,52,165,229,241,113,216,49,21,4,199,35,195,24,150,5,154,7,18,128,226,235,39,178,117,9,131,44,26,27,110,90,160,82,59,214,179,41,227,47,132,83,209,0,237,32,252,177,91,106,203,190,57,74,76,88,207,208,239,170,251,67,77,51,133,69,249,2,127,80,60,159,168,81,163,64,143,146,157,56,245,188,182,218,33,16,255,243,210,205,12,19,236,95,151,68,23,196,167,126,61,100,93,25,115,96,129,79,220,34,42,144,136,70,238,184,20,222,94,11,219,224,50,58,10,73,6,36,92,194,211,172,98,145,149,228,121,231,200,55,109,141,213,78,169,108,86,244,234,101,122,174,8,186,120,37,46,28,166,180,198,232,221,116,31,75,189,139,138,112,62,181,102,72,3,246,14,97,53,87,185,134,193,29,158,225,248,152,17,105,217,142,148,155,30,135,233,206,85,40,223,140,161,137,13,191,230,66,104,65,153,45,15,176,84,187,22]⟩).toList=boxT:=rfl
  rw[e,boxT_eq]; exact boxL_get x
set_option maxRecDepth 100000
def lit_sub_0:ByteArray:=⟨#[99,124,119,123,242,107,111,197,48,1,103,43,254,215,171,118,202,130,201,125,250,89,71,240,173,212,162,175,156,164,114,192,183,253,147,38,54,63,247,204,52,165,229,241,113,216,49,21,4,199,35,195,24,150,5,154,7,18,128,226,235,39,178,117,9,131,44,26,27,110,90,160,82,59,214,179,41,227,47,132,83,209,0,237,32,252,177,91,106,203,190,57,74,76,88,207,208,239,170,251,67,77,51,133,69,249,2,127,80,60,159,168,81,163,64,143,146,157,56,245,188,182,218,33,16,255,243,210,205,12,19,236,95,151,68,23,196,167,126,61,100,93,25,115,96,129,79,220,34,42,144,136,70,238,184,20,222,94,11,219,224,50,58,10,73,6,36,92,194,211,172,98,145,149,228,121,231,200,55,109,141,213,78,169,108,86,244,234,101,122,174,8,186,120,37,46,28,166,180,198,232,221,116,31,75,189,139,138,112,62,181,102,72,3,246,14,97,53,87,185,134,193,29,158,225,248,152,17,105,217,142,148,155,30,135,233,206,85,40,223,140,161,137,13,191,230,66,104,65,153,45,15,176,84,187,22]⟩
def sf_sub:SFn:=⟨1,5,
 .seq (.reg [⟨some 2,.mv (.k (.c (.d (.int .u8 0)))),none⟩])
 (.seq (.reg [⟨some 3,.mv (.t 0),none⟩,
 ⟨some 4,.idxStr (.k (.c (.d (.str lit_sub_0)))) (.t 3),none⟩,
 ⟨some 2,.mv (.t 4),none⟩])
 (.ret)),
 [(2,none)]⟩
theorem cf_sub:compFn Try.prog { own:=[],comp:=[],frz:=[],nils:=[] } Try.f104=some sf_sub:=by kernel_rfl
theorem sub_c (G:Glob) (x:UInt8):Den Try.prog G 104 [bD x] (.w (.c (.d (bD (subK x))))):=by
  refine den_walk Try.func104 cf_sub rfl rfl ?_
  have h:=byte_lt x
  have e:=box_at x
  simp only[sf_sub,lit_sub_0,putAll,wx,wy,wz,stV,seval,iteOmega,toNatUp,reduceCtorEq,box_size,e]
  exact ret_d1 (by simp only[wx,wy,wz,stV,seval,iteOmega,toNatUp,reduceCtorEq])
end Go.Proofs.Ytcikhnjfkfigjaa
namespace Go.Proofs.Ytcikhnjfkfigjaa
open Go.RowKit
def upL (f:Nat→UInt8) (l:List UInt8) (i:Nat):List UInt8:=(List.range i).map f++l.drop i
theorem upL_len (f:Nat→UInt8) (l:List UInt8) {i:Nat} (h:i≤l.length):(upL f l i).length=l.length:=by
  unfold upL; rw[List.length_append,List.length_map,List.length_range,List.length_drop]; omega
theorem upL_zero (f:Nat→UInt8) (l:List UInt8):upL f l 0=l:=by simp[upL]
theorem upL_full (f:Nat→UInt8) (l:List UInt8) {i:Nat} (h:l.length≤i):upL f l i=(List.range i).map f:=by
  unfold upL; rw[List.drop_eq_nil_of_le h,List.append_nil]
theorem upL_get (f:Nat→UInt8) (l:List UInt8) {i j:Nat} (hj:i≤j):(upL f l i)[j]?=l[j]?:=by
  unfold upL
  rw[List.getElem?_append_right (by simpa using hj),List.getElem?_drop,List.length_map,List.length_range,show i+(j-i)=j by omega]
theorem upL_done (f:Nat→UInt8) (l:List UInt8) {i j:Nat} (hj:j<i):(upL f l i)[j]?=some (f j):=by
  unfold upL
  rw[List.getElem?_append_left (by simpa using hj)]
  simp[hj]
theorem upL_step (f:Nat→UInt8) (l:List UInt8) {i:Nat} (h:i<l.length):(upL f l i).set i (f i)=upL f l (i+1):=by
  unfold upL
  rw[List.set_append_right _ _ (by simp),List.length_map,List.length_range,Nat.sub_self,List.drop_eq_getElem_cons h,List.set_cons_zero,List.range_succ,List.map_append,List.append_assoc]
  rfl
theorem get_lt {l:List UInt8} {j:Nat} (h:j<l.length):l[j]?=some (l.getD j 0):=by
  rw[List.getD_eq_getElem?_getD,List.getElem?_eq_getElem h]; rfl
theorem bD1:bD 1=.int .u8 1:=rfl
end Go.Proofs.Ytcikhnjfkfigjaa
namespace Go.Proofs.Ytcikhnjfkfigjaa
open Go.RowKit IntWalk
set_option maxHeartbeats 1600000
def addL (s k:List UInt8):List UInt8:=toL (addF (ofB16 s) (ofB16 k))
def subL (s:List UInt8):List UInt8:=toL (shiftF (ofB16 s))
def mixL (s:List UInt8):List UInt8:=toL (mixF (ofB16 s))
theorem addL_len (s k:List UInt8):(addL s k).length=16:=toL_len _
theorem subL_len (s:List UInt8):(subL s).length=16:=toL_len _
theorem mixL_len (s:List UInt8):(mixL s).length=16:=toL_len _
theorem of_toL (f:B16):sameF (ofB16 (toL f)) f:=fun j hj=>by
  unfold ofB16; rw[List.getD_eq_getElem?_getD,toL_get f hj]; rfl
theorem addL_toL (f g:B16):addL (toL f) (toL g)=toL (addF f g):=toL_congr fun j hj=>by
  unfold addF; rw[of_toL f j hj,of_toL g j hj]
theorem subL_toL (f:B16):subL (toL f)=toL (shiftF f):=toL_congr fun j hj=>by
  unfold shiftF; rw[of_toL f _ (by omega)]
theorem mixL_toL (f:B16):mixL (toL f)=toL (mixF f):=toL_congr fun j hj=>by
  unfold mixF; rw[of_toL f _ (by omega),of_toL f _ (by omega),of_toL f _ (by omega),of_toL f _ (by omega)]
theorem z16:[D.int .u8 0,.int .u8 0,.int .u8 0,.int .u8 0,.int .u8 0,.int .u8 0,.int .u8 0,.int .u8 0,.int .u8 0,.int .u8 0,.int .u8 0,.int .u8 0,.int .u8 0,.int .u8 0,.int .u8 0,.int .u8 0]=(repL 16 (0:UInt8)).map bD:=rfl
theorem toL_upL (f:B16) {l:List UInt8} (h:l.length=16):upL f l 16=toL f:=upL_full f l (by omega)
theorem tmodN (a b:Nat):Int.tmod (a:Int) (b:Int)=((a%b:Nat):Int):=rfl
def comSt (s k:List UInt8) (i:Nat):St:=⟨ofL [(2,.w (.c (.pa 1 1))),(4,.w (.c (.pa 2 1))),(7,.w (.c (.d (.agg (k.map bD))))),(8,.w (.c (.d (.int .i64 (i:Int)))))],hL [(1,.row 1 ((upL (addF (ofB16 s) (ofB16 k)) s i).map bD)),(2,.row 1 ((repL 16 (0:UInt8)).map bD))],uL [1,2]⟩
def lp_com_0:SCode :=
 .seq (.reg [⟨some 9,.bin .lss (.t 8) (.k (.c (.d (.int .i64 16)))),none⟩])
 (.seq (.cond (.t 9) (.skip)
 (.exit 0))
 (.seq (.block 1 (.seq (.reg [⟨some 10,.mv (.t 8),none⟩,
 ⟨some 11,.idxArr 1 16 .sc (.t 7) (.t 8),none⟩,
 ⟨some 5,.mv (.t 10),none⟩,
 ⟨some 6,.mv (.t 11),none⟩])
 (.reg [⟨some 12,.mv (.t 5),none⟩,
 ⟨some 13,.idxPa 1 16 (.t 2) (.t 12),none⟩,
 ⟨some 14,.load .sc (.t 13),none⟩,
 ⟨some 15,.mv (.t 6),none⟩,
 ⟨some 16,.bin .xor (.t 14) (.t 15),none⟩,
 ⟨some 17,.idxPa 1 16 (.t 2) (.t 12),none⟩,
 ⟨none,.store .sc (.t 17) (.t 16),none⟩])))
 (.reg [⟨some 18,.bin .add (.t 8) (.k (.c (.d (.int .i64 1)))),none⟩,
 ⟨some 8,.mv (.t 18),none⟩])))
def sf_com:SFn:=⟨2,20,
 .seq (.reg [⟨some 2,.box .ownArr (.t 0),none⟩,
 ⟨some 3,.box .roArr (.t 1),none⟩,
 ⟨some 4,.allocArr [(.int .u8 0),(.int .u8 0),(.int .u8 0),(.int .u8 0),(.int .u8 0),(.int .u8 0),(.int .u8 0),(.int .u8 0),(.int .u8 0),(.int .u8 0),(.int .u8 0),(.int .u8 0),(.int .u8 0),(.int .u8 0),(.int .u8 0),(.int .u8 0)],none⟩])
 (.seq (.seq (.reg [⟨some 7,.load (.ag 16) (.t 3),none⟩,
 ⟨some 8,.mv (.k (.c (.d (.int .i64 0)))),none⟩])
 (.block 0 (.loop lp_com_0)))
 (.seq (.reg [⟨some 19,.load (.ag 16) (.t 2),none⟩,
 ⟨none,.store (.ag 16) (.t 4) (.t 19),none⟩])
 (.ret))),
 [(4,(some (.ag 16)))]⟩
theorem cf_com:compFn Try.prog { own:=[2],comp:=[],frz:=[],nils:=[] } Try.f96=some sf_com:=by kernel_rfl
theorem com_c (G:Glob) (s k:List UInt8) (hs:s.length=16) (hk:k.length=16):Den Try.prog G 96 [.agg (s.map bD),.agg (k.map bD)] (.w (.c (.d (.agg ((addL s k).map bD))))):=by
  refine den_walk Try.func96 cf_com rfl rfl ?_
  simp only[sf_com,putAll,wx,wy,wz,stV,seval,iteOmega,toNatUp,reduceCtorEq,z16,flat_bs,hk]
  refine loop_st (comSt s k) (fun i=>16-i) (fun i=>i≤16) 0 (Nat.zero_le _) ?_ ?_
  ·refine ent_l (fun i=>if i=1 then 16 else 32) ?_ ?_ rfl rfl <;> simp only[wx,wex,wez,stV,seval,iteOmega,toNatUp,reduceCtorEq,upL_zero]
  ·intro i hi
   have hl:(upL (addF (ofB16 s) (ofB16 k)) s i).length=16:=by rw[upL_len _ _ (by omega)]; exact hs
   by_cases hlt:i<16
   ·have g1:k[i]?=some (k.getD i 0):=get_lt (by omega)
    have g2:(upL (addF (ofB16 s) (ofB16 k)) s i)[i]?=some (s.getD i 0):=by rw[upL_get _ _ (Nat.le_refl i)]; exact get_lt (by omega)
    have h3:i<(upL (addF (ofB16 s) (ofB16 k)) s i).length:=by omega
    have h4:=binV_xorB (s.getD i 0) (k.getD i 0)
    have h5:(upL (addF (ofB16 s) (ofB16 k)) s i).set i (xorB (s.getD i 0) (k.getD i 0))=upL (addF (ofB16 s) (ofB16 k)) s (i+1):=upL_step (addF (ofB16 s) (ofB16 k)) s (by omega)
    simp only[lp_com_0,comSt,wx,wy,wz,stV,seval,iteOmega,toNatUp,reduceCtorEq,get_map,g1,g2,h4,stO_bs h3 (one_b _),set_bs,h5]
    refine lop_next (i+1) (by omega) (by omega) (ent_l (fun i=>i) ?_ ?_ rfl rfl) <;> simp only[wx,wex,wez,stV,seval,iteOmega,toNatUp,reduceCtorEq]
   ·obtain rfl:i=16:=by omega
    have e:upL (addF (ofB16 s) (ofB16 k)) s 16=addL s k:=toL_upL _ hs
    have e2:=addL_len s k
    simp only[lp_com_0,comSt,e,wx,wy,wz,stV,seval,iteOmega,toNatUp,reduceCtorEq,e2,flat_bs,repL_len]
    exact ret_d1 (by simp only[wx,wy,wz,stV,seval,iteOmega,toNatUp,reduceCtorEq])
def repSt (s:List UInt8) (i:Nat):St:=⟨ofL [(1,.w (.c (.ra (s.map bD)))),(2,.w (.c (.pa 2 1))),(3,.w (.c (.pa 1 1))),(6,.w (.c (.d (.int .i64 (i:Int)))))],hL [(1,.row 1 ((upL (shiftF (ofB16 s)) (repL 16 (0:UInt8)) i).map bD)),(2,.row 1 ((repL 16 (0:UInt8)).map bD))],uL [1,2]⟩
def lp_repl_0:SCode :=
 .seq (.reg [⟨some 7,.bin .lss (.t 6) (.k (.c (.d (.int .i64 16)))),none⟩])
 (.seq (.cond (.t 7) (.skip)
 (.exit 0))
 (.seq (.block 1 (.seq (.reg [⟨some 8,.mv (.t 6),none⟩,
 ⟨some 4,.mv (.t 8),none⟩])
 (.seq (.reg [⟨some 9,.mv (.t 4),none⟩,
 ⟨some 10,.bin .rem (.t 9) (.k (.c (.d (.int .i64 4)))),none⟩,
 ⟨some 5,.mv (.t 10),none⟩])
 (.reg [⟨some 11,.mv (.t 4),none⟩,
 ⟨some 12,.mv (.t 4),none⟩,
 ⟨some 13,.mv (.t 5),none⟩,
 ⟨some 14,.bin .mul (.t 13) (.k (.c (.d (.int .i64 4)))),none⟩,
 ⟨some 15,.bin .add (.t 12) (.t 14),none⟩,
 ⟨some 16,.bin .rem (.t 15) (.k (.c (.d (.int .i64 16)))),none⟩,
 ⟨some 17,.idxPa 1 16 (.t 1) (.t 16),none⟩,
 ⟨some 18,.load .sc (.t 17),none⟩,
 ⟨some 19,.call 104 [(.t 18)] none,none⟩,
 ⟨some 20,.idxPa 1 16 (.t 3) (.t 11),none⟩,
 ⟨none,.store .sc (.t 20) (.t 19),none⟩]))))
 (.reg [⟨some 21,.bin .add (.t 6) (.k (.c (.d (.int .i64 1)))),none⟩,
 ⟨some 6,.mv (.t 21),none⟩])))
def sf_repl:SFn:=⟨1,23,
 .seq (.reg [⟨some 1,.box .roArr (.t 0),none⟩,
 ⟨some 2,.allocArr [(.int .u8 0),(.int .u8 0),(.int .u8 0),(.int .u8 0),(.int .u8 0),(.int .u8 0),(.int .u8 0),(.int .u8 0),(.int .u8 0),(.int .u8 0),(.int .u8 0),(.int .u8 0),(.int .u8 0),(.int .u8 0),(.int .u8 0),(.int .u8 0)],none⟩])
 (.seq (.reg [⟨some 3,.allocArr [(.int .u8 0),(.int .u8 0),(.int .u8 0),(.int .u8 0),(.int .u8 0),(.int .u8 0),(.int .u8 0),(.int .u8 0),(.int .u8 0),(.int .u8 0),(.int .u8 0),(.int .u8 0),(.int .u8 0),(.int .u8 0),(.int .u8 0),(.int .u8 0)],none⟩])
 (.seq (.seq (.reg [⟨some 6,.mv (.k (.c (.d (.int .i64 0)))),none⟩])
 (.block 0 (.loop lp_repl_0)))
 (.seq (.reg [⟨some 22,.load (.ag 16) (.t 3),none⟩,
 ⟨none,.store (.ag 16) (.t 2) (.t 22),none⟩])
 (.ret)))),
 [(2,(some (.ag 16)))]⟩
theorem cf_repl:compFn Try.prog { own:=[],comp:=[],frz:=[],nils:=[] } Try.f98=some sf_repl:=by kernel_rfl
theorem repl_c (G:Glob) (s:List UInt8) (hs:s.length=16):Den Try.prog G 98 [.agg (s.map bD)] (.w (.c (.d (.agg ((subL s).map bD))))):=by
  refine den_walk Try.func98 cf_repl rfl rfl ?_
  simp only[sf_repl,putAll,wx,wy,wz,stV,seval,iteOmega,toNatUp,reduceCtorEq,z16]
  refine loop_st (repSt s) (fun i=>16-i) (fun i=>i≤16) 0 (Nat.zero_le _) ?_ ?_
  ·refine ent_l (fun i=>if i=1 then 24 else 16) ?_ ?_ rfl rfl <;> simp only[wx,wex,wez,stV,seval,iteOmega,toNatUp,reduceCtorEq,upL_zero]
  ·intro i hi
   have hl:(upL (shiftF (ofB16 s)) (repL 16 (0:UInt8)) i).length=16:=by rw[upL_len _ _ (by rw[repL_len]; omega),repL_len]
   by_cases hlt:i<16
   ·have hm:(i+i%4*4)%16=i%4+4*((i / 4+i%4)%4):=by omega
    have hm2:(i+i%4*4)%16<16:=by omega
    have g1:s[(i+i%4*4)%16]?=some (ofB16 s (i%4+4*((i / 4+i%4)%4))):=by rw[← hm]; exact get_lt (by omega)
    have h3:i<(upL (shiftF (ofB16 s)) (repL 16 (0:UInt8)) i).length:=by omega
    have h5:(upL (shiftF (ofB16 s)) (repL 16 (0:UInt8)) i).set i (subK (ofB16 s (i%4+4*((i / 4+i%4)%4))))=upL (shiftF (ofB16 s)) (repL 16 (0:UInt8)) (i+1):=upL_step (shiftF (ofB16 s)) _ (by rw[repL_len]; omega)
    have t1:Int.tmod (i:Int) 4=((i%4:Nat):Int):=tmodN i 4
    have t2:Int.tmod ((i:Int)+((i%4:Nat):Int)*4) 16=(((i+i%4*4)%16:Nat):Int):=tmodN (i+i%4*4) 16
    have hb:(i%4:Nat)<4:=Nat.mod_lt _ (by decide)
    generalize hq:i%4=q at *
    generalize hp:(i+q*4)%16=p at *
    simp only[lp_repl_0,repSt,wx,wy,wz,stV,seval,iteOmega,toNatUp,reduceCtorEq,get_map,t1,t2,g1]
    refine st_call (sub_c G (ofB16 s (q+4*((i / 4+q)%4)))) rfl (.inl rfl) ?_
    simp only[stO_bs h3 (one_b _),set_bs,h5,get_map,hl,wx,wy,wz,stV,seval,iteOmega,toNatUp,reduceCtorEq]
    refine lop_next (i+1) (by omega) (by omega) (ent_l (fun i=>i) ?_ ?_ rfl rfl) <;> simp only[wx,wex,wez,stV,seval,iteOmega,toNatUp,reduceCtorEq]
   ·obtain rfl:i=16:=by omega
    have e:upL (shiftF (ofB16 s)) (repL 16 (0:UInt8)) 16=subL s:=toL_upL _ (repL_len _ _)
    have e2:=subL_len s
    simp only[lp_repl_0,repSt,e,wx,wy,wz,stV,seval,iteOmega,toNatUp,reduceCtorEq,e2,flat_bs,repL_len]
    exact ret_d1 (by simp only[wx,wy,wz,stV,seval,iteOmega,toNatUp,reduceCtorEq])
theorem mix_eq (a b c d:UInt8):xorB (xorB (xorB (xtB (xorB a b)) b) c) d=mix4 a b c d:=by
  unfold mix4 twB
  rw[xtB_lin a b,xt_two,xt_two]
def mixcSt (s:List UInt8) (i:Nat):St:=⟨ofL [(1,.w (.c (.ra (s.map bD)))),(2,.w (.c (.pa 2 1))),(3,.w (.c (.pa 1 1))),(8,.w (.c (.d (.int .i64 (i:Int)))))],hL [(1,.row 1 ((upL (mixF (ofB16 s)) (repL 16 (0:UInt8)) i).map bD)),(2,.row 1 ((repL 16 (0:UInt8)).map bD))],uL [1,2]⟩
def lp_mixd_0:SCode :=
 .seq (.reg [⟨some 9,.bin .lss (.t 8) (.k (.c (.d (.int .i64 16)))),none⟩])
 (.seq (.cond (.t 9) (.skip)
 (.exit 0))
 (.seq (.block 1 (.seq (.reg [⟨some 10,.mv (.t 8),none⟩,
 ⟨some 4,.mv (.t 10),none⟩])
 (.seq (.reg [⟨some 11,.mv (.t 4),none⟩,
 ⟨some 12,.bin .rem (.t 11) (.k (.c (.d (.int .i64 4)))),none⟩,
 ⟨some 5,.mv (.t 12),none⟩])
 (.seq (.reg [⟨some 13,.mv (.t 4),none⟩,
 ⟨some 14,.mv (.t 5),none⟩,
 ⟨some 15,.bin .sub (.t 13) (.t 14),none⟩,
 ⟨some 16,.mv (.t 4),none⟩,
 ⟨some 17,.mv (.t 5),none⟩,
 ⟨some 18,.bin .sub (.t 16) (.t 17),none⟩,
 ⟨some 19,.bin .add (.t 18) (.k (.c (.d (.int .i64 4)))),none⟩,
 ⟨some 20,.sliceArr 1 16 (.t 1) (some (.t 15)) (some (.t 19)),none⟩,
 ⟨some 6,.mv (.t 20),none⟩])
 (.seq (.reg [⟨some 21,.mv (.t 6),none⟩,
 ⟨some 22,.mv (.t 5),none⟩,
 ⟨some 23,.bin .add (.t 22) (.k (.c (.d (.int .i64 1)))),none⟩,
 ⟨some 24,.bin .rem (.t 23) (.k (.c (.d (.int .i64 4)))),none⟩,
 ⟨some 25,.idxSl 1 (.t 21) (.t 24),none⟩,
 ⟨some 26,.load .sc (.t 25),none⟩,
 ⟨some 7,.mv (.t 26),none⟩])
 (.reg [⟨some 27,.mv (.t 4),none⟩,
 ⟨some 28,.mv (.t 4),none⟩,
 ⟨some 29,.idxPa 1 16 (.t 1) (.t 28),none⟩,
 ⟨some 30,.load .sc (.t 29),none⟩,
 ⟨some 31,.mv (.t 7),none⟩,
 ⟨some 32,.bin .xor (.t 30) (.t 31),none⟩,
 ⟨some 33,.call 94 [(.t 32)] none,none⟩,
 ⟨some 34,.mv (.t 7),none⟩,
 ⟨some 35,.bin .xor (.t 33) (.t 34),none⟩,
 ⟨some 36,.mv (.t 6),none⟩,
 ⟨some 37,.mv (.t 5),none⟩,
 ⟨some 38,.bin .add (.t 37) (.k (.c (.d (.int .i64 2)))),none⟩,
 ⟨some 39,.bin .rem (.t 38) (.k (.c (.d (.int .i64 4)))),none⟩,
 ⟨some 40,.idxSl 1 (.t 36) (.t 39),none⟩,
 ⟨some 41,.load .sc (.t 40),none⟩,
 ⟨some 42,.bin .xor (.t 35) (.t 41),none⟩,
 ⟨some 43,.mv (.t 6),none⟩,
 ⟨some 44,.mv (.t 5),none⟩,
 ⟨some 45,.bin .add (.t 44) (.k (.c (.d (.int .i64 3)))),none⟩,
 ⟨some 46,.bin .rem (.t 45) (.k (.c (.d (.int .i64 4)))),none⟩,
 ⟨some 47,.idxSl 1 (.t 43) (.t 46),none⟩,
 ⟨some 48,.load .sc (.t 47),none⟩,
 ⟨some 49,.bin .xor (.t 42) (.t 48),none⟩,
 ⟨some 50,.idxPa 1 16 (.t 3) (.t 27),none⟩,
 ⟨none,.store .sc (.t 50) (.t 49),none⟩]))))))
 (.reg [⟨some 51,.bin .add (.t 8) (.k (.c (.d (.int .i64 1)))),none⟩,
 ⟨some 8,.mv (.t 51),none⟩])))
def sf_mixd:SFn:=⟨1,53,
 .seq (.reg [⟨some 1,.box .roArr (.t 0),none⟩,
 ⟨some 2,.allocArr [(.int .u8 0),(.int .u8 0),(.int .u8 0),(.int .u8 0),(.int .u8 0),(.int .u8 0),(.int .u8 0),(.int .u8 0),(.int .u8 0),(.int .u8 0),(.int .u8 0),(.int .u8 0),(.int .u8 0),(.int .u8 0),(.int .u8 0),(.int .u8 0)],none⟩])
 (.seq (.reg [⟨some 3,.allocArr [(.int .u8 0),(.int .u8 0),(.int .u8 0),(.int .u8 0),(.int .u8 0),(.int .u8 0),(.int .u8 0),(.int .u8 0),(.int .u8 0),(.int .u8 0),(.int .u8 0),(.int .u8 0),(.int .u8 0),(.int .u8 0),(.int .u8 0),(.int .u8 0)],none⟩])
 (.seq (.seq (.reg [⟨some 8,.mv (.k (.c (.d (.int .i64 0)))),none⟩])
 (.block 0 (.loop lp_mixd_0)))
 (.seq (.reg [⟨some 52,.load (.ag 16) (.t 3),none⟩,
 ⟨none,.store (.ag 16) (.t 2) (.t 52),none⟩])
 (.ret)))),
 [(2,(some (.ag 16)))]⟩
theorem cf_mixd:compFn Try.prog { own:=[],comp:=[],frz:=[],nils:=[] } Try.f97=some sf_mixd:=by kernel_rfl
theorem mixd_c (G:Glob) (s:List UInt8) (hs:s.length=16):Den Try.prog G 97 [.agg (s.map bD)] (.w (.c (.d (.agg ((mixL s).map bD))))):=by
  refine den_walk Try.func97 cf_mixd rfl rfl ?_
  simp only[sf_mixd,putAll,wx,wy,wz,stV,seval,iteOmega,toNatUp,reduceCtorEq,z16]
  refine loop_st (mixcSt s) (fun i=>16-i) (fun i=>i≤16) 0 (Nat.zero_le _) ?_ ?_
  ·refine ent_l (fun i=>if i=1 then 24 else 16) ?_ ?_ rfl rfl <;> simp only[wx,wex,wez,stV,seval,iteOmega,toNatUp,reduceCtorEq,upL_zero]
  ·intro i hi
   have hl:(upL (mixF (ofB16 s)) (repL 16 (0:UInt8)) i).length=16:=by rw[upL_len _ _ (by rw[repL_len]; omega),repL_len]
   by_cases hlt:i<16
   ·have h3:i<(upL (mixF (ofB16 s)) (repL 16 (0:UInt8)) i).length:=by omega
    have h5:(upL (mixF (ofB16 s)) (repL 16 (0:UInt8)) i).set i (mixF (ofB16 s) i)=upL (mixF (ofB16 s)) (repL 16 (0:UInt8)) (i+1):=upL_step (mixF (ofB16 s)) _ (by rw[repL_len]; omega)
    have g0:s[i]?=some (ofB16 s i):=get_lt (by omega)
    obtain⟨q,r,hr,rfl⟩:∃ q r,r<4∧i=4*q+r:=⟨i / 4,i%4,Nat.mod_lt _ (by decide),by omega⟩
    have hq:q<4:=by omega
    have col:∀ j,j<4→((s.drop (4*q)).take 4)[j]?=some (ofB16 s (4*q+j)):=fun j hj=>by
      rw[List.getElem?_take,if_pos hj,List.getElem?_drop]; exact get_lt (by omega)
    have g1:=col ((r+1)%4) (Nat.mod_lt _ (by decide))
    have g2:=col ((r+2)%4) (Nat.mod_lt _ (by decide))
    have g3:=col ((r+3)%4) (Nat.mod_lt _ (by decide))
    have t0:Int.tmod (4*(q:Int)+(r:Int)) 4=(r:Int):=by
      show Int.tmod ((4*q+r:Nat):Int) ((4:Nat):Int)=_
      rw[tmodN]; congr 1; omega
    have t1:Int.tmod ((r:Int)+1) 4=(((r+1)%4:Nat):Int):=tmodN (r+1) 4
    have t2:Int.tmod ((r:Int)+2) 4=(((r+2)%4:Nat):Int):=tmodN (r+2) 4
    have t3:Int.tmod ((r:Int)+3) 4=(((r+3)%4:Nat):Int):=tmodN (r+3) 4
    have b1:(r+1)%4<4:=Nat.mod_lt _ (by decide)
    have b2:(r+2)%4<4:=Nat.mod_lt _ (by decide)
    have b3:(r+3)%4<4:=Nat.mod_lt _ (by decide)
    have em:mixF (ofB16 s) (4*q+r)=mix4 (ofB16 s (4*q+r)) (ofB16 s (4*q+(r+1)%4)) (ofB16 s (4*q+(r+2)%4)) (ofB16 s (4*q+(r+3)%4)):=by
      unfold mixF
      rw[show (4*q+r) / 4=q by omega,show (4*q+r)%4=r by omega]
    rw[em,← mix_eq] at h5
    have s1:4*q+r-r=4*q:=by omega
    have s2:4*q+4-4*q=4:=by omega
    have s3:((s.drop (4*q)).take 4).length=4:=by rw[List.length_take,List.length_drop]; omega
    generalize (r+1)%4=r1 at *
    generalize (r+2)%4=r2 at *
    generalize (r+3)%4=r3 at *
    generalize ofB16 s (4*q+r)=a at *
    generalize ofB16 s (4*q+r1)=b at *
    generalize ofB16 s (4*q+r2)=c at *
    generalize ofB16 s (4*q+r3)=d at *
    have x1:=binV_xorB a b
    have x2:=binV_xorB (xtB (xorB a b)) b
    have x3:=binV_xorB (xorB (xtB (xorB a b)) b) c
    have x4:=binV_xorB (xorB (xorB (xtB (xorB a b)) b) c) d
    simp only[lp_mixd_0,mixcSt,wx,wy,wz,stV,seval,iteOmega,toNatUp,reduceCtorEq,get_map,t0,t1,t2,t3,g0,g1,g2,g3,s1,s2,s3,x1]
    refine st_call (dbl_c G (xorB a b)) rfl (.inl rfl) ?_
    simp only[get_map,t0,t1,t2,t3,g0,g1,g2,g3,s1,s2,s3,x2,x3,x4,stO_bs h3 (one_b _),set_bs,h5,hl,wx,wy,wz,stV,seval,iteOmega,toNatUp,reduceCtorEq]
    refine lop_next (4*q+r+1) (by omega) (by omega) (ent_l (fun i=>i) ?_ ?_ rfl rfl) <;> simp only[wx,wex,wez,stV,seval,iteOmega,toNatUp,reduceCtorEq]
   ·obtain rfl:i=16:=by omega
    have e:upL (mixF (ofB16 s)) (repL 16 (0:UInt8)) 16=mixL s:=toL_upL _ (repL_len _ _)
    have e2:=mixL_len s
    simp only[lp_mixd_0,mixcSt,e,wx,wy,wz,stV,seval,iteOmega,toNatUp,reduceCtorEq,e2,flat_bs,repL_len]
    exact ret_d1 (by simp only[wx,wy,wz,stV,seval,iteOmega,toNatUp,reduceCtorEq])
end Go.Proofs.Ytcikhnjfkfigjaa
namespace Go.Proofs.Ytcikhnjfkfigjaa
open Go.RowKit IntWalk
def wV0 (l:List UInt8) (c:UInt8) (j:Nat):UInt8:=if j=0 then xorB (subK (l.getD 13 0)) c else if j=1 then subK (l.getD 14 0) else if j=2 then subK (l.getD 15 0) else subK (l.getD 12 0)
def wV (l:List UInt8) (c:UInt8):Nat→Nat→UInt8
  | 0,j=>wV0 l c j
  | n+1,j=>if j=n%4 then xorB (l.getD n 0) (wV l c n (n%4)) else wV l c n j
def folF (l:List UInt8) (c:UInt8) (n:Nat):UInt8:=xorB (l.getD n 0) (wV l c n (n%4))
def folL (l:List UInt8) (c:UInt8):List UInt8:=toL (folF l c)
theorem folL_len (l:List UInt8) (c:UInt8):(folL l c).length=16:=toL_len _
def wL (l:List UInt8) (c:UInt8) (i:Nat):List UInt8:=(List.range 4).map (wV l c i)
theorem wL_len (l:List UInt8) (c:UInt8) (i:Nat):(wL l c i).length=4:=by simp[wL]
theorem wL_get (l:List UInt8) (c:UInt8) (i:Nat) {j:Nat} (h:j<4):(wL l c i)[j]?=some (wV l c i j):=by simp[wL,h]
theorem wL_step (l:List UInt8) (c:UInt8) (i:Nat):(wL l c i).set (i%4) (folF l c i)=wL l c (i+1):=by
  apply List.ext_getElem?
  intro j
  by_cases hj:j<4
  ·rw[wL_get _ _ _ hj,List.getElem?_set]
   by_cases e:i%4=j
   ·rw[if_pos e,if_pos (by rw[wL_len]; omega),wV,if_pos e.symm]; rfl
   ·rw[if_neg e,wL_get _ _ _ hj,wV,if_neg (fun h=>e h.symm)]
  ·rw[List.getElem?_eq_none (by rw[List.length_set,wL_len]; omega),List.getElem?_eq_none (by rw[wL_len]; omega)]
theorem wL_zero (l:List UInt8) (c:UInt8):[xorB (subK (l.getD 13 0)) c,subK (l.getD 14 0),subK (l.getD 15 0),subK (l.getD 12 0)]=wL l c 0:=rfl
def folSt (l:List UInt8) (c:UInt8) (i:Nat):St:=⟨ofL [(2,.w (.c (.pa 1 1))),(4,.w (.c (.pa 2 1))),(5,.w (.c (.pa 3 1))),(22,.w (.c (.d (.int .i64 (i:Int)))))],hL [(1,.row 1 ((upL (folF l c) l i).map bD)),(2,.row 1 ((repL 16 (0:UInt8)).map bD)),(3,.row 1 ((wL l c i).map bD))],uL [1,2,3]⟩
def lp_fol_0:SCode :=
 .seq (.reg [⟨some 23,.bin .lss (.t 22) (.k (.c (.d (.int .i64 16)))),none⟩])
 (.seq (.cond (.t 23) (.skip)
 (.exit 0))
 (.seq (.block 1 (.seq (.reg [⟨some 24,.mv (.t 22),none⟩,
 ⟨some 6,.mv (.t 24),none⟩])
 (.seq (.reg [⟨some 25,.mv (.t 6),none⟩,
 ⟨some 26,.idxPa 1 16 (.t 2) (.t 25),none⟩,
 ⟨some 27,.load .sc (.t 26),none⟩,
 ⟨some 28,.mv (.t 6),none⟩,
 ⟨some 29,.bin .rem (.t 28) (.k (.c (.d (.int .i64 4)))),none⟩,
 ⟨some 30,.idxPa 1 4 (.t 5) (.t 29),none⟩,
 ⟨some 31,.load .sc (.t 30),none⟩,
 ⟨some 32,.bin .xor (.t 27) (.t 31),none⟩,
 ⟨some 33,.idxPa 1 16 (.t 2) (.t 25),none⟩,
 ⟨none,.store .sc (.t 33) (.t 32),none⟩])
 (.reg [⟨some 34,.mv (.t 6),none⟩,
 ⟨some 35,.bin .rem (.t 34) (.k (.c (.d (.int .i64 4)))),none⟩,
 ⟨some 36,.mv (.t 6),none⟩,
 ⟨some 37,.idxPa 1 16 (.t 2) (.t 36),none⟩,
 ⟨some 38,.load .sc (.t 37),none⟩,
 ⟨some 39,.idxPa 1 4 (.t 5) (.t 35),none⟩,
 ⟨none,.store .sc (.t 39) (.t 38),none⟩]))))
 (.reg [⟨some 40,.bin .add (.t 22) (.k (.c (.d (.int .i64 1)))),none⟩,
 ⟨some 22,.mv (.t 40),none⟩])))
def sf_fol:SFn:=⟨2,42,
 .seq (.reg [⟨some 2,.box .ownArr (.t 0),none⟩,
 ⟨some 4,.allocArr [(.int .u8 0),(.int .u8 0),(.int .u8 0),(.int .u8 0),(.int .u8 0),(.int .u8 0),(.int .u8 0),(.int .u8 0),(.int .u8 0),(.int .u8 0),(.int .u8 0),(.int .u8 0),(.int .u8 0),(.int .u8 0),(.int .u8 0),(.int .u8 0)],none⟩])
 (.seq (.reg [⟨some 7,.idxPa 1 16 (.t 2) (.k (.c (.d (.int .i64 13)))),none⟩,
 ⟨some 8,.load .sc (.t 7),none⟩,
 ⟨some 9,.call 104 [(.t 8)] none,none⟩,
 ⟨some 10,.mv (.t 1),none⟩,
 ⟨some 11,.bin .xor (.t 9) (.t 10),none⟩,
 ⟨some 12,.idxPa 1 16 (.t 2) (.k (.c (.d (.int .i64 14)))),none⟩,
 ⟨some 13,.load .sc (.t 12),none⟩,
 ⟨some 14,.call 104 [(.t 13)] none,none⟩,
 ⟨some 15,.idxPa 1 16 (.t 2) (.k (.c (.d (.int .i64 15)))),none⟩,
 ⟨some 16,.load .sc (.t 15),none⟩,
 ⟨some 17,.call 104 [(.t 16)] none,none⟩,
 ⟨some 18,.idxPa 1 16 (.t 2) (.k (.c (.d (.int .i64 12)))),none⟩,
 ⟨some 19,.load .sc (.t 18),none⟩,
 ⟨some 20,.call 104 [(.t 19)] none,none⟩,
 ⟨some 21,.build [(.d (.int .u8 0)),(.d (.int .u8 0)),(.d (.int .u8 0)),(.d (.int .u8 0))] [(0,1,(.t 11)),(1,1,(.t 14)),(2,1,(.t 17)),(3,1,(.t 20))],none⟩,
 ⟨some 5,.allocArr [(.int .u8 0),(.int .u8 0),(.int .u8 0),(.int .u8 0)],none⟩,
 ⟨none,.store (.ag 4) (.t 5) (.t 21),none⟩])
 (.seq (.seq (.reg [⟨some 22,.mv (.k (.c (.d (.int .i64 0)))),none⟩])
 (.block 0 (.loop lp_fol_0)))
 (.seq (.reg [⟨some 41,.load (.ag 16) (.t 2),none⟩,
 ⟨none,.store (.ag 16) (.t 4) (.t 41),none⟩])
 (.ret)))),
 [(4,(some (.ag 16)))]⟩
theorem cf_fol:compFn Try.prog { own:=[2],comp:=[],frz:=[],nils:=[] } Try.f93=some sf_fol:=by kernel_rfl
set_option maxHeartbeats 3200000 in
theorem fol_c (G:Glob) (l:List UInt8) (c:UInt8) (hl:l.length=16):Den Try.prog G 93 [.agg (l.map bD),bD c] (.w (.c (.d (.agg ((folL l c).map bD))))):=by
  refine den_walk Try.func93 cf_fol rfl rfl ?_
  have a13:l[13]?=some (l.getD 13 0):=get_lt (by omega)
  have a14:l[14]?=some (l.getD 14 0):=get_lt (by omega)
  have a15:l[15]?=some (l.getD 15 0):=get_lt (by omega)
  have a12:l[12]?=some (l.getD 12 0):=get_lt (by omega)
  have x0:=binV_xorB (subK (l.getD 13 0)) c
  have w0:=congrArg (List.map bD) (wL_zero l c)
  have wl:=wL_len l c 0
  simp only[List.map_cons,List.map_nil] at w0
  simp only[sf_fol,putAll,wx,wy,wz,stV,seval,iteOmega,toNatUp,reduceCtorEq,z16,hl,get_map,a13]
  refine st_call (sub_c G (l.getD 13 0)) rfl (.inl rfl) ?_
  simp only[x0,get_map,a14,hl,wx,wy,wz,stV,seval,iteOmega,toNatUp,reduceCtorEq]
  refine st_call (sub_c G (l.getD 14 0)) rfl (.inl rfl) ?_
  simp only[get_map,a15,hl,wx,wy,wz,stV,seval,iteOmega,toNatUp,reduceCtorEq]
  refine st_call (sub_c G (l.getD 15 0)) rfl (.inl rfl) ?_
  simp only[get_map,a12,hl,wx,wy,wz,stV,seval,iteOmega,toNatUp,reduceCtorEq]
  refine st_call (sub_c G (l.getD 12 0)) rfl (.inl rfl) ?_
  simp only[w0,wx,wy,wz,stV,seval,iteOmega,toNatUp,reduceCtorEq]
  refine loop_st (folSt l c) (fun i=>16-i) (fun i=>i≤16) 0 (Nat.zero_le _) ?_ ?_
  ·refine ent_l (fun i=>if i=1 then 16 else if i=2 then 32 else 40) ?_ ?_ rfl rfl <;> simp only[wx,wex,wez,stV,seval,iteOmega,toNatUp,reduceCtorEq,upL_zero]
  ·intro i hi
   have hu:(upL (folF l c) l i).length=16:=by rw[upL_len _ _ (by omega)]; exact hl
   by_cases hlt:i<16
   ·have hm:i%4<4:=Nat.mod_lt _ (by decide)
    have t1:Int.tmod (i:Int) 4=((i%4:Nat):Int):=tmodN i 4
    have g1:(upL (folF l c) l i)[i]?=some (l.getD i 0):=by rw[upL_get _ _ (Nat.le_refl i)]; exact get_lt (by omega)
    have g2:=wL_get l c i hm
    have x1:=binV_xorB (l.getD i 0) (wV l c i (i%4))
    have h3:i<(upL (folF l c) l i).length:=by omega
    have h4:i%4<(wL l c i).length:=by rw[wL_len]; exact hm
    have h5:(upL (folF l c) l i).set i (folF l c i)=upL (folF l c) l (i+1):=upL_step (folF l c) l (by omega)
    have h6:=wL_step l c i
    have g3:(upL (folF l c) l (i+1))[i]?=some (folF l c i):=upL_done _ _ (Nat.lt_succ_self i)
    have hf:xorB (l.getD i 0) (wV l c i (i%4))=folF l c i:=rfl
    have hwl:=wL_len l c i
    have hu2:(upL (folF l c) l (i+1)).length=16:=by rw[upL_len _ _ (by omega)]; exact hl
    generalize hq:i%4=q at *
    simp only[lp_fol_0,folSt,wx,wy,wz,stV,seval,iteOmega,toNatUp,reduceCtorEq,get_map,t1,g1,g2,x1,hf,stO_bs h3 (one_b _),stO_bs h4 (one_b _),set_bs,h5,h6,g3,hu,hu2,hwl]
    refine lop_next (i+1) (by omega) (by omega) (ent_l (fun i=>i) ?_ ?_ rfl rfl) <;> simp only[wx,wex,wez,stV,seval,iteOmega,toNatUp,reduceCtorEq]
   ·obtain rfl:i=16:=by omega
    have e:upL (folF l c) l 16=folL l c:=toL_upL _ hl
    have e2:=folL_len l c
    simp only[lp_fol_0,folSt,e,wx,wy,wz,stV,seval,iteOmega,toNatUp,reduceCtorEq,e2,flat_bs,repL_len]
    exact ret_d1 (by simp only[wx,wy,wz,stV,seval,iteOmega,toNatUp,reduceCtorEq])
theorem getD_appC {P Q:List UInt8} {k n:Nat} (h:P.length=n):(P++Q).getD (n+k) 0=Q.getD k 0:=by
  rw[List.getD_eq_getElem?_getD,List.getD_eq_getElem?_getD,List.getElem?_append_right (by omega),h,Nat.add_sub_cancel_left]
theorem drop_app {P Q:List UInt8} {k n:Nat} (h:P.length=n):(P++Q).drop (n+k)=Q.drop k:=by
  rw[← h,List.drop_append,List.drop_eq_nil_of_le (by omega),List.nil_append,Nat.add_sub_cancel_left]
theorem nextK_app {P Q:List UInt8} {n:Nat} (h:P.length=4*n):nextK (P++Q) n=(List.range 4).map fun k=>xorB (Q.getD k 0) ((turnW (Q.drop 12) n).getD k 0):=by
  unfold nextK
  refine List.map_congr_left fun k _=>?_
  rw[getD_appC h,show 12+4*n=4*n+12 by omega,drop_app h]
theorem fol16 (b0 b1 b2 b3 b4 b5 b6 b7 b8 b9 b10 b11 b12 b13 b14 b15 c:UInt8):∃ f0 f1 f2 f3,
    f0=xorB b0 (xorB (subK b13) c)∧f1=xorB b1 (subK b14)∧f2=xorB b2 (subK b15)∧f3=xorB b3 (subK b12) ∧
    folL [b0,b1,b2,b3,b4,b5,b6,b7,b8,b9,b10,b11,b12,b13,b14,b15] c =
      [f0,f1,f2,f3,xorB b4 f0,xorB b5 f1,xorB b6 f2,xorB b7 f3,xorB b8 (xorB b4 f0),xorB b9 (xorB b5 f1),xorB b10 (xorB b6 f2),xorB b11 (xorB b7 f3),
       xorB b12 (xorB b8 (xorB b4 f0)),xorB b13 (xorB b9 (xorB b5 f1)),xorB b14 (xorB b10 (xorB b6 f2)),xorB b15 (xorB b11 (xorB b7 f3))] :=
  ⟨_,_,_,_,rfl,rfl,rfl,rfl,rfl⟩
theorem four_map (f:Nat→UInt8):(List.range 4).map f=[f 0,f 1,f 2,f 3]:=rfl
theorem rk_block {P:List UInt8} {r:Nat} (hP:P.length=16*r) (b0 b1 b2 b3 b4 b5 b6 b7 b8 b9 b10 b11 b12 b13 b14 b15:UInt8) (key:List UInt8)
    (h:rkN key (4*r)=P++[b0,b1,b2,b3,b4,b5,b6,b7,b8,b9,b10,b11,b12,b13,b14,b15]) :
    rkN key (4*(r+1))=rkN key (4*r)++folL [b0,b1,b2,b3,b4,b5,b6,b7,b8,b9,b10,b11,b12,b13,b14,b15] (conK r):=by
  obtain⟨f0,f1,f2,f3,e0,e1,e2,e3,ef⟩:=fol16 b0 b1 b2 b3 b4 b5 b6 b7 b8 b9 b10 b11 b12 b13 b14 b15 (conK r)
  have m0:4*r%4=0:=by omega
  have m1:(4*r+1)%4≠0:=by omega
  have m2:(4*r+2)%4≠0:=by omega
  have m3:(4*r+3)%4≠0:=by omega
  have d0:4*r / 4=r:=by omega
  have n0:nextK (rkN key (4*r)) (4*r)=[f0,f1,f2,f3]:=by
    rw[h,nextK_app (by omega),four_map]
    unfold turnW
    rw[if_pos m0,d0,e0,e1,e2,e3]; rfl
  have s1:rkN key (4*r+1)=(P++[b0,b1,b2,b3])++[b4,b5,b6,b7,b8,b9,b10,b11,b12,b13,b14,b15,f0,f1,f2,f3]:=by
    rw[rkN,n0,h]; simp
  have n1:nextK (rkN key (4*r+1)) (4*r+1)=[xorB b4 f0,xorB b5 f1,xorB b6 f2,xorB b7 f3]:=by
    rw[s1,nextK_app (by simp; omega),four_map]
    unfold turnW
    rw[if_neg m1]; rfl
  have s2:rkN key (4*r+2)=(P++[b0,b1,b2,b3,b4,b5,b6,b7])++[b8,b9,b10,b11,b12,b13,b14,b15,f0,f1,f2,f3,xorB b4 f0,xorB b5 f1,xorB b6 f2,xorB b7 f3]:=by
    rw[show 4*r+2=(4*r+1)+1 from rfl,rkN,n1,s1]; simp
  have n2:nextK (rkN key (4*r+2)) (4*r+2)=[xorB b8 (xorB b4 f0),xorB b9 (xorB b5 f1),xorB b10 (xorB b6 f2),xorB b11 (xorB b7 f3)]:=by
    rw[s2,nextK_app (by simp; omega),four_map]
    unfold turnW
    rw[if_neg m2]; rfl
  have s3:rkN key (4*r+3)=(P++[b0,b1,b2,b3,b4,b5,b6,b7,b8,b9,b10,b11])++[b12,b13,b14,b15,f0,f1,f2,f3,xorB b4 f0,xorB b5 f1,xorB b6 f2,xorB b7 f3,xorB b8 (xorB b4 f0),xorB b9 (xorB b5 f1),xorB b10 (xorB b6 f2),xorB b11 (xorB b7 f3)]:=by
    rw[show 4*r+3=(4*r+2)+1 from rfl,rkN,n2,s2]; simp
  have n3:nextK (rkN key (4*r+3)) (4*r+3)=[xorB b12 (xorB b8 (xorB b4 f0)),xorB b13 (xorB b9 (xorB b5 f1)),xorB b14 (xorB b10 (xorB b6 f2)),xorB b15 (xorB b11 (xorB b7 f3))]:=by
    rw[s3,nextK_app (by simp; omega),four_map]
    unfold turnW
    rw[if_neg m3]; rfl
  rw[show 4*(r+1)=(4*r+3)+1 by omega,rkN,n3,s3,ef,h]
  simp
def kb (key:List UInt8) (r:Nat):List UInt8:=(rkN key (4*r)).drop (16*r)
theorem kb_len {key:List UInt8} (h:key.length=16) (r:Nat):(kb key r).length=16:=by
  unfold kb; rw[List.length_drop,rkN_len h]; omega
theorem list16 {l:List UInt8} (h:l.length=16):∃ b0 b1 b2 b3 b4 b5 b6 b7 b8 b9 b10 b11 b12 b13 b14 b15,l=[b0,b1,b2,b3,b4,b5,b6,b7,b8,b9,b10,b11,b12,b13,b14,b15]:=by
  rcases l with _ | ⟨b0,l⟩ <;> simp at h
  rcases l with _ | ⟨b1,l⟩ <;> simp at h
  rcases l with _ | ⟨b2,l⟩ <;> simp at h
  rcases l with _ | ⟨b3,l⟩ <;> simp at h
  rcases l with _ | ⟨b4,l⟩ <;> simp at h
  rcases l with _ | ⟨b5,l⟩ <;> simp at h
  rcases l with _ | ⟨b6,l⟩ <;> simp at h
  rcases l with _ | ⟨b7,l⟩ <;> simp at h
  rcases l with _ | ⟨b8,l⟩ <;> simp at h
  rcases l with _ | ⟨b9,l⟩ <;> simp at h
  rcases l with _ | ⟨b10,l⟩ <;> simp at h
  rcases l with _ | ⟨b11,l⟩ <;> simp at h
  rcases l with _ | ⟨b12,l⟩ <;> simp at h
  rcases l with _ | ⟨b13,l⟩ <;> simp at h
  rcases l with _ | ⟨b14,l⟩ <;> simp at h
  rcases l with _ | ⟨b15,l⟩ <;> simp at h
  subst h
  exact⟨_,_,_,_,_,_,_,_,_,_,_,_,_,_,_,_,rfl⟩
theorem rk_next {key:List UInt8} (h:key.length=16) (r:Nat):rkN key (4*(r+1))=rkN key (4*r)++folL (kb key r) (conK r):=by
  obtain⟨b0,b1,b2,b3,b4,b5,b6,b7,b8,b9,b10,b11,b12,b13,b14,b15,e⟩:=list16 (kb_len h r)
  rw[e]
  refine rk_block (P:=(rkN key (4*r)).take (16*r)) ?_ _ _ _ _ _ _ _ _ _ _ _ _ _ _ _ _ key ?_
  ·rw[List.length_take,rkN_len h]; omega
  ·rw[← e]; exact (List.take_append_drop _ _).symm
def rkP (key:List UInt8) (i:Nat):List UInt8:=rkN key (4*i)++repL (160-16*i) 0
theorem rkP_len {key:List UInt8} (h:key.length=16) {i:Nat} (hi:i≤10):(rkP key i).length=176:=by
  unfold rkP; rw[List.length_append,rkN_len h,repL_len]; omega
theorem rkP_zero {key:List UInt8} (h:key.length=16):setR (repL 176 (0:UInt8)) 0 key=rkP key 0:=by
  unfold setR rkP repL
  rw[List.take_zero,List.nil_append,List.drop_replicate,h]; rfl
theorem rkP_part {key:List UInt8} (h:key.length=16) {i:Nat} (hi:i≤10):((rkP key i).drop (i*16)).take 16=kb key i:=by
  unfold rkP
  rw[Nat.mul_comm,List.drop_append_of_le_length (by rw[rkN_len h]; omega)]
  exact List.take_left' (kb_len h i)
theorem rkP_step {key:List UInt8} (h:key.length=16) {i:Nat} (hi:i<10):setR (rkP key i) ((i+1)*16) (folL (kb key i) (conK i))=rkP key (i+1):=by
  have hl:(rkN key (4*i)).length=(i+1)*16:=by rw[rkN_len h]; omega
  unfold setR rkP
  rw[rk_next h,List.take_append_of_le_length (by omega),List.take_of_length_le (by omega),folL_len,List.drop_append,List.drop_eq_nil_of_le (by omega),List.nil_append,hl]
  congr 1
  unfold repL
  rw[List.drop_replicate]
  congr 1
  omega
theorem rkP_full (key:List UInt8):rkP key 10=rkK key:=by
  unfold rkP repL rkK; rw[show 160-16*10=0 from rfl,List.replicate_zero,List.append_nil]
end Go.Proofs.Ytcikhnjfkfigjaa
namespace Go.Proofs.Ytcikhnjfkfigjaa
open Go.RowKit IntWalk
set_option maxHeartbeats 3200000
def expdSt (key:List UInt8) (i:Nat):St:=⟨ofL [(2,.w (.c (.ptr 2 1 0 0))),(3,.w (.c (.ptr 1 1 0 0))),(4,.w (.c (.d (bD (conK i))))),(5,.w (.c (.d (.int .i64 ((i+1:Nat):Int)))))],hL [(1,.box ((rkP key i).map bC)),(2,.box ((repL 176 (0:UInt8)).map bC))],uL [1,2]⟩
theorem con0:conK 0=1:=rfl
def lp_expd_0:SCode :=
 .seq (.seq (.reg [⟨some 10,.mv (.t 5),none⟩,
 ⟨some 11,.bin .leq (.t 10) (.k (.c (.d (.int .i64 10)))),none⟩])
 (.cond (.t 11) (.skip)
 (.exit 0)))
 (.seq (.block 1 (.seq (.reg [⟨some 14,.mv (.t 5),none⟩,
 ⟨some 15,.mv (.t 5),none⟩,
 ⟨some 16,.bin .sub (.t 15) (.k (.c (.d (.int .i64 1)))),none⟩,
 ⟨some 17,.idxPa 16 11 (.t 3) (.t 16),none⟩,
 ⟨some 18,.load (.ag 16) (.t 17),none⟩,
 ⟨some 19,.mv (.t 4),none⟩,
 ⟨some 20,.call 93 [(.t 18),(.t 19)] none,none⟩,
 ⟨some 21,.idxPa 16 11 (.t 3) (.t 14),none⟩,
 ⟨none,.store (.ag 16) (.t 21) (.t 20),none⟩])
 (.reg [⟨some 22,.mv (.t 4),none⟩,
 ⟨some 23,.call 94 [(.t 22)] none,none⟩,
 ⟨some 4,.mv (.t 23),none⟩])))
 (.reg [⟨some 12,.mv (.t 5),none⟩,
 ⟨some 13,.bin .add (.t 12) (.k (.c (.d (.int .i64 1)))),none⟩,
 ⟨some 5,.mv (.t 13),none⟩]))
def sf_expd:SFn:=⟨1,25,
 .seq (.reg [⟨some 2,.alloc (repL 176 (.d (.int .u8 0))),none⟩])
 (.seq (.reg [⟨some 3,.alloc (repL 176 (.d (.int .u8 0))),none⟩])
 (.seq (.reg [⟨some 6,.idxPa 16 11 (.t 3) (.k (.c (.d (.int .i64 0)))),none⟩,
 ⟨some 7,.sliceArr 1 16 (.t 6) none none,none⟩,
 ⟨some 8,.mv (.t 0),none⟩,
 ⟨some 9,.copy 1 (.t 7) (.t 8),none⟩])
 (.seq (.reg [⟨some 4,.mv (.k (.c (.d (.int .u8 1)))),none⟩])
 (.seq (.seq (.reg [⟨some 5,.mv (.k (.c (.d (.int .i64 1)))),none⟩])
 (.block 0 (.loop lp_expd_0)))
 (.seq (.reg [⟨some 24,.load (.ag 176) (.t 3),none⟩,
 ⟨none,.store (.ag 176) (.t 2) (.t 24),none⟩])
 (.ret)))))),
 [(2,(some (.ag 176)))]⟩
theorem cf_expd:compFn Try.prog { own:=[],comp:=[],frz:=[],nils:=[] } Try.f84=some sf_expd:=by kernel_rfl
theorem expd_c (G:Glob) (key:List UInt8) (h:key.length=16):Den Try.prog G 84 [.sl (key.map bD)] (.w (.c (.d (.agg ((rkK key).map bD))))):=by
  refine den_walk Try.func84 cf_expd rfl rfl ?_
  have ht:key.take 16=key:=List.take_of_length_le (by omega)
  have h0:key++List.drop key.length (repL 176 (0:UInt8))=rkP key 0:=by rw[← rkP_zero h]; simp[setR]
  have hid:=ids_bC (rkP key 0)
  have hid2:=ids_bC (repL 176 (0:UInt8))
  simp only[sf_expd,putAll,wx,wy,wz,stV,seval,iteOmega,toNatUp,reduceCtorEq,repL_bC,len_map,repL_len,take_map,ht,flat_bs,map_C,setR_map,h0]
  refine loop_st (expdSt key) (fun i=>10-i) (fun i=>i≤10) 0 (Nat.zero_le _) ?_ ?_
  ·refine ent_l (fun i=>if i=1 then 24 else 16) ?_ ?_ rfl (by simp[V.ids,W.ids,C.ids,Ob.ids,ids_bC]) <;> simp only[wx,wex,wez,stV,seval,iteOmega,toNatUp,reduceCtorEq,con0,bD1,ren_bC,ids_bC]
  ·intro i hi
   have hl:=rkP_len h hi
   by_cases hlt:i<10
   ·have g1:=rkP_part h hi
    have h5:List.take ((i+1)*16) (rkP key i)++folL (kb key i) (conK i)++List.drop ((i+1)*16+16) (rkP key i)=rkP key (i+1):=by
      rw[← rkP_step h hlt]; unfold setR; rw[folL_len]
    have hf:=folL_len (kb key i) (conK i)
    have hx:xtB (conK i)=conK (i+1):=rfl
    have s1:((i:Int)+1-1).toNat=i:=by omega
    simp only[lp_expd_0,expdSt,wx,wy,wz,stV,seval,iteOmega,toNatUp,reduceCtorEq,len_map,hl,take_map,drop_map,g1,allD_bs]
    refine st_call (fol_c G (kb key i) (conK i) (kb_len h i)) rfl (.inl rfl) ?_
    simp only[len_map,hl,map_C,hf,take_map,drop_map,app_map,h5,wx,wy,wz,stV,seval,iteOmega,toNatUp,reduceCtorEq]
    refine st_call (dbl_c G (conK i)) rfl (.inl rfl) ?_
    simp only[hx,wx,wy,wz,stV,seval,iteOmega,toNatUp,reduceCtorEq]
    refine lop_next (i+1) (by omega) (by omega) (ent_l (fun i=>i) ?_ ?_ rfl (by simp[V.ids,W.ids,C.ids,Ob.ids,ids_bC])) <;> simp only[wx,wex,wez,stV,seval,iteOmega,toNatUp,reduceCtorEq,ren_bC,ids_bC]
   ·obtain rfl:i=10:=by omega
    have e:=rkP_full key
    have e2:=rkK_len h
    rw[e] at hl
    have t1:(rkK key).take 176=rkK key:=List.take_of_length_le (by omega)
    have t2:List.drop 176 (repL 176 (0:UInt8))=[]:=List.drop_eq_nil_of_le (by rw[repL_len]; omega)
    have t3:rkK key++List.drop (rkK key).length (repL 176 (0:UInt8))=rkK key:=by rw[e2,t2,List.append_nil]
    simp only[lp_expd_0,expdSt,e,wx,wy,wz,stV,seval,iteOmega,toNatUp,reduceCtorEq,len_map,hl,e2,t1,t2,t3,allD_bs,map_C,repL_len,take_map,drop_map,app_map,List.append_nil]
    exact ret_d1 (by simp only[wx,wy,wz,stV,seval,iteOmega,toNatUp,reduceCtorEq,len_map,hl,e2,t1,t2,t3,allD_bs,map_C,repL_len,take_map,drop_map,app_map,List.append_nil])
theorem allDn_bs (l:List UInt8):allDn ((l.map bD).map C.d)=some (l.map bD):=by
  induction l with
  | nil=>rfl
  | cons x l ih =>
    show allDn (C.d (bD x)::(l.map bD).map C.d)=_
    simp only[allDn,ih,List.map_cons,Option.map_some]
theorem addL_enc (rk b:List UInt8) (hb:b.length=16):addL b (toL (keyF rk 0))=toL (encF (keyF rk) (ofB16 b) 0):=by
  have:=addL_toL (ofB16 b) (keyF rk 0)
  rw[toL_of hb] at this
  exact this
theorem rnd_enc (rk b:List UInt8) {n:Nat} (h:n+1<10):addL (mixL (subL (toL (encF (keyF rk) (ofB16 b) n)))) (toL (keyF rk (n+1)))=toL (encF (keyF rk) (ofB16 b) (n+1)):=by
  rw[subL_toL,mixL_toL,addL_toL]
  show _=toL (roundF _ _ _)
  unfold roundF
  rw[if_pos h]
theorem last_enc (rk b:List UInt8):addL (subL (toL (encF (keyF rk) (ofB16 b) 9))) (toL (keyF rk 10))=encK rk b:=by
  rw[subL_toL,addL_toL]
  rfl
def encSt (rk b:List UInt8) (i:Nat):St:=⟨ofL [(2,.w (.c (.rp (rk.map bD)))),(4,.w (.c (.pa 2 1))),(5,.w (.c (.pa 1 1))),(6,.w (.c (.d (.int .i64 ((i+1:Nat):Int)))))],hL [(1,.row 1 ((toL (encF (keyF rk) (ofB16 b) i)).map bD)),(2,.row 1 ((repL 16 (0:UInt8)).map bD))],uL [1,2]⟩
def lp_encd_0:SCode :=
 .seq (.seq (.reg [⟨some 14,.mv (.t 6),none⟩,
 ⟨some 15,.bin .lss (.t 14) (.k (.c (.d (.int .i64 10)))),none⟩])
 (.cond (.t 15) (.skip)
 (.exit 0)))
 (.seq (.block 1 (.reg [⟨some 18,.load (.ag 16) (.t 5),none⟩,
 ⟨some 19,.call 98 [(.t 18)] none,none⟩,
 ⟨some 20,.call 97 [(.t 19)] none,none⟩,
 ⟨some 21,.mv (.t 6),none⟩,
 ⟨some 22,.idxPa 16 11 (.t 2) (.t 21),none⟩,
 ⟨some 23,.load (.ag 16) (.t 22),none⟩,
 ⟨some 24,.call 96 [(.t 20),(.t 23)] none,none⟩,
 ⟨none,.store (.ag 16) (.t 5) (.t 24),none⟩]))
 (.reg [⟨some 16,.mv (.t 6),none⟩,
 ⟨some 17,.bin .add (.t 16) (.k (.c (.d (.int .i64 1)))),none⟩,
 ⟨some 6,.mv (.t 17),none⟩]))
def sf_encd:SFn:=⟨2,30,
 .seq (.reg [⟨some 2,.box .roBox (.t 0),none⟩,
 ⟨some 4,.allocArr [(.int .u8 0),(.int .u8 0),(.int .u8 0),(.int .u8 0),(.int .u8 0),(.int .u8 0),(.int .u8 0),(.int .u8 0),(.int .u8 0),(.int .u8 0),(.int .u8 0),(.int .u8 0),(.int .u8 0),(.int .u8 0),(.int .u8 0),(.int .u8 0)],none⟩])
 (.seq (.reg [⟨some 5,.allocArr [(.int .u8 0),(.int .u8 0),(.int .u8 0),(.int .u8 0),(.int .u8 0),(.int .u8 0),(.int .u8 0),(.int .u8 0),(.int .u8 0),(.int .u8 0),(.int .u8 0),(.int .u8 0),(.int .u8 0),(.int .u8 0),(.int .u8 0),(.int .u8 0)],none⟩])
 (.seq (.reg [⟨some 7,.sliceArr 1 16 (.t 5) none none,none⟩,
 ⟨some 8,.mv (.t 1),none⟩,
 ⟨some 9,.copy 1 (.t 7) (.t 8),none⟩])
 (.seq (.reg [⟨some 10,.load (.ag 16) (.t 5),none⟩,
 ⟨some 11,.idxPa 16 11 (.t 2) (.k (.c (.d (.int .i64 0)))),none⟩,
 ⟨some 12,.load (.ag 16) (.t 11),none⟩,
 ⟨some 13,.call 96 [(.t 10),(.t 12)] none,none⟩,
 ⟨none,.store (.ag 16) (.t 5) (.t 13),none⟩])
 (.seq (.seq (.reg [⟨some 6,.mv (.k (.c (.d (.int .i64 1)))),none⟩])
 (.block 0 (.loop lp_encd_0)))
 (.seq (.reg [⟨some 25,.load (.ag 16) (.t 5),none⟩,
 ⟨some 26,.call 98 [(.t 25)] none,none⟩,
 ⟨some 27,.idxPa 16 11 (.t 2) (.k (.c (.d (.int .i64 10)))),none⟩,
 ⟨some 28,.load (.ag 16) (.t 27),none⟩,
 ⟨some 29,.call 96 [(.t 26),(.t 28)] none,none⟩,
 ⟨none,.store (.ag 16) (.t 4) (.t 29),none⟩])
 (.ret)))))),
 [(4,(some (.ag 16)))]⟩
theorem cf_encd:compFn Try.prog { own:=[],comp:=[],frz:=[],nils:=[] } Try.f86=some sf_encd:=by kernel_rfl
theorem encd_c (G:Glob) (rk b:List UInt8) (hk:rk.length=176) (hb:b.length=16):Den Try.prog G 86 [.agg (rk.map bD),.sl (b.map bD)] (.w (.c (.d (.agg ((encK rk b).map bD))))):=by
  refine den_walk Try.func86 cf_encd rfl rfl ?_
  have ht:b.take 16=b:=List.take_of_length_le (by omega)
  have key:∀ r,r≤10→(rk.drop (16*r)).take 16=toL (keyF rk r):=fun r hr=>by
    apply List.ext_getElem?
    intro j
    by_cases hj:j<16
    ·rw[toL_get _ hj,List.getElem?_take,if_pos hj,List.getElem?_drop]; exact get_lt (by omega)
    ·rw[List.getElem?_eq_none (by rw[List.length_take]; omega),List.getElem?_eq_none (by rw[toL_len]; omega)]
  have d1:b++List.drop b.length (repL 16 (0:UInt8))=b:=by rw[hb,List.drop_eq_nil_of_le (by rw[repL_len]; omega),List.append_nil]
  have d2:List.drop 16 (repL 16 (0:UInt8))=[]:=List.drop_eq_nil_of_le (by rw[repL_len]; omega)
  have k0:=key 0 (by decide)
  have l0:(toL (keyF rk 0)).length=16:=toL_len _
  have t0:(toL (keyF rk 0)).take 16=toL (keyF rk 0):=List.take_of_length_le (by rw[toL_len]; omega)
  have a0:=addL_enc rk b hb
  have la:=toL_len (encF (keyF rk) (ofB16 b) 0)
  simp only[Nat.mul_zero,List.drop_zero] at k0
  simp only[sf_encd,putAll,wx,wy,wz,stV,seval,iteOmega,toNatUp,reduceCtorEq,z16,allDn_bs,repL_len,take_map,ht,drop_map,app_map,d1,d2,k0,flat_bs,hb,l0,t0,List.append_nil,List.length_nil]
  refine st_call (com_c G b (toL (keyF rk 0)) hb l0) rfl (.inl rfl) ?_
  simp only[a0,la,repL_len,wx,wy,wz,stV,seval,iteOmega,toNatUp,reduceCtorEq]
  refine loop_st (encSt rk b) (fun i=>9-i) (fun i=>i≤9) 0 (Nat.zero_le _) ?_ ?_
  ·refine ent_l (fun i=>if i=1 then 40 else 32) ?_ ?_ rfl rfl <;> simp only[wx,wex,wez,stV,seval,iteOmega,toNatUp,reduceCtorEq]
  ·intro i hi
   have le:=toL_len (encF (keyF rk) (ofB16 b) i)
   have hr:i+1≤10:=by omega
   have k1:=key (i+1) hr
   rw[Nat.mul_comm] at k1
   have l1:(toL (keyF rk (i+1))).length=16:=toL_len _
   have t1:(toL (keyF rk (i+1))).take 16=toL (keyF rk (i+1)):=List.take_of_length_le (by rw[toL_len]; omega)
   by_cases hlt:i<9
   ·have h5:=rnd_enc rk b (n:=i) (by omega)
    have le2:=toL_len (encF (keyF rk) (ofB16 b) (i+1))
    simp only[lp_encd_0,encSt,wx,wy,wz,stV,seval,iteOmega,toNatUp,reduceCtorEq,le,flat_bs]
    refine st_call (repl_c G (toL (encF (keyF rk) (ofB16 b) i)) le) rfl (.inl rfl) ?_
    simp only[wx,wy,wz,stV,seval,iteOmega,toNatUp,reduceCtorEq]
    refine st_call (mixd_c G _ (subL_len _)) rfl (.inl rfl) ?_
    simp only[take_map,drop_map,k1,l1,t1,wx,wy,wz,stV,seval,iteOmega,toNatUp,reduceCtorEq]
    refine st_call (com_c G _ _ (mixL_len _) l1) rfl (.inl rfl) ?_
    simp only[h5,le2,le,wx,wy,wz,stV,seval,iteOmega,toNatUp,reduceCtorEq]
    refine lop_next (i+1) (by omega) (by omega) (ent_l (fun i=>i) ?_ ?_ rfl rfl) <;> simp only[wx,wex,wez,stV,seval,iteOmega,toNatUp,reduceCtorEq]
   ·obtain rfl:i=9:=by omega
    have h5:=last_enc rk b
    have le2:=encK_len rk b
    simp only[lp_encd_0,encSt,wx,wy,wz,stV,seval,iteOmega,toNatUp,reduceCtorEq,le,flat_bs]
    refine st_call (repl_c G (toL (encF (keyF rk) (ofB16 b) 9)) le) rfl (.inl rfl) ?_
    simp only[take_map,drop_map,k1,l1,t1,wx,wy,wz,stV,seval,iteOmega,toNatUp,reduceCtorEq]
    refine st_call (com_c G _ _ (subL_len _) l1) rfl (.inl rfl) ?_
    simp only[h5,le2,repL_len,wx,wy,wz,stV,seval,iteOmega,toNatUp,reduceCtorEq]
    exact ret_d1 (by simp only[wx,wy,wz,stV,seval,iteOmega,toNatUp,reduceCtorEq,le2,flat_bs])
end Go.Proofs.Ytcikhnjfkfigjaa
namespace Go.Proofs.Ytcikhnjfkfigjaa
open Go.RowKit
end Go.Proofs.Ytcikhnjfkfigjaa
namespace Go.Proofs.Ytcikhnjfkfigjaa
open Go.RowKit
end Go.Proofs.Ytcikhnjfkfigjaa
namespace Go.Proofs.Ytcikhnjfkfigjaa
open Go.RowKit IntWalk
set_option maxHeartbeats 1600000
theorem incL_app:∀ a b:List UInt8,incL (a++b)=if (incL b).2 then ((incL a).1++(incL b).1,(incL a).2) else (a++(incL b).1,false)
  | [],b=>by
    show incL b=if (incL b).2 then ([]++(incL b).1,true) else ([]++(incL b).1,false)
    rcases incL b with ⟨s,_ | _⟩ <;> rfl
  | x::a,b=>by
    have ih:=incL_app a b
    simp only[List.cons_append,incL,ih]
    cases h:(incL b).2
    ·simp
    ·simp only[if_true]
     cases h2:(incL a).2 <;> simp
def carry (c:List UInt8) (m:Nat):Prop:=(incL (c.drop m)).2=true
def cntL (c:List UInt8) (m:Nat):List UInt8:=c.take m++(incL (c.drop m)).1
theorem cntL_len (c:List UInt8) (m:Nat):(cntL c m).length=c.length:=by
  unfold cntL; rw[List.length_append,incL_len,← List.length_append,List.take_append_drop]
theorem cntL_start (c:List UInt8):cntL c c.length=c:=by unfold cntL; simp[incL]
theorem carry_start (c:List UInt8):carry c c.length:=by unfold carry; simp[incL]
theorem cntL_zero (c:List UInt8):cntL c 0=nextC c:=by unfold cntL nextC; simp
theorem cnt_get {c:List UInt8} {m:Nat} (h:m<c.length):(cntL c (m+1))[m]?=some (c.getD m 0):=by
  unfold cntL
  rw[List.getElem?_append_left (by rw[List.length_take]; omega),List.getElem?_take,if_pos (by omega)]
  exact get_lt h
theorem drop_cons {c:List UInt8} {m:Nat} (h:m<c.length):c.drop m=c.getD m 0::c.drop (m+1):=by
  rw[List.drop_eq_getElem_cons h,List.getD_eq_getElem?_getD,List.getElem?_eq_getElem h]; rfl
theorem cnt_set {c:List UInt8} {m:Nat} (h:m<c.length) (hc:carry c (m+1)):(cntL c (m+1)).set m (c.getD m 0+1)=cntL c m:=by
  have e:(incL (c.drop m)).1=(c.getD m 0+1)::(incL (c.drop (m+1))).1:=by
    rw[drop_cons h]
    unfold carry at hc
    simp only[incL,hc,if_true]
  have e2:c.take (m+1)=c.take m++[c.getD m 0]:=by
    rw[List.take_add_one,get_lt h]; rfl
  unfold cntL
  rw[e,e2,List.append_assoc,List.set_append_right _ _ (by rw[List.length_take]; omega),List.length_take,show m-min m c.length=0 by omega]
  rfl
theorem carry_step {c:List UInt8} {m:Nat} (h:m<c.length) (hc:carry c (m+1)):(incL (c.drop m)).2=(c.getD m 0+1==0):=by
  rw[drop_cons h]
  unfold carry at hc
  simp only[incL,hc,if_true]
theorem cnt_end {c:List UInt8} {m:Nat} (h:(incL (c.drop m)).2=false):cntL c m=nextC c:=by
  have:=incL_app (c.take m) (c.drop m)
  rw[List.take_append_drop,h] at this
  unfold nextC cntL
  rw[this]; rfl
theorem bl_add (x c:UInt8) (n:Int) (h:n=(c.toNat:Int)):binV .add (.w (.c (.d (bD x)))) (.w (.c (.d (.int .u8 n))))=some (bD (x+c)):=by
  subst h
  show binI .add .u8 (x.toNat:Int) .u8 (c.toNat:Int)=_
  rw[binI_add,IntKind.wrap_u8]
  show some (D.int .u8 (((x.toNat:Int)+(c.toNat:Int))%256))=_
  have:((x.toNat:Int)+(c.toNat:Int))%256=((x+c).toNat:Int):=by
    rw[UInt8.toNat_add]; simp
  rw[this]; rfl
def nexV (c:List UInt8):List UInt8:=if c.length=16 then nextC c else []
def nxSt (c:List UInt8) (m:Nat):St:=⟨ofL [(3,.w (.c (.own 1 1 0 16))),(4,.w (.c (.d (.int .i64 ((m:Int)-1)))))],hL [(1,.row 1 ((cntL c m).map bD))],uL [1]⟩
def lp_nex_0:SCode :=
 .seq (.seq (.reg [⟨some 14,.mv (.t 4),none⟩,
 ⟨some 15,.bin .geq (.t 14) (.k (.c (.d (.int .i64 0)))),none⟩])
 (.cond (.t 15) (.skip)
 (.exit 0)))
 (.seq (.block 1 (.seq (.reg [⟨some 18,.mv (.t 3),none⟩,
 ⟨some 19,.mv (.t 4),none⟩,
 ⟨some 20,.idxSl 1 (.t 18) (.t 19),none⟩,
 ⟨some 21,.load .sc (.t 20),none⟩,
 ⟨some 22,.bin .add (.t 21) (.k (.c (.d (.int .u8 1)))),none⟩,
 ⟨some 23,.idxSl 1 (.t 18) (.t 19),none⟩,
 ⟨none,.store .sc (.t 23) (.t 22),none⟩])
 (.seq (.reg [⟨some 24,.mv (.t 3),none⟩,
 ⟨some 25,.mv (.t 4),none⟩,
 ⟨some 26,.idxSl 1 (.t 24) (.t 25),none⟩,
 ⟨some 27,.load .sc (.t 26),none⟩,
 ⟨some 28,.bin .neq (.t 27) (.k (.c (.d (.int .u8 0)))),none⟩])
 (.cond (.t 28) (.exit 0)
 (.skip)))))
 (.reg [⟨some 16,.mv (.t 4),none⟩,
 ⟨some 17,.bin .sub (.t 16) (.k (.c (.d (.int .i64 1)))),none⟩,
 ⟨some 4,.mv (.t 17),none⟩]))
def sf_nex:SFn:=⟨1,30,
 .seq (.reg [⟨some 2,.mv (.k (.c .nil)),none⟩])
 (.seq (.seq (.reg [⟨some 5,.mv (.t 0),none⟩,
 ⟨some 6,.len (.t 5),none⟩,
 ⟨some 7,.bin .neq (.t 6) (.k (.c (.d (.int .i64 16)))),none⟩])
 (.cond (.t 7) (.seq (.reg [⟨some 2,.mv (.k (.c .nil)),none⟩])
 (.ret))
 (.skip)))
 (.seq (.reg [⟨some 8,.mv (.t 0),none⟩,
 ⟨some 9,.bldSl false 1 1 (.sl []) [(0,(.t 8))],none⟩,
 ⟨some 10,.call 40 [(.t 9)] (some (0,1)),none⟩,
 ⟨some 3,.mv (.t 10),none⟩])
 (.seq (.seq (.reg [⟨some 11,.mv (.t 3),none⟩,
 ⟨some 12,.len (.t 11),none⟩,
 ⟨some 13,.bin .sub (.t 12) (.k (.c (.d (.int .i64 1)))),none⟩,
 ⟨some 4,.mv (.t 13),none⟩])
 (.block 0 (.loop lp_nex_0)))
 (.seq (.reg [⟨some 29,.mv (.t 3),none⟩,
 ⟨some 2,.mv (.t 29),none⟩])
 (.ret))))),
 [(2,none)]⟩
theorem cf_nex:compFn Try.prog { own:=[10],comp:=[],frz:=[],nils:=[] } Try.f87=some sf_nex:=by kernel_rfl
theorem nex_c (G:Glob) (c:List UInt8) (hc:c.length≤140737488355328):Den Try.prog G 87 [.sl (c.map bD)] (.w (.c (.fr 1 ((nexV c).map bD)))):=by
  refine den_walk Try.func87 cf_nex rfl rfl ?_
  unfold nexV
  by_cases h:c.length=16
  ·rw[if_pos h]
   have hj:=join_c G [c] (by simp) (by simp; omega)
   have hf:[c].flatten=c:=by simp
   rw[hf] at hj
   have hs:=cntL_start c
   rw[h] at hs
   simp only[sf_nex,putAll,wx,wy,wz,stV,seval,iteOmega,toNatUp,reduceCtorEq,h]
   refine st_call (hj) rfl (.inl rfl) ?_
   simp only[wx,wy,wz,stV,seval,iteOmega,toNatUp,reduceCtorEq]
   refine loop_st (nxSt c) (fun m=>m) (fun m=>m≤16∧carry c m) 16 ⟨Nat.le_refl _,by have:=carry_start c; rwa [h] at this⟩ ?_ ?_
   ·refine ent_l (fun i=>80) ?_ ?_ rfl rfl <;> simp only[wx,wex,wez,stV,seval,iteOmega,toNatUp,reduceCtorEq,hs,h] <;> rfl
   ·rintro m ⟨hm,hcar⟩
    rcases m with _ | q
    ·have e0:=cntL_zero c
     have hl:(nextC c).length=16:=by rw[nextC_len]; exact h
     simp only[lp_nex_0,nxSt,e0,Int.natCast_zero,Int.zero_sub,wx,wy,wz,stV,seval,iteOmega,toNatUp,reduceCtorEq]
     exact ret_own (id:=1) (n:=16) (s:=1) (by simp only[wx,stV,seval,iteOmega,toNatUp,reduceCtorEq]) (by simp only[wx,stV,seval,iteOmega,toNatUp,reduceCtorEq]) (by simp[hl])
    ·have hq:q<c.length:=by omega
     have hl1:(cntL c (q+1)).length=16:=by rw[cntL_len]; exact h
     have hl0:(cntL c q).length=16:=by rw[cntL_len]; exact h
     have g1:=cnt_get hq
     have h3:q<(cntL c (q+1)).length:=by omega
     have h5:=cnt_set hq hcar
     have g2:(cntL c q)[q]?=some (c.getD q 0+1):=by
       rw[← h5,List.getElem?_set_self (by omega)]
     have x1:=bl_add (c.getD q 0) 1 1 rfl
     have x2:=bl_neq (c.getD q 0+1) 0 0 rfl
     have hcs:=carry_step hq hcar
     have sub:((q:Int)+1-1)=(q:Int):=by omega
     by_cases hz:c.getD q 0+1=0
     ·have hz2:(c.getD q 0+1 != 0)=false:=by rw[hz]; rfl
      rw[hz2] at x2
      have hcar2:carry c q:=by unfold carry; rw[hcs,hz]; rfl
      simp only[lp_nex_0,nxSt,wx,wy,wz,stV,seval,iteOmega,toNatUp,reduceCtorEq,sub,get_map,g1,x1,stO_bs h3 (one_b _),set_bs,h5,g2,x2,hl1,hl0]
      refine lop_next q (by omega) ⟨by omega,hcar2⟩ (ent_l (fun i=>i) ?_ ?_ rfl rfl) <;> simp only[wx,wex,wez,stV,seval,iteOmega,toNatUp,reduceCtorEq]
     ·have hz2:(c.getD q 0+1 != 0)=true:=bne_iff_ne.2 hz
      rw[hz2] at x2
      have e0:cntL c q=nextC c:=cnt_end (by rw[hcs]; exact beq_eq_false_iff_ne.2 hz)
      rw[e0] at hl0 g2 h5
      simp only[lp_nex_0,nxSt,wx,wy,wz,stV,seval,iteOmega,toNatUp,reduceCtorEq,sub,get_map,g1,x1,stO_bs h3 (one_b _),set_bs,h5,g2,x2,hl1,e0]
      exact ret_own (id:=1) (n:=16) (s:=1) (by simp only[wx,stV,seval,iteOmega,toNatUp,reduceCtorEq]) (by simp only[wx,stV,seval,iteOmega,toNatUp,reduceCtorEq]) (by simp[hl0])
  ·rw[if_neg h]
   simp only[sf_nex,putAll,wx,wy,wz,stV,seval,iteOmega,toNatUp,reduceCtorEq]
   exact ret_f1 (by simp only[wx,wy,wz,stV,seval,iteOmega,toNatUp,reduceCtorEq])
def blkE (key b:List UInt8):Int:=if key.length≠16 then 5 else if b.length≠16 then 3 else 0
def blkV (key b:List UInt8):List UInt8:=if key.length=16∧b.length=16 then blockC key b else []
def sf_blk:SFn:=⟨2,18,
 .seq (.reg [⟨some 4,.mv (.k (.c .nil)),none⟩,
 ⟨some 5,.mv (.k (.c (.d (.int .i64 0)))),none⟩])
 (.seq (.seq (.reg [⟨some 7,.mv (.t 0),none⟩,
 ⟨some 8,.len (.t 7),none⟩,
 ⟨some 9,.bin .neq (.t 8) (.k (.c (.d (.int .i64 16)))),none⟩])
 (.cond (.t 9) (.seq (.reg [⟨some 4,.mv (.k (.c .nil)),none⟩,
 ⟨some 5,.mv (.k (.c (.d (.int .i64 5)))),none⟩])
 (.ret))
 (.skip)))
 (.seq (.seq (.reg [⟨some 10,.mv (.t 1),none⟩,
 ⟨some 11,.len (.t 10),none⟩,
 ⟨some 12,.bin .neq (.t 11) (.k (.c (.d (.int .i64 16)))),none⟩])
 (.cond (.t 12) (.seq (.reg [⟨some 4,.mv (.k (.c .nil)),none⟩,
 ⟨some 5,.mv (.k (.c (.d (.int .i64 3)))),none⟩])
 (.ret))
 (.skip)))
 (.seq (.reg [⟨some 13,.mv (.t 0),none⟩,
 ⟨some 14,.call 84 [(.t 13)] none,none⟩,
 ⟨some 15,.mv (.t 1),none⟩,
 ⟨some 16,.call 86 [(.t 14),(.t 15)] none,none⟩,
 ⟨some 6,.allocArr [(.int .u8 0),(.int .u8 0),(.int .u8 0),(.int .u8 0),(.int .u8 0),(.int .u8 0),(.int .u8 0),(.int .u8 0),(.int .u8 0),(.int .u8 0),(.int .u8 0),(.int .u8 0),(.int .u8 0),(.int .u8 0),(.int .u8 0),(.int .u8 0)],none⟩,
 ⟨none,.store (.ag 16) (.t 6) (.t 16),none⟩])
 (.seq (.reg [⟨some 17,.sliceArr 1 16 (.t 6) none none,none⟩,
 ⟨some 4,.mv (.t 17),none⟩,
 ⟨some 5,.mv (.k (.c (.d (.int .i64 0)))),none⟩])
 (.ret))))),
 [(4,none),(5,none)]⟩
theorem cf_blk:compFn Try.prog { own:=[],comp:=[],frz:=[],nils:=[] } Try.f99=some sf_blk:=by kernel_rfl
theorem blk_f (G:Glob) (key b:List UInt8) (hk:key.length≤9223372036854775807) (hb:b.length≤9223372036854775807):Den Try.prog G 99 [.sl (key.map bD),.sl (b.map bD)] (.tup [.c (.fr 1 ((blkV key b).map bD)),.c (.d (.int .i64 (blkE key b)))]):=by
  refine den_walk Try.func99 cf_blk rfl rfl ?_
  unfold blkV blkE
  by_cases h:key.length=16
  ·by_cases h2:b.length=16
   ·have hr:=rkK_len h
    have hl:(blockC key b).length=16:=encK_len _ _
    have ht:(blockC key b).take 16=blockC key b:=List.take_of_length_le (by omega)
    rw[if_pos ⟨h,h2⟩,if_neg (by simp[h]),if_neg (by simp[h2])]
    simp only[sf_blk,putAll,wx,wy,wz,stV,seval,iteOmega,toNatUp,reduceCtorEq,h,h2,z16]
    refine st_call (expd_c G key h) rfl (.inl rfl) ?_
    simp only[wx,wy,wz,stV,seval,iteOmega,toNatUp,reduceCtorEq]
    refine st_call (encd_c G (rkK key) b hr h2) rfl (.inl rfl) ?_
    simp only[encK_len,repL_len,hl,wx,wy,wz,stV,seval,iteOmega,toNatUp,reduceCtorEq]
    exact ret_f2 (by simp only[wx,wy,wz,stV,seval,iteOmega,toNatUp,reduceCtorEq,toFr,encK_len,hl,len_map]; rfl) (by simp only[wx,wy,wz,stV,seval,iteOmega,toNatUp,reduceCtorEq])
   ·rw[if_neg (fun k=>h2 k.2),if_neg (by simp[h]),if_pos h2]
    simp only[sf_blk,putAll,wx,wy,wz,stV,seval,iteOmega,toNatUp,reduceCtorEq,h]
    exact ret_f2 (by simp only[wx,wy,wz,stV,seval,iteOmega,toNatUp,reduceCtorEq]) (by simp only[wx,wy,wz,stV,seval,iteOmega,toNatUp,reduceCtorEq])
  ·rw[if_neg (fun k=>h k.1),if_pos h]
   simp only[sf_blk,putAll,wx,wy,wz,stV,seval,iteOmega,toNatUp,reduceCtorEq]
   exact ret_f2 (by simp only[wx,wy,wz,stV,seval,iteOmega,toNatUp,reduceCtorEq]) (by simp only[wx,wy,wz,stV,seval,iteOmega,toNatUp,reduceCtorEq])
def keyE (key:List UInt8):Int:=if key.length≠16 then 5 else 0
end Go.Proofs.Ytcikhnjfkfigjaa
namespace Go.Proofs.Ytcikhnjfkfigjaa
open Go.RowKit IntWalk
set_option maxHeartbeats 1600000
def padC0 (r n:Nat):Nat:=(n-r%n)%n
def padN (b:List UInt8) (n:Int):List UInt8:=if 1≤n∧n≤64 then b++List.replicate (padC0 b.length n.toNat) 0 else b
theorem padN_in (b:List UInt8) {n:Nat} (h:1≤n∧n≤64):padN b (n:Int)=b++List.replicate (padC0 b.length n) 0:=by
  unfold padN; rw[if_pos (by omega),Int.toNat_natCast]
theorem padN_out (b:List UInt8) {n:Int} (h:¬ (1≤n∧n≤64)):padN b n=b:=if_neg h
theorem padC0_lt (r:Nat) {n:Nat} (h:1≤n):padC0 r n<n:=Nat.mod_lt _ (by omega)
theorem putL_z3 (n:Nat):putL 0 n=List.replicate n 0:=by
  unfold putL
  simp only[Nat.zero_div]
  induction n with
  | zero=>rfl
  | succ n ih=>rw[List.range_succ,List.map_append,ih,List.replicate_succ']; rfl
theorem pad_more {r n i:Nat} (hn:1≤n) (h:i<padC0 r n):(r+i)%n≠0:=by
  unfold padC0 at h
  have hr:r%n<n:=Nat.mod_lt _ (by omega)
  have hm:=Nat.mod_le (n-r%n) n
  have hz:r%n≠0:=fun e=>by rw[e,Nat.sub_zero,Nat.mod_self] at h; omega
  have e:(r+i)%n=(r%n+i)%n:=by rw[Nat.add_mod,Nat.add_mod (r%n) i,Nat.mod_mod]
  rw[e,Nat.mod_eq_of_lt (by omega)]
  omega
theorem pad_done {r n:Nat} (hn:1≤n):(r+padC0 r n)%n=0:=by
  unfold padC0
  have hr:r%n<n:=Nat.mod_lt _ (by omega)
  by_cases hz:r%n=0
  ·rw[hz,Nat.sub_zero,Nat.mod_self,Nat.add_zero,hz]
  ·rw[Nat.mod_eq_of_lt (show n-r%n<n by omega),Nat.add_mod,Nat.mod_eq_of_lt (show n-r%n<n by omega),Nat.add_sub_cancel' (by omega),Nat.mod_self]
theorem tmodNN (a b:Nat):Int.tmod (a:Int) (b:Int)=((a%b:Nat):Int):=rfl
def sf_pad:SFn:=⟨2,28,
 .seq (.reg [⟨some 4,.mv (.k (.c .nil)),none⟩])
 (.seq (.seq (.reg [⟨some 6,.mv (.t 1),none⟩,
 ⟨some 7,.bin .lss (.t 6) (.k (.c (.d (.int .i64 1)))),none⟩,
 ⟨some 8,.mv (.t 7),none⟩,
 ⟨some 9,.mv (.t 1),some (8,false)⟩,
 ⟨some 10,.bin .gtr (.t 9) (.k (.c (.d (.int .i64 64)))),some (8,false)⟩,
 ⟨some 11,.pick (.t 8) (.k (.c (.d (.bool true)))) (.t 10),none⟩])
 (.cond (.t 11) (.seq (.reg [⟨some 12,.mv (.t 0),none⟩,
 ⟨some 13,.bldSl false 1 1 (.sl []) [(0,(.t 12))],none⟩,
 ⟨some 14,.call 40 [(.t 13)] (some (0,1)),none⟩,
 ⟨some 4,.mv (.t 14),none⟩])
 (.ret))
 (.skip)))
 (.seq (.reg [⟨some 15,.mv (.t 1),none⟩,
 ⟨some 16,.mv (.t 0),none⟩,
 ⟨some 17,.len (.t 16),none⟩,
 ⟨some 18,.mv (.t 1),none⟩,
 ⟨some 19,.bin .rem (.t 17) (.t 18),none⟩,
 ⟨some 20,.bin .sub (.t 15) (.t 19),none⟩,
 ⟨some 21,.mv (.t 1),none⟩,
 ⟨some 22,.bin .rem (.t 20) (.t 21),none⟩,
 ⟨some 5,.mv (.t 22),none⟩])
 (.seq (.reg [⟨some 23,.mv (.t 0),none⟩,
 ⟨some 24,.mv (.t 5),none⟩,
 ⟨some 25,.call 54 [(.k (.c (.d (.int .u64 0)))),(.t 24)] none,none⟩,
 ⟨some 26,.bldSl false 2 1 (.sl []) [(0,(.t 23)),(1,(.t 25))],none⟩,
 ⟨some 27,.call 40 [(.t 26)] (some (0,1)),none⟩,
 ⟨some 4,.mv (.t 27),none⟩])
 (.ret)))),
 [(4,none)]⟩
theorem cf_pad:compFn Try.prog { own:=[14,27],comp:=[],frz:=[],nils:=[] } Try.f55=some sf_pad:=by kernel_rfl
theorem pad_c (G:Glob) (b:List UInt8) (n:Int) (hb:b.length≤70368744177664):Den Try.prog G 55 [.sl (b.map bD),.int .i64 n] (.w (.c (.fr 1 ((padN b n).map bD)))):=by
  refine den_walk Try.func55 cf_pad rfl rfl ?_
  by_cases hc:1≤n∧n≤64
  ·obtain⟨m,rfl⟩:=Int.eq_ofNat_of_zero_le (show 0≤n by omega)
   rw[padN_in b (by omega)]
   have hr:b.length%m<m:=Nat.mod_lt _ (by omega)
   have hk:padC0 b.length m=(m-b.length%m)%m:=rfl
   have hlt:=padC0_lt b.length (n:=m) (by omega)
   have e1:=tmodNN b.length m
   have e2:Int.tmod ((m:Int)-((b.length%m:Nat):Int)) (m:Int)=((padC0 b.length m:Nat):Int):=by
     rw[show (m:Int)-((b.length%m:Nat):Int)=((m-b.length%m:Nat):Int) by omega,tmodNN,hk]
   have hm:((m:Int)=0)=False:=eq_false (by omega)
   have hp:=put_in G 0 (padC0 b.length m) (by omega)
   have hj:=join_c G [b,putL 0 (padC0 b.length m)] (by simp) (by simp[putL_length]; omega)
   have hf:[b,putL 0 (padC0 b.length m)].flatten=b++List.replicate (padC0 b.length m) 0:=by rw[putL_z3]; simp
   rw[hf] at hj
   generalize padC0 b.length m=k at *
   simp only[sf_pad,putAll,wx,wy,wz,stV,seval,iteOmega,toNatUp,reduceCtorEq,e1,e2,hm]
   refine st_call (hp) rfl (.inl rfl) ?_
   simp only[wx,wy,wz,stV,seval,iteOmega,toNatUp,reduceCtorEq]
   refine st_call (hj) rfl (.inl rfl) ?_
   simp only[wx,wy,wz,stV,seval,iteOmega,toNatUp,reduceCtorEq]
   exact ret_f1 (by simp only[wx,wy,wz,stV,seval,iteOmega,toNatUp,reduceCtorEq])
  ·rw[padN_out b hc]
   have hj:=join_c G [b] (by simp) (by simp; omega)
   have hf:[b].flatten=b:=by simp
   rw[hf] at hj
   by_cases h1:n<1
   ·simp only[sf_pad,putAll,wx,wy,wz,stV,seval,iteOmega,toNatUp,reduceCtorEq]
    refine st_call (hj) rfl (.inl rfl) ?_
    simp only[wx,wy,wz,stV,seval,iteOmega,toNatUp,reduceCtorEq]
    exact ret_f1 (by simp only[wx,wy,wz,stV,seval,iteOmega,toNatUp,reduceCtorEq])
   ·have h2:64<n:=by omega
    simp only[sf_pad,putAll,wx,wy,wz,stV,seval,iteOmega,toNatUp,reduceCtorEq]
    refine st_call (hj) rfl (.inl rfl) ?_
    simp only[wx,wy,wz,stV,seval,iteOmega,toNatUp,reduceCtorEq]
    exact ret_f1 (by simp only[wx,wy,wz,stV,seval,iteOmega,toNatUp,reduceCtorEq])
theorem rep_sn3 (b:List UInt8) (i:Nat):b++List.replicate i 0++[0]=b++List.replicate (i+1) 0:=by rw[List.replicate_succ',List.append_assoc]
def padO (b:List UInt8) (i:Nat):List UInt8:=b++List.replicate i 0
theorem padO_len (b:List UInt8) (i:Nat):(padO b i).length=b.length+i:=by unfold padO; rw[List.length_append,List.length_replicate]
theorem padO_snoc (b:List UInt8) (i:Nat):(padO b i).map bD++[D.int .u8 0]=(padO b (i+1)).map bD:=by unfold padO; rw[← rep_sn3,List.map_append (l₂:=[0])]; rfl
def rpadSt (b:List UInt8) (n:Int) (i:Nat):St:=⟨ofL [(1,.w (.c (.d (.int .i64 n)))),(5,.w (.c (.own 1 1 0 (padO b i).length)))],hL [(1,.row 1 ((padO b i).map bD))],uL [1]⟩
def lp_rpad_0:SCode :=
 .seq (.seq (.reg [⟨some 9,.mv (.t 1),none⟩,
 ⟨some 10,.bin .geq (.t 9) (.k (.c (.d (.int .i64 1)))),none⟩,
 ⟨some 11,.mv (.t 10),none⟩,
 ⟨some 12,.mv (.t 1),some (11,true)⟩,
 ⟨some 13,.bin .leq (.t 12) (.k (.c (.d (.int .i64 64)))),some (11,true)⟩,
 ⟨some 14,.pick (.t 11) (.t 13) (.k (.c (.d (.bool false)))),none⟩,
 ⟨some 15,.mv (.t 14),none⟩,
 ⟨some 16,.mv (.t 5),some (15,true)⟩,
 ⟨some 17,.len (.t 16),some (15,true)⟩,
 ⟨some 18,.mv (.t 1),some (15,true)⟩,
 ⟨some 19,.bin .rem (.t 17) (.t 18),some (15,true)⟩,
 ⟨some 20,.bin .neq (.t 19) (.k (.c (.d (.int .i64 0)))),some (15,true)⟩,
 ⟨some 21,.pick (.t 15) (.t 20) (.k (.c (.d (.bool false)))),none⟩])
 (.cond (.t 21) (.skip)
 (.exit 0)))
 (.block 1 (.reg [⟨some 22,.mv (.t 5),none⟩,
 ⟨some 23,.bldSl false 1 1 (.int .u8 0) [(0,(.k (.c (.d (.int .u8 0)))))],none⟩,
 ⟨some 24,.app false 1 1 (.t 22) (.t 23),none⟩,
 ⟨some 5,.mv (.t 24),none⟩]))
def sf_rpad:SFn:=⟨2,26,
 .seq (.reg [⟨some 4,.mv (.k (.c .nil)),none⟩])
 (.seq (.reg [⟨some 6,.mv (.t 0),none⟩,
 ⟨some 7,.bldSl false 1 1 (.sl []) [(0,(.t 6))],none⟩,
 ⟨some 8,.call 26 [(.t 7)] (some (0,1)),none⟩,
 ⟨some 5,.mv (.t 8),none⟩])
 (.seq (.block 0 (.loop lp_rpad_0))
 (.seq (.reg [⟨some 25,.mv (.t 5),none⟩,
 ⟨some 4,.mv (.t 25),none⟩])
 (.ret)))),
 [(4,none)]⟩
theorem cf_rpad:compFn Try.prog { own:=[8],comp:=[],frz:=[],nils:=[] } Try.f28=some sf_rpad:=by kernel_rfl
theorem rpad_c (G:Glob) (b:List UInt8) (n:Int) (hb:b.length≤70368744177664):Den Try.prog G 28 [.sl (b.map bD),.int .i64 n] (.w (.c (.fr 1 ((padN b n).map bD)))):=by
  refine den_walk Try.func28 cf_rpad rfl rfl ?_
  have hj:=rjoin_c G [b] (by simp) (by simp; omega)
  have hf:[b].flatten=b:=by simp
  rw[hf] at hj
  have h0:padO b 0=b:=by simp[padO]
  by_cases hc:1≤n∧n≤64
  ·obtain⟨m,rfl⟩:=Int.eq_ofNat_of_zero_le (show 0≤n by omega)
   rw[padN_in b (by omega)]
   have hlt:=padC0_lt b.length (n:=m) (by omega)
   have hm:((m:Int)=0)=False:=eq_false (by omega)
   have more:∀ i,i<padC0 b.length m→(b.length+i)%m≠0:=fun i h=>pad_more (by omega) h
   have done:(b.length+padC0 b.length m)%m=0:=pad_done (by omega)
   simp only[sf_rpad,putAll,wx,wy,wz,stV,seval,iteOmega,toNatUp,reduceCtorEq]
   refine st_call (hj) rfl (.inl rfl) ?_
   simp only[wx,wy,wz,stV,seval,iteOmega,toNatUp,reduceCtorEq]
   refine loop_st (rpadSt b m) (fun i=>padC0 b.length m-i) (fun i=>i≤padC0 b.length m) 0 (Nat.zero_le _) ?_ ?_
   ·refine ent_l (fun _=>64) ?_ ?_ rfl rfl <;> simp only[wx,wex,wez,stV,seval,iteOmega,toNatUp,reduceCtorEq,h0]
   ·intro i hi
    have hl:=padO_len b i
    have hl1:=padO_len b (i+1)
    have e1:Int.tmod ((b.length:Int)+(i:Int)) (m:Int)=(((b.length+i)%m:Nat):Int):=rfl
    have hs:=padO_snoc b i
    by_cases hk:i<padC0 b.length m
    ·have hne:=more i hk
     generalize (b.length+i)%m=q at *
     simp only[lp_rpad_0,rpadSt,wx,wy,wz,stV,seval,iteOmega,toNatUp,reduceCtorEq,hl,e1,hm,srcV,hs]
     refine lop_next (i+1) (by omega) (by omega) (ent_l (fun _=>192) ?_ ?_ rfl rfl) <;> simp only[wx,wex,wez,stV,seval,iteOmega,toNatUp,reduceCtorEq,hl1]
    ·have hik:i=padC0 b.length m:=by omega
     rw[← hik] at done ⊢
     simp only[done,Int.natCast_zero,Int.cast_ofNat_Int] at e1
     have hd:b++List.replicate i 0=padO b i:=rfl
     rw[hd]
     simp only[lp_rpad_0,rpadSt,wx,wy,wz,stV,seval,iteOmega,toNatUp,reduceCtorEq,hl,e1,hm]
     exact ret_own (id:=1) (n:=b.length+i) (s:=1) (by simp only[wx,stV,seval,iteOmega,toNatUp,reduceCtorEq]) (by simp only[wx,stV,seval,iteOmega,toNatUp,reduceCtorEq]) (by simp[hl])
  ·rw[padN_out b hc]
   simp only[sf_rpad,putAll,wx,wy,wz,stV,seval,iteOmega,toNatUp,reduceCtorEq]
   refine st_call (hj) rfl (.inl rfl) ?_
   simp only[wx,wy,wz,stV,seval,iteOmega,toNatUp,reduceCtorEq]
   refine loop_st (rpadSt b n) (fun i=>0-i) (fun i=>i=0) 0 rfl ?_ ?_
   ·refine ent_l (fun _=>64) ?_ ?_ rfl rfl <;> simp only[wx,wex,wez,stV,seval,iteOmega,toNatUp,reduceCtorEq,h0]
   ·rintro i rfl
    by_cases h1:n<1
    ·simp only[lp_rpad_0,rpadSt,h0,wx,wy,wz,stV,seval,iteOmega,toNatUp,reduceCtorEq]
     exact ret_own (id:=1) (n:=b.length) (s:=1) (by simp only[wx,stV,seval,iteOmega,toNatUp,reduceCtorEq]) (by simp only[wx,stV,seval,iteOmega,toNatUp,reduceCtorEq]) (by simp)
    ·have h2:64<n:=by omega
     simp only[lp_rpad_0,rpadSt,h0,wx,wy,wz,stV,seval,iteOmega,toNatUp,reduceCtorEq]
     exact ret_own (id:=1) (n:=b.length) (s:=1) (by simp only[wx,stV,seval,iteOmega,toNatUp,reduceCtorEq]) (by simp only[wx,stV,seval,iteOmega,toNatUp,reduceCtorEq]) (by simp)
end Go.Proofs.Ytcikhnjfkfigjaa
namespace Go.Proofs.Ytcikhnjfkfigjaa
open Go.RowKit IntWalk
set_option maxHeartbeats 1600000
def dG (b:List UInt8) (j:Nat):UInt8:=if j<15 then orB (shlB (b.getD j 0) 1) (shrB (b.getD (j+1) 0) 7) else shlB (b.getD j 0) 1
def dGL (b:List UInt8):List UInt8:=(List.range 16).map (dG b)
theorem dGL_len (b:List UInt8):(dGL b).length=16:=by simp[dGL]
theorem dGL_get (b:List UInt8) {j:Nat} (h:j<16):(dGL b)[j]?=some (dG b j):=by simp[dGL,h]
def redB (b:List UInt8):UInt8:=selB (bitB (b.getD 0 0) 7) 135
theorem dblL_set {b:List UInt8} (h:b.length=16):(dGL b).set 15 (xorB (dG b 15) (redB b))=dblL b:=by
  unfold dblL
  rw[if_pos h]
  apply List.ext_getElem?
  intro j
  rw[List.getElem?_set]
  by_cases hj:j<16
  ·rw[toL_get _ hj]
   have hd:∀ k,ofB16 b k=b.getD k 0:=fun _=>rfl
   by_cases h15:15=j
   ·subst h15
    rw[if_pos rfl,if_pos (by rw[dGL_len]; decide)]
    simp only[dG,dblF,hd,redB,Nat.lt_irrefl,if_false,if_true,xorB_zero]
   ·rw[if_neg h15,dGL_get _ hj]
    have:j<15:=by omega
    simp only[dG,dblF,hd,if_pos this,if_neg (show ¬ j=15 by omega),xorB_zero,or_low]
  ·rw[if_neg (by omega),List.getElem?_eq_none (by rw[dGL_len]; omega),List.getElem?_eq_none (by rw[toL_len]; omega)]
theorem redB_mul (b:List UInt8):binV .mul (.w (.c (.d (bD (shrB (b.getD 0 0) 7))))) (.w (.c (.d (.int .u8 135))))=some (bD (redB b)):=by
  have key:=all_b (p:=fun x=>(shrB x 7).toNat*135%256==(selB (bitB x 7) 135).toNat) (by decide +kernel) (b.getD 0 0)
  rw[beq_iff_eq] at key
  show binI .mul .u8 _ .u8 _=_
  rw[binI_mul,IntKind.wrap_u8]
  unfold redB bD
  rw[← key]
  congr 2
theorem orB_zero (x:UInt8):orB x 0=x:=by
  have key:=all_b (p:=fun x=>orB x 0==x) (by decide +kernel) x
  rw[beq_iff_eq] at key
  exact key
theorem bD0:bD 0=.int .u8 0:=rfl
def cyB (b:List UInt8) (m:Nat):UInt8:=if m<16 then shrB (b.getD m 0) 7 else 0
theorem cyB_step (b:List UInt8) {q:Nat} (h:q<16):orB (shlB (b.getD q 0) 1) (cyB b (q+1))=dG b q:=by
  unfold cyB dG
  by_cases h2:q<15
  ·rw[if_pos (by omega),if_pos h2]
  ·rw[if_neg (by omega),if_neg h2,orB_zero]
theorem cyB_at (b:List UInt8) {q:Nat} (h:q<16):shrB (b.getD q 0) 7=cyB b q:=(if_pos h).symm
def dnL (l:List UInt8) (m:Nat):List UInt8:=List.replicate m 0++l.drop m
theorem dnL_len {l:List UInt8} {m:Nat} (h:m≤l.length):(dnL l m).length=l.length:=by
  unfold dnL; rw[List.length_append,List.length_replicate,List.length_drop]; omega
theorem dnL_zero (l:List UInt8):dnL l 0=l:=by simp[dnL]
theorem dnL_full {l:List UInt8} {m:Nat} (h:l.length=m):dnL l m=List.replicate m 0:=by
  unfold dnL; rw[List.drop_eq_nil_of_le (by omega),List.append_nil]
theorem dnL_step {l:List UInt8} {q:Nat} (h:q<l.length):(dnL l (q+1)).set q (l.getD q 0)=dnL l q:=by
  unfold dnL
  rw[List.replicate_succ',List.append_assoc,List.set_append_right _ _ (by simp),List.length_replicate,Nat.sub_self,List.drop_eq_getElem_cons h,List.getD_eq_getElem?_getD,List.getElem?_eq_getElem h]
  rfl
def dbSt (b:List UInt8) (m:Nat):St:=⟨ofL [(0,.w (.c (.d (.sl (b.map bD))))),(3,.w (.c (.own 1 1 0 16))),(4,.w (.c (.d (bD (cyB b m))))),(5,.w (.c (.d (.int .i64 ((m:Int)-1)))))],hL [(1,.row 1 ((dnL (dGL b) m).map bD))],uL [1]⟩
theorem dblL_no {b:List UInt8} (h:b.length≠16):dblL b=[]:=if_neg h
def lp_dbb_0:SCode :=
 .seq (.seq (.reg [⟨some 10,.mv (.t 5),none⟩,
 ⟨some 11,.bin .geq (.t 10) (.k (.c (.d (.int .i64 0)))),none⟩])
 (.cond (.t 11) (.skip)
 (.exit 0)))
 (.seq (.block 1 (.seq (.reg [⟨some 14,.mv (.t 3),none⟩,
 ⟨some 15,.mv (.t 5),none⟩,
 ⟨some 16,.mv (.t 0),none⟩,
 ⟨some 17,.mv (.t 5),none⟩,
 ⟨some 18,.idxSl 1 (.t 16) (.t 17),none⟩,
 ⟨some 19,.load .sc (.t 18),none⟩,
 ⟨some 20,.bin .shl (.t 19) (.k (.c (.d (.int .u64 1)))),none⟩,
 ⟨some 21,.mv (.t 4),none⟩,
 ⟨some 22,.bin .or (.t 20) (.t 21),none⟩,
 ⟨some 23,.idxSl 1 (.t 14) (.t 15),none⟩,
 ⟨none,.store .sc (.t 23) (.t 22),none⟩])
 (.reg [⟨some 24,.mv (.t 0),none⟩,
 ⟨some 25,.mv (.t 5),none⟩,
 ⟨some 26,.idxSl 1 (.t 24) (.t 25),none⟩,
 ⟨some 27,.load .sc (.t 26),none⟩,
 ⟨some 28,.bin .shr (.t 27) (.k (.c (.d (.int .u64 7)))),none⟩,
 ⟨some 4,.mv (.t 28),none⟩])))
 (.reg [⟨some 12,.mv (.t 5),none⟩,
 ⟨some 13,.bin .sub (.t 12) (.k (.c (.d (.int .i64 1)))),none⟩,
 ⟨some 5,.mv (.t 13),none⟩]))
def sf_dbb:SFn:=⟨1,37,
 .seq (.reg [⟨some 2,.mv (.k (.c .nil)),none⟩])
 (.seq (.seq (.reg [⟨some 6,.mv (.t 0),none⟩,
 ⟨some 7,.len (.t 6),none⟩,
 ⟨some 8,.bin .neq (.t 7) (.k (.c (.d (.int .i64 16)))),none⟩])
 (.cond (.t 8) (.seq (.reg [⟨some 2,.mv (.k (.c .nil)),none⟩])
 (.ret))
 (.skip)))
 (.seq (.reg [⟨some 9,.make 1 1 (.int .u8 0) (.k (.c (.d (.int .i64 16)))) (.k (.c (.d (.int .i64 16)))),none⟩,
 ⟨some 3,.mv (.t 9),none⟩])
 (.seq (.reg [⟨some 4,.mv (.k (.c (.d (.int .u8 0)))),none⟩])
 (.seq (.seq (.reg [⟨some 5,.mv (.k (.c (.d (.int .i64 15)))),none⟩])
 (.block 0 (.loop lp_dbb_0)))
 (.seq (.reg [⟨some 29,.mv (.t 3),none⟩,
 ⟨some 30,.idxSl 1 (.t 29) (.k (.c (.d (.int .i64 15)))),none⟩,
 ⟨some 31,.load .sc (.t 30),none⟩,
 ⟨some 32,.mv (.t 4),none⟩,
 ⟨some 33,.bin .mul (.t 32) (.k (.c (.d (.int .u8 135)))),none⟩,
 ⟨some 34,.bin .xor (.t 31) (.t 33),none⟩,
 ⟨some 35,.idxSl 1 (.t 29) (.k (.c (.d (.int .i64 15)))),none⟩,
 ⟨none,.store .sc (.t 35) (.t 34),none⟩])
 (.seq (.reg [⟨some 36,.mv (.t 3),none⟩,
 ⟨some 2,.mv (.t 36),none⟩])
 (.ret))))))),
 [(2,none)]⟩
theorem cf_dbb:compFn Try.prog { own:=[],comp:=[],frz:=[],nils:=[] } Try.f100=some sf_dbb:=by kernel_rfl
theorem dbb_c (G:Glob) (b:List UInt8) (hb:b.length≤9223372036854775807):Den Try.prog G 100 [.sl (b.map bD)] (.w (.c (.fr 1 ((dblL b).map bD)))):=by
  refine den_walk Try.func100 cf_dbb rfl rfl ?_
  by_cases h:b.length=16
  ·have hd:=dblL_set h
   have hl:=dGL_len b
   simp only[sf_dbb,putAll,wx,wy,wz,stV,seval,iteOmega,toNatUp,reduceCtorEq,h,z16]
   refine loop_st (dbSt b) (fun m=>m) (fun m=>m≤16) 16 (Nat.le_refl _) ?_ ?_
   ·have e1:dnL (dGL b) 16=repL 16 0:=dnL_full hl
    have e2:cyB b 16=0:=rfl
    refine ent_l (fun i=>72) ?_ ?_ rfl rfl <;> simp only[wx,wex,wez,stV,seval,iteOmega,toNatUp,reduceCtorEq,e1,e2,bD0]
   ·intro m hm
    rcases m with _ | q
    ·have e0:=dnL_zero (dGL b)
     have c0:cyB b 0=shrB (b.getD 0 0) 7:=rfl
     have x1:=redB_mul b
     have g1:=dGL_get b (j:=15) (by decide)
     have x2:=binV_xorB (dG b 15) (redB b)
     have h3:15<(dGL b).length:=by omega
     have hdl:(dblL b).length=16:=dblL_len h
     simp only[lp_dbb_0,dbSt,e0,c0,Int.natCast_zero,Int.zero_sub,wx,wy,wz,stV,seval,iteOmega,toNatUp,reduceCtorEq,get_map,g1,x1,x2,stO_bs h3 (one_b _),set_bs,hd]
     exact ret_own (id:=1) (n:=16) (s:=1) (by simp only[wx,stV,seval,iteOmega,toNatUp,reduceCtorEq]) (by simp only[wx,stV,seval,iteOmega,toNatUp,reduceCtorEq]) (by simp[hdl])
    ·have hq:q<16:=by omega
     have g1:b[q]?=some (b.getD q 0):=get_lt (by omega)
     have hl1:=dnL_len (l:=dGL b) (m:=q+1) (by omega)
     have h3:q<(dnL (dGL b) (q+1)).length:=by omega
     have x1:=bl_shl (b.getD q 0) .u64 1 1 rfl (by decide)
     have x2:=binV_orB (shlB (b.getD q 0) 1) (cyB b (q+1))
     have x3:=bl_shr (b.getD q 0) .u64 7 7 rfl (by decide)
     have c1:=cyB_step b hq
     have c2:=cyB_at b hq
     have hs:=dnL_step (l:=dGL b) (q:=q) (by omega)
     have hg:(dGL b).getD q 0=dG b q:=by rw[List.getD_eq_getElem?_getD,dGL_get b hq]; rfl
     rw[hg] at hs
     have sub:((q:Int)+1-1)=(q:Int):=by omega
     simp only[lp_dbb_0,dbSt,wx,wy,wz,stV,seval,iteOmega,toNatUp,reduceCtorEq,sub,get_map,g1,x1,x2,x3,c1,c2,h,stO_bs h3 (one_b _),set_bs,hs]
     refine lop_next q (by omega) (by omega) (ent_l (fun i=>i) ?_ ?_ rfl rfl) <;> simp only[wx,wex,wez,stV,seval,iteOmega,toNatUp,reduceCtorEq]
  ·rw[dblL_no h]
   simp only[sf_dbb,putAll,wx,wy,wz,stV,seval,iteOmega,toNatUp,reduceCtorEq]
   exact ret_f1 (by simp only[wx,wy,wz,stV,seval,iteOmega,toNatUp,reduceCtorEq])
def xrF (a b:List UInt8) (j:Nat):UInt8:=xorB (a.getD j 0) (b.getD j 0)
theorem xorP_up {a b:List UInt8} {n:Nat} (ha:a.length=n) (hb:b.length=n):(List.range n).map (xrF a b)=xorP a b:=by
  apply List.ext_getElem?
  intro j
  by_cases hj:j<n
  ·have:=xorP_get a b j (by omega) (by omega)
   have hl:j<(xorP a b).length:=by rw[xorP_len]; omega
   rw[get_lt hl,this]
   simp[hj,xrF]
  ·rw[List.getElem?_eq_none (by simpa using hj),List.getElem?_eq_none (by rw[xorP_len]; omega)]
def cmbSt (a b:List UInt8) (i:Nat):St:=⟨ofL [(0,.w (.c (.d (.sl (a.map bD))))),(1,.w (.c (.d (.sl (b.map bD))))),(5,.w (.c (.own 1 1 0 16))),(9,.w (.c (.d (.int .i64 16)))),(10,.w (.c (.d (.int .i64 (i:Int)))))],hL [(1,.row 1 ((upL (xrF a b) (repL 16 0) i).map bD))],uL [1]⟩
def lp_cmb_0:SCode :=
 .seq (.reg [⟨some 11,.bin .lss (.t 10) (.t 9),none⟩])
 (.seq (.cond (.t 11) (.skip)
 (.exit 0))
 (.seq (.block 1 (.seq (.reg [⟨some 12,.mv (.t 10),none⟩,
 ⟨some 6,.mv (.t 12),none⟩])
 (.reg [⟨some 13,.mv (.t 5),none⟩,
 ⟨some 14,.mv (.t 6),none⟩,
 ⟨some 15,.mv (.t 0),none⟩,
 ⟨some 16,.mv (.t 6),none⟩,
 ⟨some 17,.idxSl 1 (.t 15) (.t 16),none⟩,
 ⟨some 18,.load .sc (.t 17),none⟩,
 ⟨some 19,.mv (.t 1),none⟩,
 ⟨some 20,.mv (.t 6),none⟩,
 ⟨some 21,.idxSl 1 (.t 19) (.t 20),none⟩,
 ⟨some 22,.load .sc (.t 21),none⟩,
 ⟨some 23,.bin .xor (.t 18) (.t 22),none⟩,
 ⟨some 24,.idxSl 1 (.t 13) (.t 14),none⟩,
 ⟨none,.store .sc (.t 24) (.t 23),none⟩])))
 (.reg [⟨some 25,.bin .add (.t 10) (.k (.c (.d (.int .i64 1)))),none⟩,
 ⟨some 10,.mv (.t 25),none⟩])))
def sf_cmb:SFn:=⟨2,27,
 .seq (.reg [⟨some 4,.mv (.k (.c .nil)),none⟩])
 (.seq (.reg [⟨some 7,.make 1 1 (.int .u8 0) (.k (.c (.d (.int .i64 16)))) (.k (.c (.d (.int .i64 16)))),none⟩,
 ⟨some 5,.mv (.t 7),none⟩])
 (.seq (.seq (.reg [⟨some 8,.mv (.t 5),none⟩,
 ⟨some 9,.len (.t 8),none⟩,
 ⟨some 10,.mv (.k (.c (.d (.int .i64 0)))),none⟩])
 (.block 0 (.loop lp_cmb_0)))
 (.seq (.reg [⟨some 26,.mv (.t 5),none⟩,
 ⟨some 4,.mv (.t 26),none⟩])
 (.ret)))),
 [(4,none)]⟩
theorem cf_cmb:compFn Try.prog { own:=[],comp:=[],frz:=[],nils:=[] } Try.f102=some sf_cmb:=by kernel_rfl
theorem cmb_c (G:Glob) (a b:List UInt8) (ha:a.length=16) (hb:b.length=16):Den Try.prog G 102 [.sl (a.map bD),.sl (b.map bD)] (.w (.c (.fr 1 ((xorP a b).map bD)))):=by
  refine den_walk Try.func102 cf_cmb rfl rfl ?_
  have zl:(repL 16 (0:UInt8)).length=16:=repL_len _ _
  simp only[sf_cmb,putAll,wx,wy,wz,stV,seval,iteOmega,toNatUp,reduceCtorEq,z16]
  refine loop_st (cmbSt a b) (fun i=>16-i) (fun i=>i≤16) 0 (Nat.zero_le _) ?_ ?_
  ·have e1:=upL_zero (xrF a b) (repL 16 0)
   refine ent_l (fun i=>56) ?_ ?_ rfl rfl <;> simp only[wx,wex,wez,stV,seval,iteOmega,toNatUp,reduceCtorEq,e1]
  ·intro i hi
   by_cases hlt:i<16
   ·have g1:a[i]?=some (a.getD i 0):=get_lt (by omega)
    have g2:b[i]?=some (b.getD i 0):=get_lt (by omega)
    have hl1:=upL_len (xrF a b) (repL 16 0) (i:=i) (by omega)
    have h3:i<(upL (xrF a b) (repL 16 0) i).length:=by omega
    have x1:=binV_xorB (a.getD i 0) (b.getD i 0)
    have hx:xorB (a.getD i 0) (b.getD i 0)=xrF a b i:=rfl
    have hs:=upL_step (xrF a b) (repL 16 0) (i:=i) (by omega)
    simp only[lp_cmb_0,cmbSt,wx,wy,wz,stV,seval,iteOmega,toNatUp,reduceCtorEq,get_map,g1,g2,x1,ha,hb,stO_bs h3 (one_b _),set_bs,hx,hs]
    refine lop_next (i+1) (by omega) (by omega) (ent_l (fun i=>i) ?_ ?_ rfl rfl) <;> simp only[wx,wex,wez,stV,seval,iteOmega,toNatUp,reduceCtorEq]
   ·obtain rfl:i=16:=by omega
    have e1:upL (xrF a b) (repL 16 0) 16=xorP a b:=by rw[upL_full _ _ (by rw[repL_len]; decide),xorP_up ha hb]
    have hl:(xorP a b).length=16:=by rw[xorP_len]; exact ha
    simp only[lp_cmb_0,cmbSt,e1,wx,wy,wz,stV,seval,iteOmega,toNatUp,reduceCtorEq]
    exact ret_own (id:=1) (n:=16) (s:=1) (by simp only[wx,stV,seval,iteOmega,toNatUp,reduceCtorEq]) (by simp only[wx,stV,seval,iteOmega,toNatUp,reduceCtorEq]) (by simp[hl])
end Go.Proofs.Ytcikhnjfkfigjaa
namespace Go.Proofs.Ytcikhnjfkfigjaa
open Go.RowKit IntWalk
set_option maxHeartbeats 3200000
theorem blkV_ok {key b:List UInt8} (h:key.length=16) (hb:b.length=16):blkV key b=encK (rkK key) b:=if_pos ⟨h,hb⟩
theorem blkE_ok {key b:List UInt8} (h:key.length=16) (hb:b.length=16):blkE key b=0:=by unfold blkE; rw[if_neg (by omega),if_neg (by omega)]
theorem padN_16 (b:List UInt8):padN b 16=padL b:=rfl
def cdD (key:List UInt8):D:=.agg [.sl (key.map bD),.sl ((sub1 (rkK key)).map bD),.sl ((sub2 (rkK key)).map bD)]
def cdV (key:List UInt8):D:=if key.length=16 then cdD key else .agg [.sl [],.sl [],.sl []]
theorem fl_bt (s:Nat) (l:List UInt8) (k:IntKind) (n:Int):V.flat (.tup [.c (.fr s (l.map bD)),.c (.d (.int k n))])=true:=by
  have:=fl_b s l
  simp only[V.flat,W.flat,List.all_cons,List.all_nil,Bool.and_true] at this ⊢
  rw[this]; rfl
def sf_kenc:SFn:=⟨2,15,
 .seq (.reg [⟨some 2,.box .roBox (.t 0),none⟩,
 ⟨some 4,.mv (.k (.c .nil)),none⟩])
 (.seq (.reg [⟨some 8,.fieldAddr 0 (.t 2),none⟩,
 ⟨some 9,.load .sc (.t 8),none⟩,
 ⟨some 10,.mv (.t 1),none⟩,
 ⟨some 11,.call 99 [(.t 9),(.t 10)] (some (0,1)),none⟩,
 ⟨some 7,.mv (.t 11),none⟩,
 ⟨some 12,.extract (.t 7) 0,none⟩,
 ⟨some 13,.extract (.t 7) 1,none⟩,
 ⟨some 5,.mv (.t 12),none⟩,
 ⟨some 6,.mv (.t 13),none⟩])
 (.seq (.reg [⟨some 14,.mv (.t 5),none⟩,
 ⟨some 4,.mv (.t 14),none⟩])
 (.ret))),
 [(4,none)]⟩
theorem cf_kenc:compFn Try.prog { own:=[],comp:=[(11,0)],frz:=[],nils:=[] } Try.f105=some sf_kenc:=by kernel_rfl
theorem kenc_f (G:Glob) (key b:List UInt8) (h:key.length=16) (hb:b.length=16):Den Try.prog G 105 [.agg [.sl (key.map bD)],.sl (b.map bD)] (.w (.c (.fr 1 ((encK (rkK key) b).map bD)))):=by
  refine den_walk Try.func105 cf_kenc rfl rfl ?_
  have hx:=blk_f G key b (by omega) (by omega)
  rw[blkV_ok h hb,blkE_ok h hb] at hx
  simp only[sf_kenc,putAll,wx,wy,wz,stV,seval,iteOmega,toNatUp,reduceCtorEq]
  refine st_call (hx) rfl (.inl rfl) ?_
  simp only[wx,wy,wz,stV,seval,iteOmega,toNatUp,reduceCtorEq]
  exact ret_f1 (by simp only[wx,wy,wz,stV,seval,iteOmega,toNatUp,reduceCtorEq])
theorem kenc_c (G:Glob) (key b:List UInt8) (h:key.length=16) (hb:b.length=16):Den Try.prog G 105 [.agg [.sl (key.map bD)],.sl (b.map bD)] (.w (.c (.d (.sl ((encK (rkK key) b).map bD))))):=den_ro (kenc_f G key b h hb)
def sf_cdof:SFn:=⟨1,25,
 .seq (.reg [⟨some 2,.alloc [.nil,.nil,.nil],none⟩,
 ⟨some 3,.mv (.k (.c (.d (.int .i64 0)))),none⟩])
 (.seq (.reg [⟨some 8,.mv (.t 0),none⟩,
 ⟨some 9,.make 1 1 (.int .u8 0) (.k (.c (.d (.int .i64 16)))) (.k (.c (.d (.int .i64 16)))),none⟩,
 ⟨some 10,.call 99 [(.t 8),(.t 9)] none,none⟩,
 ⟨some 7,.mv (.t 10),none⟩,
 ⟨some 11,.extract (.t 7) 0,none⟩,
 ⟨some 12,.extract (.t 7) 1,none⟩,
 ⟨some 4,.mv (.t 11),none⟩,
 ⟨some 5,.mv (.t 12),none⟩])
 (.seq (.seq (.reg [⟨some 13,.mv (.t 5),none⟩,
 ⟨some 14,.bin .neq (.t 13) (.k (.c (.d (.int .i64 0)))),none⟩])
 (.cond (.t 14) (.seq (.reg [⟨some 15,.build [.nil,.nil,.nil] [],none⟩,
 ⟨some 16,.mv (.t 5),none⟩,
 ⟨none,.store (.ag 3) (.t 2) (.t 15),none⟩,
 ⟨some 3,.mv (.t 16),none⟩])
 (.ret))
 (.skip)))
 (.seq (.reg [⟨some 17,.mv (.t 4),none⟩,
 ⟨some 18,.call 100 [(.t 17)] none,none⟩,
 ⟨some 6,.mv (.t 18),none⟩])
 (.seq (.reg [⟨some 19,.mv (.t 0),none⟩,
 ⟨some 20,.build [.nil] [(0,1,(.t 19))],none⟩,
 ⟨some 21,.mv (.t 6),none⟩,
 ⟨some 22,.mv (.t 6),none⟩,
 ⟨some 23,.call 100 [(.t 22)] none,none⟩,
 ⟨some 24,.build [.nil,.nil,.nil] [(0,1,(.t 20)),(1,1,(.t 21)),(2,1,(.t 23))],none⟩,
 ⟨none,.store (.ag 3) (.t 2) (.t 24),none⟩,
 ⟨some 3,.mv (.k (.c (.d (.int .i64 0)))),none⟩])
 (.ret))))),
 [(2,(some (.ag 3))),(3,none)]⟩
theorem cf_cdof:compFn Try.prog { own:=[],comp:=[],frz:=[],nils:=[] } Try.f91=some sf_cdof:=by kernel_rfl
theorem cdof_c (G:Glob) (key:List UInt8) (hk:key.length≤9223372036854775807):Den Try.prog G 91 [.sl (key.map bD)] (.tup [.c (.d (cdV key)),.c (.d (.int .i64 (keyE key)))]):=by
  refine den_walk Try.func91 cf_cdof rfl rfl ?_
  have t0:(repL 16 (0:UInt8)).take 16=zero16:=rfl
  by_cases h:key.length=16
  ·have hx:=blk_f G key zero16 (by omega) (by decide)
   rw[blkV_ok h (by decide),blkE_ok h (by decide)] at hx
   have hv:cdV key=cdD key:=if_pos h
   have he:keyE key=0:=by unfold keyE; rw[if_neg (by omega)]
   have h1:=dbb_c G (encK (rkK key) zero16) (by rw[encK_len]; decide)
   have h2:=dbb_c G (sub1 (rkK key)) (by rw[sub1_len]; decide)
   have s1:dblL (encK (rkK key) zero16)=sub1 (rkK key):=rfl
   have s2:dblL (sub1 (rkK key))=sub2 (rkK key):=rfl
   rw[s1] at h1
   rw[s2] at h2
   rw[hv,he]
   simp only[sf_cdof,putAll,wx,wy,wz,stV,seval,iteOmega,toNatUp,reduceCtorEq,z16]
   refine st_call hx (by simp only[wx,wy,wz,stV,seval,iteOmega,toNatUp,reduceCtorEq,take_map,t0,repL_len]) (.inr (fl_bt _ _ _ _)) ?_
   simp only[wx,wy,wz,stV,seval,iteOmega,toNatUp,reduceCtorEq]
   refine st_call (h1) rfl (.inl rfl) ?_
   simp only[wx,wy,wz,stV,seval,iteOmega,toNatUp,reduceCtorEq]
   refine st_call (h2) rfl (.inl rfl) ?_
   simp only[wx,wy,wz,stV,seval,iteOmega,toNatUp,reduceCtorEq]
   exact ret_d2 (by simp only[wx,wy,wz,stV,seval,iteOmega,toNatUp,reduceCtorEq,cdD]) (by simp only[wx,wy,wz,stV,seval,iteOmega,toNatUp,reduceCtorEq])
  ·have hv:cdV key=.agg [.sl [],.sl [],.sl []]:=if_neg h
   have he:keyE key=5:=if_pos h
   have hx:=blk_f G key zero16 (by omega) (by decide)
   have v1:blkV key zero16=[]:=if_neg (fun k=>h k.1)
   have v2:blkE key zero16=5:=if_pos h
   rw[v1,v2] at hx
   rw[hv,he]
   simp only[sf_cdof,putAll,wx,wy,wz,stV,seval,iteOmega,toNatUp,reduceCtorEq,z16]
   refine st_call hx (by simp only[wx,wy,wz,stV,seval,iteOmega,toNatUp,reduceCtorEq,take_map,t0,repL_len]) (.inr (fl_bt _ _ _ _)) ?_
   simp only[wx,wy,wz,stV,seval,iteOmega,toNatUp,reduceCtorEq]
   exact ret_d2 (by simp only[wx,wy,wz,stV,seval,iteOmega,toNatUp,reduceCtorEq]) (by simp only[wx,wy,wz,stV,seval,iteOmega,toNatUp,reduceCtorEq])
def sf_fild:SFn:=⟨1,8,
 .seq (.reg [⟨some 2,.mv (.k (.c .nil)),none⟩])
 (.seq (.reg [⟨some 3,.mv (.t 0),none⟩,
 ⟨some 4,.bldSl false 1 1 (.int .u8 0) [(0,(.k (.c (.d (.int .u8 128)))))],none⟩,
 ⟨some 5,.bldSl false 2 1 (.sl []) [(0,(.t 3)),(1,(.t 4))],none⟩,
 ⟨some 6,.call 40 [(.t 5)] none,none⟩,
 ⟨some 7,.call 55 [(.t 6),(.k (.c (.d (.int .i64 16))))] none,none⟩,
 ⟨some 2,.mv (.t 7),none⟩])
 (.ret)),
 [(2,none)]⟩
theorem cf_fild:compFn Try.prog { own:=[],comp:=[],frz:=[],nils:=[] } Try.f107=some sf_fild:=by kernel_rfl
theorem fild_c (G:Glob) (b:List UInt8) (hb:b.length≤70000):Den Try.prog G 107 [.sl (b.map bD)] (.w (.c (.d (.sl ((padL (b++[128])).map bD))))):=by
  refine den_walk Try.func107 cf_fild rfl rfl ?_
  have hj:=join_c G [b,[128]] (by simp) (by simp; omega)
  have hf:[b,[128]].flatten=b++[128]:=by simp
  rw[hf] at hj
  have hp:=pad_c G (b++[128]) 16 (by simp; omega)
  rw[padN_16] at hp
  simp only[sf_fild,putAll,wx,wy,wz,stV,seval,iteOmega,toNatUp,reduceCtorEq]
  refine st_call (hj) rfl (.inl rfl) ?_
  simp only[wx,wy,wz,stV,seval,iteOmega,toNatUp,reduceCtorEq]
  refine st_call (hp) rfl (.inl rfl) ?_
  simp only[wx,wy,wz,stV,seval,iteOmega,toNatUp,reduceCtorEq]
  exact ret_d1 (by simp only[wx,wy,wz,stV,seval,iteOmega,toNatUp,reduceCtorEq])
theorem endM_full (rk:List UInt8) {e:List UInt8} (h:e.length=16):endM rk e=xorP e (sub1 rk):=if_pos h
theorem endM_part (rk:List UInt8) {e:List UInt8} (h:e.length≠16):endM rk e=xorP (padL (e++[128])) (sub2 rk):=if_neg h
def sf_clast:SFn:=⟨2,17,
 .seq (.reg [⟨some 2,.box .roBox (.t 0),none⟩,
 ⟨some 4,.mv (.k (.c .nil)),none⟩])
 (.seq (.seq (.reg [⟨some 5,.mv (.t 1),none⟩,
 ⟨some 6,.len (.t 5),none⟩,
 ⟨some 7,.bin .eql (.t 6) (.k (.c (.d (.int .i64 16)))),none⟩])
 (.cond (.t 7) (.seq (.reg [⟨some 8,.mv (.t 1),none⟩,
 ⟨some 9,.fieldAddr 1 (.t 2),none⟩,
 ⟨some 10,.load .sc (.t 9),none⟩,
 ⟨some 11,.call 102 [(.t 8),(.t 10)] none,none⟩,
 ⟨some 4,.mv (.t 11),none⟩])
 (.ret))
 (.skip)))
 (.seq (.reg [⟨some 12,.mv (.t 1),none⟩,
 ⟨some 13,.call 107 [(.t 12)] none,none⟩,
 ⟨some 14,.fieldAddr 2 (.t 2),none⟩,
 ⟨some 15,.load .sc (.t 14),none⟩,
 ⟨some 16,.call 102 [(.t 13),(.t 15)] none,none⟩,
 ⟨some 4,.mv (.t 16),none⟩])
 (.ret))),
 [(4,none)]⟩
theorem cf_clast:compFn Try.prog { own:=[],comp:=[],frz:=[],nils:=[] } Try.f106=some sf_clast:=by kernel_rfl
theorem clast_c (G:Glob) (key b:List UInt8) (hb:b.length≤16):Den Try.prog G 106 [cdD key,.sl (b.map bD)] (.w (.c (.d (.sl ((endM (rkK key) b).map bD))))):=by
  refine den_walk Try.func106 cf_clast rfl rfl ?_
  by_cases h:b.length=16
  ·rw[endM_full _ h]
   simp only[sf_clast,putAll,cdD,wx,wy,wz,stV,seval,iteOmega,toNatUp,reduceCtorEq,h]
   refine st_call (cmb_c G b (sub1 (rkK key)) h (sub1_len _)) rfl (.inl rfl) ?_
   simp only[wx,wy,wz,stV,seval,iteOmega,toNatUp,reduceCtorEq]
   exact ret_d1 (by simp only[wx,wy,wz,stV,seval,iteOmega,toNatUp,reduceCtorEq])
  ·rw[endM_part _ h]
   simp only[sf_clast,putAll,cdD,wx,wy,wz,stV,seval,iteOmega,toNatUp,reduceCtorEq]
   refine st_call (fild_c G b (by omega)) rfl (.inl rfl) ?_
   simp only[wx,wy,wz,stV,seval,iteOmega,toNatUp,reduceCtorEq]
   refine st_call (cmb_c G (padL (b++[128])) (sub2 (rkK key)) (padL_short (by omega)) (sub2_len _)) rfl (.inl rfl) ?_
   simp only[wx,wy,wz,stV,seval,iteOmega,toNatUp,reduceCtorEq]
   exact ret_d1 (by simp only[wx,wy,wz,stV,seval,iteOmega,toNatUp,reduceCtorEq])
def codV (key b:List UInt8):Nat→V
  | 0=>.w (.c (.own 1 1 0 16))
  | i+1=>.w (.c (.d (.sl ((cbcM (rkK key) b (i+1)).map bD))))
def codSt (key b:List UInt8) (i:Nat):St:=⟨ofL [(1,.w (.c (.d (.sl ((b.drop (16*i)).map bD))))),(2,.w (.c (.rp [.sl (key.map bD),.sl ((sub1 (rkK key)).map bD),.sl ((sub2 (rkK key)).map bD)]))),(5,codV key b i)],hL [(1,.row 1 ((repL 16 (0:UInt8)).map bD))],uL [1]⟩
theorem drop16 (b:List UInt8) (i:Nat):((b.drop (16*i)).drop 16).take ((b.drop (16*i)).length-16)=b.drop (16*(i+1)):=by
  rw[List.drop_drop,List.take_of_length_le (by simp only[List.length_drop]; omega)]; rfl
def lp_code_0:SCode :=
 .seq (.seq (.reg [⟨some 7,.mv (.t 1),none⟩,
 ⟨some 8,.len (.t 7),none⟩,
 ⟨some 9,.bin .gtr (.t 8) (.k (.c (.d (.int .i64 16)))),none⟩])
 (.cond (.t 9) (.skip)
 (.exit 0)))
 (.block 1 (.seq (.reg [⟨some 10,.fieldAddr 0 (.t 2),none⟩,
 ⟨some 11,.load (.ag 1) (.t 10),none⟩,
 ⟨some 12,.mv (.t 5),none⟩,
 ⟨some 13,.mv (.t 1),none⟩,
 ⟨some 14,.slice 1 (.t 13) none (some (.k (.c (.d (.int .i64 16))))) none,none⟩,
 ⟨some 15,.call 102 [(.t 12),(.t 14)] none,none⟩,
 ⟨some 16,.call 105 [(.t 11),(.t 15)] none,none⟩,
 ⟨some 5,.mv (.t 16),none⟩])
 (.reg [⟨some 17,.mv (.t 1),none⟩,
 ⟨some 18,.slice 1 (.t 17) (some (.k (.c (.d (.int .i64 16))))) none none,none⟩,
 ⟨some 1,.mv (.t 18),none⟩])))
def sf_code:SFn:=⟨2,27,
 .seq (.reg [⟨some 2,.box .roBox (.t 0),none⟩,
 ⟨some 4,.mv (.k (.c .nil)),none⟩])
 (.seq (.reg [⟨some 6,.make 1 1 (.int .u8 0) (.k (.c (.d (.int .i64 16)))) (.k (.c (.d (.int .i64 16)))),none⟩,
 ⟨some 5,.mv (.t 6),none⟩])
 (.seq (.block 0 (.loop lp_code_0))
 (.seq (.reg [⟨some 19,.fieldAddr 0 (.t 2),none⟩,
 ⟨some 20,.load (.ag 1) (.t 19),none⟩,
 ⟨some 21,.mv (.t 5),none⟩,
 ⟨some 22,.load (.ag 3) (.t 2),none⟩,
 ⟨some 23,.mv (.t 1),none⟩,
 ⟨some 24,.call 106 [(.t 22),(.t 23)] none,none⟩,
 ⟨some 25,.call 102 [(.t 21),(.t 24)] none,none⟩,
 ⟨some 26,.call 105 [(.t 20),(.t 25)] (some (0,1)),none⟩,
 ⟨some 4,.mv (.t 26),none⟩])
 (.ret)))),
 [(4,none)]⟩
theorem cf_code:compFn Try.prog { own:=[26],comp:=[],frz:=[],nils:=[] } Try.f101=some sf_code:=by kernel_rfl
theorem code_f (G:Glob) (key b:List UInt8) (h:key.length=16) (hb:b.length≤70000):Den Try.prog G 101 [cdD key,.sl (b.map bD)] (.w (.c (.fr 1 ((macM (rkK key) b).map bD)))):=by
  refine den_walk Try.func101 cf_code rfl rfl ?_
  have t0:(repL 16 (0:UInt8)).take 16=zero16:=rfl
  have hah:aheadM b=(b.length+15) / 16-1:=rfl
  have hm:∀ i,i=aheadM b→macM (rkK key) b=encK (rkK key) (xorP (cbcM (rkK key) b i) (endM (rkK key) (b.drop (16*i)))):=fun i e=>by rw[e]; rfl
  simp only[sf_code,putAll,cdD,wx,wy,wz,stV,seval,iteOmega,toNatUp,reduceCtorEq,z16]
  refine loop_st (codSt key b) (fun i=>aheadM b-i) (fun i=>i≤aheadM b) 0 (Nat.zero_le _) ?_ ?_
  ·refine ent_l (fun i=>48) ?_ ?_ rfl rfl <;> simp only[wx,wex,wez,stV,seval,iteOmega,toNatUp,reduceCtorEq,codV]
  ·intro i hi
   have hcl:(b.drop (16*i)).length=b.length-16*i:=List.length_drop
   have hdr:=drop16 b i
   by_cases hlt:i<aheadM b
   ·have hT:((b.drop (16*i)).take 16).length=16:=by rw[List.length_take]; omega
    have hstep:encK (rkK key) (xorP (cbcM (rkK key) b i) ((b.drop (16*i)).take 16))=cbcM (rkK key) b (i+1):=rfl
    have h1:=cmb_c G (cbcM (rkK key) b i) ((b.drop (16*i)).take 16) (cbcM_len _ _ _) hT
    have h2:=kenc_c G key (xorP (cbcM (rkK key) b i) ((b.drop (16*i)).take 16)) h (by rw[xorP_len,cbcM_len])
    rw[hstep] at h2
    rcases i with _ | i
    ·have hz:cbcM (rkK key) b 0=zero16:=rfl
     rw[hz] at h1 h2
     simp only[Nat.mul_zero,List.drop_zero,Nat.zero_add,Nat.mul_one] at hdr
     simp only[lp_code_0,codSt,codV,wx,wy,wz,stV,seval,iteOmega,toNatUp,reduceCtorEq]
     refine st_call h1 (by simp only[wx,wy,wz,stV,seval,iteOmega,toNatUp,reduceCtorEq,take_map,t0,repL_len]) (.inr (fl_b _ _)) ?_
     simp only[wx,wy,wz,stV,seval,iteOmega,toNatUp,reduceCtorEq]
     refine st_call (h2) rfl (.inl rfl) ?_
     simp only[hdr,wx,wy,wz,stV,seval,iteOmega,toNatUp,reduceCtorEq]
     refine lop_next (0+1) (by omega) (by omega) (ent_l (fun i=>i) ?_ ?_ rfl rfl) <;> simp only[wx,wex,wez,stV,seval,iteOmega,toNatUp,reduceCtorEq,codV]
    ·simp only[lp_code_0,codSt,codV,wx,wy,wz,stV,seval,iteOmega,toNatUp,reduceCtorEq]
     refine st_call (h1) rfl (.inl rfl) ?_
     simp only[wx,wy,wz,stV,seval,iteOmega,toNatUp,reduceCtorEq]
     refine st_call (h2) rfl (.inl rfl) ?_
     simp only[hdr,wx,wy,wz,stV,seval,iteOmega,toNatUp,reduceCtorEq]
     refine lop_next (i+1+1) (by omega) (by omega) (ent_l (fun i=>i) ?_ ?_ rfl rfl) <;> simp only[wx,wex,wez,stV,seval,iteOmega,toNatUp,reduceCtorEq,codV]
   ·rw[hm i (by omega)]
    have hl16:(b.drop (16*i)).length≤16:=by omega
    have h1:=clast_c G key (b.drop (16*i)) hl16
    have h2:=cmb_c G (cbcM (rkK key) b i) (endM (rkK key) (b.drop (16*i))) (cbcM_len _ _ _) (endM_len hl16)
    have h3:=kenc_f G key (xorP (cbcM (rkK key) b i) (endM (rkK key) (b.drop (16*i)))) h (by rw[xorP_len,cbcM_len])
    rcases i with _ | i
    ·have hz:cbcM (rkK key) b 0=zero16:=rfl
     rw[hz] at h2 h3 ⊢
     simp only[lp_code_0,codSt,codV,wx,wy,wz,stV,seval,iteOmega,toNatUp,reduceCtorEq]
     refine st_call (h1) rfl (.inl rfl) ?_
     simp only[wx,wy,wz,stV,seval,iteOmega,toNatUp,reduceCtorEq]
     refine st_call h2 (by simp only[wx,wy,wz,stV,seval,iteOmega,toNatUp,reduceCtorEq,take_map,t0,repL_len]) (.inr (fl_b _ _)) ?_
     simp only[wx,wy,wz,stV,seval,iteOmega,toNatUp,reduceCtorEq]
     refine st_call (h3) rfl (.inl rfl) ?_
     simp only[wx,wy,wz,stV,seval,iteOmega,toNatUp,reduceCtorEq]
     exact ret_f1 (by simp only[wx,wy,wz,stV,seval,iteOmega,toNatUp,reduceCtorEq])
    ·simp only[lp_code_0,codSt,codV,wx,wy,wz,stV,seval,iteOmega,toNatUp,reduceCtorEq]
     refine st_call (h1) rfl (.inl rfl) ?_
     simp only[wx,wy,wz,stV,seval,iteOmega,toNatUp,reduceCtorEq]
     refine st_call (h2) rfl (.inl rfl) ?_
     simp only[wx,wy,wz,stV,seval,iteOmega,toNatUp,reduceCtorEq]
     refine st_call (h3) rfl (.inl rfl) ?_
     simp only[wx,wy,wz,stV,seval,iteOmega,toNatUp,reduceCtorEq]
     exact ret_f1 (by simp only[wx,wy,wz,stV,seval,iteOmega,toNatUp,reduceCtorEq])
theorem code_c (G:Glob) (key b:List UInt8) (h:key.length=16) (hb:b.length≤70000):Den Try.prog G 101 [cdD key,.sl (b.map bD)] (.w (.c (.d (.sl ((macM (rkK key) b).map bD))))):=den_ro (code_f G key b h hb)
def sf_clsd:SFn:=⟨2,26,
 .seq (.reg [⟨some 4,.mv (.k (.c .nil)),none⟩])
 (.seq (.reg [⟨some 6,.mv (.t 0),none⟩,
 ⟨some 7,.len (.t 6),none⟩,
 ⟨some 8,.bin .sub (.t 7) (.k (.c (.d (.int .i64 16)))),none⟩,
 ⟨some 5,.mv (.t 8),none⟩])
 (.seq (.seq (.reg [⟨some 9,.mv (.t 5),none⟩,
 ⟨some 10,.bin .lss (.t 9) (.k (.c (.d (.int .i64 0)))),none⟩])
 (.cond (.t 10) (.seq (.reg [⟨some 11,.mv (.t 1),none⟩,
 ⟨some 12,.call 100 [(.t 11)] none,none⟩,
 ⟨some 13,.mv (.t 0),none⟩,
 ⟨some 14,.call 107 [(.t 13)] none,none⟩,
 ⟨some 15,.call 102 [(.t 12),(.t 14)] none,none⟩,
 ⟨some 4,.mv (.t 15),none⟩])
 (.ret))
 (.skip)))
 (.seq (.reg [⟨some 16,.mv (.t 0),none⟩,
 ⟨some 17,.mv (.t 5),none⟩,
 ⟨some 18,.slice 1 (.t 16) none (some (.t 17)) none,none⟩,
 ⟨some 19,.mv (.t 0),none⟩,
 ⟨some 20,.mv (.t 5),none⟩,
 ⟨some 21,.slice 1 (.t 19) (some (.t 20)) none none,none⟩,
 ⟨some 22,.mv (.t 1),none⟩,
 ⟨some 23,.call 102 [(.t 21),(.t 22)] none,none⟩,
 ⟨some 24,.bldSl false 2 1 (.sl []) [(0,(.t 18)),(1,(.t 23))],none⟩,
 ⟨some 25,.call 40 [(.t 24)] none,none⟩,
 ⟨some 4,.mv (.t 25),none⟩])
 (.ret)))),
 [(4,none)]⟩
theorem cf_clsd:compFn Try.prog { own:=[],comp:=[],frz:=[],nils:=[] } Try.f103=some sf_clsd:=by kernel_rfl
theorem clsd_c (G:Glob) (s d:List UInt8) (hs:s.length≤70000) (hd:d.length=16):Den Try.prog G 103 [.sl (s.map bD),.sl (d.map bD)] (.w (.c (.d (.sl ((if 16≤s.length then s.take (s.length-16)++xorP (s.drop (s.length-16)) d else xorP (dblL d) (padL (s++[128]))).map bD))))):=by
  refine den_walk Try.func103 cf_clsd rfl rfl ?_
  by_cases h:16≤s.length
  ·rw[if_pos h]
   have hl:(s.drop (s.length-16)).length=16:=by rw[List.length_drop]; omega
   have ht:(s.drop (s.length-16)).take (s.length-(s.length-16))=s.drop (s.length-16):=List.take_of_length_le (by omega)
   have hj:=join_c G [s.take (s.length-16),xorP (s.drop (s.length-16)) d] (by simp) (by simp[xorP_len]; omega)
   have hf:[s.take (s.length-16),xorP (s.drop (s.length-16)) d].flatten=s.take (s.length-16)++xorP (s.drop (s.length-16)) d:=by simp
   rw[hf] at hj
   have e1:(((s.length:Int)-16).toNat)=s.length-16:=by omega
   simp only[sf_clsd,putAll,wx,wy,wz,stV,seval,iteOmega,toNatUp,reduceCtorEq,e1,ht]
   refine st_call (cmb_c G (s.drop (s.length-16)) d hl hd) rfl (.inl rfl) ?_
   simp only[wx,wy,wz,stV,seval,iteOmega,toNatUp,reduceCtorEq]
   refine st_call (hj) rfl (.inl rfl) ?_
   simp only[wx,wy,wz,stV,seval,iteOmega,toNatUp,reduceCtorEq]
   exact ret_d1 (by simp only[wx,wy,wz,stV,seval,iteOmega,toNatUp,reduceCtorEq])
  ·rw[if_neg h]
   simp only[sf_clsd,putAll,wx,wy,wz,stV,seval,iteOmega,toNatUp,reduceCtorEq]
   refine st_call (dbb_c G d (by omega)) rfl (.inl rfl) ?_
   simp only[wx,wy,wz,stV,seval,iteOmega,toNatUp,reduceCtorEq]
   refine st_call (fild_c G s (by omega)) rfl (.inl rfl) ?_
   simp only[wx,wy,wz,stV,seval,iteOmega,toNatUp,reduceCtorEq]
   refine st_call (cmb_c G (dblL d) (padL (s++[128])) (dblL_len hd) (padL_short (by omega))) rfl (.inl rfl) ?_
   simp only[wx,wy,wz,stV,seval,iteOmega,toNatUp,reduceCtorEq]
   exact ret_d1 (by simp only[wx,wy,wz,stV,seval,iteOmega,toNatUp,reduceCtorEq])
def vecSt (key:List UInt8) (l:List (List UInt8)) (i:Nat):St:=⟨ofL [(1,.w (.c (.d (.sl (l.map fun l=>D.sl (l.map bD)))))),(2,.w (.c (.rp [.sl (key.map bD),.sl ((sub1 (rkK key)).map bD),.sl ((sub2 (rkK key)).map bD)]))),(5,.w (.c (.d (.sl ((vecD (rkK key) l i).map bD))))),(6,.w (.c (.d (.int .i64 ((l.length:Int)-1))))),(23,.w (.c (.d (.sl ((l.take (l.length-1)).map fun l=>D.sl (l.map bD)))))),(24,.w (.c (.d (.int .i64 ((l.length:Int)-1))))),(25,.w (.c (.d (.int .i64 (i:Int)))))],hL [(1,.row 1 ((repL 16 (0:UInt8)).map bD))],uL [1]⟩
theorem vecM_none (rk:List UInt8) {l:List (List UInt8)} (h:l.length=0):vecM rk l=macM rk (putL 1 16):=by
  unfold vecM; rw[if_pos h]; congr 1
theorem vecM_some (rk:List UInt8) {l:List (List UInt8)} (h:l.length≠0):vecM rk l=macM rk (if 16≤(l.getD (l.length-1) []).length then (l.getD (l.length-1) []).take ((l.getD (l.length-1) []).length-16)++xorP ((l.getD (l.length-1) []).drop ((l.getD (l.length-1) []).length-16)) (vecD rk l (l.length-1)) else xorP (dblL (vecD rk l (l.length-1))) (padL (l.getD (l.length-1) []++[128]))):=by
  unfold vecM; rw[if_neg h]; dsimp only; split <;> rfl
theorem getL_lt {l:List (List UInt8)} {j:Nat} (h:j<l.length):l[j]?=some (l.getD j []):=by
  rw[List.getD_eq_getElem?_getD,List.getElem?_eq_getElem h]; rfl
theorem getL_mem {l:List (List UInt8)} {j:Nat} (h:j<l.length):l.getD j []∈l:=by
  rw[List.getD_eq_getElem?_getD,List.getElem?_eq_getElem h]; exact List.getElem_mem h
def lp_vect_0:SCode :=
 .seq (.reg [⟨some 26,.bin .lss (.t 25) (.t 24),none⟩])
 (.seq (.cond (.t 26) (.skip)
 (.exit 0))
 (.seq (.block 1 (.seq (.reg [⟨some 27,.idxSl 1 (.t 23) (.t 25),none⟩,
 ⟨some 28,.load .sc (.t 27),none⟩,
 ⟨some 8,.mv (.t 28),none⟩])
 (.reg [⟨some 29,.mv (.t 5),none⟩,
 ⟨some 30,.call 100 [(.t 29)] none,none⟩,
 ⟨some 31,.load (.ag 3) (.t 2),none⟩,
 ⟨some 32,.mv (.t 8),none⟩,
 ⟨some 33,.call 101 [(.t 31),(.t 32)] none,none⟩,
 ⟨some 34,.call 102 [(.t 30),(.t 33)] none,none⟩,
 ⟨some 5,.mv (.t 34),none⟩])))
 (.reg [⟨some 35,.bin .add (.t 25) (.k (.c (.d (.int .i64 1)))),none⟩,
 ⟨some 25,.mv (.t 35),none⟩])))
def sf_vect:SFn:=⟨2,44,
 .seq (.reg [⟨some 2,.box .roBox (.t 0),none⟩,
 ⟨some 4,.mv (.k (.c .nil)),none⟩])
 (.seq (.seq (.reg [⟨some 9,.mv (.t 1),none⟩,
 ⟨some 10,.len (.t 9),none⟩,
 ⟨some 11,.bin .eql (.t 10) (.k (.c (.d (.int .i64 0)))),none⟩])
 (.cond (.t 11) (.seq (.reg [⟨some 12,.load (.ag 3) (.t 2),none⟩,
 ⟨some 13,.call 54 [(.k (.c (.d (.int .u64 1)))),(.k (.c (.d (.int .i64 16))))] none,none⟩,
 ⟨some 14,.call 101 [(.t 12),(.t 13)] (some (0,1)),none⟩,
 ⟨some 4,.mv (.t 14),none⟩])
 (.ret))
 (.skip)))
 (.seq (.reg [⟨some 15,.load (.ag 3) (.t 2),none⟩,
 ⟨some 16,.make 1 1 (.int .u8 0) (.k (.c (.d (.int .i64 16)))) (.k (.c (.d (.int .i64 16)))),none⟩,
 ⟨some 17,.call 101 [(.t 15),(.t 16)] none,none⟩,
 ⟨some 5,.mv (.t 17),none⟩])
 (.seq (.reg [⟨some 18,.mv (.t 1),none⟩,
 ⟨some 19,.len (.t 18),none⟩,
 ⟨some 20,.bin .sub (.t 19) (.k (.c (.d (.int .i64 1)))),none⟩,
 ⟨some 6,.mv (.t 20),none⟩])
 (.seq (.seq (.reg [⟨some 21,.mv (.t 1),none⟩,
 ⟨some 22,.mv (.t 6),none⟩,
 ⟨some 23,.slice 1 (.t 21) none (some (.t 22)) none,none⟩,
 ⟨some 24,.len (.t 23),none⟩,
 ⟨some 25,.mv (.k (.c (.d (.int .i64 0)))),none⟩])
 (.block 0 (.loop lp_vect_0)))
 (.seq (.reg [⟨some 36,.load (.ag 3) (.t 2),none⟩,
 ⟨some 37,.mv (.t 1),none⟩,
 ⟨some 38,.mv (.t 6),none⟩,
 ⟨some 39,.idxSl 1 (.t 37) (.t 38),none⟩,
 ⟨some 40,.load .sc (.t 39),none⟩,
 ⟨some 41,.mv (.t 5),none⟩,
 ⟨some 42,.call 103 [(.t 40),(.t 41)] none,none⟩,
 ⟨some 43,.call 101 [(.t 36),(.t 42)] (some (0,1)),none⟩,
 ⟨some 4,.mv (.t 43),none⟩])
 (.ret)))))),
 [(4,none)]⟩
theorem cf_vect:compFn Try.prog { own:=[14,43],comp:=[],frz:=[],nils:=[] } Try.f92=some sf_vect:=by kernel_rfl
theorem vect_f (G:Glob) (key:List UInt8) (l:List (List UInt8)) (h:key.length=16) (hl:l.length≤17) (hb:∀ x∈l,x.length≤65535):Den Try.prog G 92 [cdD key,.sl (l.map fun l=>D.sl (l.map bD))] (.w (.c (.fr 1 ((vecM (rkK key) l).map bD)))):=by
  refine den_walk Try.func92 cf_vect rfl rfl ?_
  have t0:(repL 16 (0:UInt8)).take 16=zero16:=rfl
  by_cases h0:l.length=0
  ·rw[vecM_none _ h0]
   simp only[sf_vect,putAll,cdD,wx,wy,wz,stV,seval,iteOmega,toNatUp,reduceCtorEq,h0]
   refine st_call (put_in G 1 16 (by decide)) rfl (.inl rfl) ?_
   simp only[wx,wy,wz,stV,seval,iteOmega,toNatUp,reduceCtorEq]
   refine st_call (code_f G key (putL 1 16) h (by rw[putL_length]; decide)) rfl (.inl rfl) ?_
   simp only[wx,wy,wz,stV,seval,iteOmega,toNatUp,reduceCtorEq]
   exact ret_f1 (by simp only[wx,wy,wz,stV,seval,iteOmega,toNatUp,reduceCtorEq])
  ·rw[vecM_some _ h0]
   have e1:(((l.length:Int)-1).toNat)=l.length-1:=by omega
   have e2:(l.take (l.length-1)).length=l.length-1:=by rw[List.length_take]; omega
   have e3:((l.length-1:Nat):Int)=(l.length:Int)-1:=by omega
   simp only[sf_vect,putAll,cdD,wx,wy,wz,stV,seval,iteOmega,toNatUp,reduceCtorEq,z16]
   refine st_call (code_f G key zero16 h (by decide)) (by simp only[wx,wy,wz,stV,seval,iteOmega,toNatUp,reduceCtorEq,take_map,t0,repL_len,cdD]) (.inr (fl_b _ _)) ?_
   simp only[wx,wy,wz,stV,seval,iteOmega,toNatUp,reduceCtorEq,e1,e2,e3,allSz_ls]
   refine loop_st (vecSt key l) (fun i=>l.length-1-i) (fun i=>i≤l.length-1) 0 (Nat.zero_le _) ?_ ?_
   ·refine ent_l (fun i=>128) ?_ ?_ rfl rfl <;> simp only[wx,wex,wez,stV,seval,iteOmega,toNatUp,reduceCtorEq,vecD,e2,e3]
   ·intro i hi
    have hd:=vecD_len (rkK key) l i
    by_cases hlt:i<l.length-1
    ·have g1:(l.take (l.length-1))[i]?=some (l.getD i []):=by rw[List.getElem?_take,if_pos hlt,getL_lt (by omega)]
     have hx:=hb _ (getL_mem (l:=l) (j:=i) (by omega))
     have hs:xorP (dblL (vecD (rkK key) l i)) (macM (rkK key) (l.getD i []))=vecD (rkK key) l (i+1):=rfl
     have h1:=dbb_c G (vecD (rkK key) l i) (by omega)
     have h2:=code_c G key (l.getD i []) h (by omega)
     have h3:=cmb_c G (dblL (vecD (rkK key) l i)) (macM (rkK key) (l.getD i [])) (dblL_len hd) (macM_len _ _)
     rw[hs] at h3
     simp only[lp_vect_0,vecSt,wx,wy,wz,stV,seval,iteOmega,toNatUp,reduceCtorEq,get_map,g1,e2,e3]
     refine st_call (h1) rfl (.inl rfl) ?_
     simp only[wx,wy,wz,stV,seval,iteOmega,toNatUp,reduceCtorEq]
     refine st_call (h2) rfl (.inl rfl) ?_
     simp only[wx,wy,wz,stV,seval,iteOmega,toNatUp,reduceCtorEq]
     refine st_call (h3) rfl (.inl rfl) ?_
     simp only[wx,wy,wz,stV,seval,iteOmega,toNatUp,reduceCtorEq]
     refine lop_next (i+1) (by omega) (by omega) (ent_l (fun i=>i) ?_ ?_ rfl rfl) <;> simp only[wx,wex,wez,stV,seval,iteOmega,toNatUp,reduceCtorEq]
    ·obtain rfl:i=l.length-1:=by omega
     have g1:l[l.length-1]?=some (l.getD (l.length-1) []):=getL_lt (by omega)
     have hx:=hb _ (getL_mem (l:=l) (j:=l.length-1) (by omega))
     have h1:=clsd_c G (l.getD (l.length-1) []) (vecD (rkK key) l (l.length-1)) (by omega) hd
     have hcl:∀ s d:List UInt8,s.length≤65535→d.length=16→(if 16≤s.length then s.take (s.length-16)++xorP (s.drop (s.length-16)) d else xorP (dblL d) (padL (s++[128]))).length≤70000:=by
       intro s d h1 h2
       split
       ·rw[List.length_append,xorP_len,← List.length_append,List.take_append_drop]; omega
       ·rw[xorP_len,dblL_len h2]; decide
     have h2:=code_f G key _ h (hcl _ _ hx hd)
     simp only[lp_vect_0,vecSt,wx,wy,wz,stV,seval,iteOmega,toNatUp,reduceCtorEq,get_map,g1,e1,e3]
     refine st_call (h1) rfl (.inl rfl) ?_
     simp only[wx,wy,wz,stV,seval,iteOmega,toNatUp,reduceCtorEq]
     refine st_call (h2) rfl (.inl rfl) ?_
     simp only[wx,wy,wz,stV,seval,iteOmega,toNatUp,reduceCtorEq]
     exact ret_f1 (by simp only[wx,wy,wz,stV,seval,iteOmega,toNatUp,reduceCtorEq])
def longL (l:List (List UInt8)):Bool:=l.any fun x=>decide (65535<x.length)
def vctE (key:List UInt8) (l:List (List UInt8)):Int:=if key.length≠16 then 5 else if 17<l.length then 8 else if longL l=true then 2 else 0
def vctV (key:List UInt8) (l:List (List UInt8)):List UInt8:=if key.length=16∧l.length≤17∧longL l=false then vecM (rkK key) l else []
theorem longL_no {l:List (List UInt8)} (h:∀ j,j<l.length→(l.getD j []).length≤65535):longL l=false:=by
  unfold longL
  rw[List.any_eq_false]
  intro x hx
  obtain⟨j,hj,rfl⟩:=List.getElem_of_mem hx
  have:=h j hj
  rw[List.getD_eq_getElem?_getD,List.getElem?_eq_getElem hj] at this
  simpa using this
theorem longL_yes {l:List (List UInt8)} {j:Nat} (hj:j<l.length) (h:65535<(l.getD j []).length):longL l=true:=by
  unfold longL
  rw[List.any_eq_true]
  exact⟨_,getL_mem hj,decide_eq_true h⟩
theorem longL_all {l:List (List UInt8)} (h:longL l=false):∀ x∈l,x.length≤65535:=by
  unfold longL at h
  rw[List.any_eq_false] at h
  intro x hx
  have:=h x hx
  simpa using this
def vctSt (key:List UInt8) (l:List (List UInt8)) (i:Nat):St:=⟨ofL [(1,.w (.c (.d (.sl (l.map fun l=>D.sl (l.map bD)))))),(6,.w (.c (.ptr 1 1 0 0))),(21,.w (.c (.d (.sl (l.map fun l=>D.sl (l.map bD)))))),(22,.w (.c (.d (.int .i64 (l.length:Int))))),(23,.w (.c (.d (.int .i64 (i:Int)))))],hL [(1,.box [.d (.sl (key.map bD)),.d (.sl ((sub1 (rkK key)).map bD)),.d (.sl ((sub2 (rkK key)).map bD))])],uL [1]⟩
def lp_vctr_0:SCode :=
 .seq (.reg [⟨some 24,.bin .lss (.t 23) (.t 22),none⟩])
 (.seq (.cond (.t 24) (.skip)
 (.exit 0))
 (.seq (.block 1 (.seq (.reg [⟨some 25,.idxSl 1 (.t 21) (.t 23),none⟩,
 ⟨some 26,.load .sc (.t 25),none⟩,
 ⟨some 9,.mv (.t 26),none⟩])
 (.seq (.reg [⟨some 27,.mv (.t 9),none⟩,
 ⟨some 28,.len (.t 27),none⟩,
 ⟨some 29,.bin .gtr (.t 28) (.k (.c (.d (.int .i64 65535)))),none⟩])
 (.cond (.t 29) (.seq (.reg [⟨some 4,.mv (.k (.c .nil)),none⟩,
 ⟨some 5,.mv (.k (.c (.d (.int .i64 2)))),none⟩])
 (.ret))
 (.skip)))))
 (.reg [⟨some 30,.bin .add (.t 23) (.k (.c (.d (.int .i64 1)))),none⟩,
 ⟨some 23,.mv (.t 30),none⟩])))
def sf_vctr:SFn:=⟨2,34,
 .seq (.reg [⟨some 4,.mv (.k (.c .nil)),none⟩,
 ⟨some 5,.mv (.k (.c (.d (.int .i64 0)))),none⟩])
 (.seq (.reg [⟨some 11,.mv (.t 0),none⟩,
 ⟨some 12,.call 91 [(.t 11)] none,none⟩,
 ⟨some 10,.mv (.t 12),none⟩,
 ⟨some 13,.extract (.t 10) 0,none⟩,
 ⟨some 14,.extract (.t 10) 1,none⟩,
 ⟨some 6,.alloc [.nil,.nil,.nil],none⟩,
 ⟨none,.store (.ag 3) (.t 6) (.t 13),none⟩,
 ⟨some 7,.mv (.t 14),none⟩])
 (.seq (.seq (.reg [⟨some 15,.mv (.t 7),none⟩,
 ⟨some 16,.bin .neq (.t 15) (.k (.c (.d (.int .i64 0)))),none⟩])
 (.cond (.t 16) (.seq (.reg [⟨some 17,.mv (.t 7),none⟩,
 ⟨some 4,.mv (.k (.c .nil)),none⟩,
 ⟨some 5,.mv (.t 17),none⟩])
 (.ret))
 (.skip)))
 (.seq (.seq (.reg [⟨some 18,.mv (.t 1),none⟩,
 ⟨some 19,.len (.t 18),none⟩,
 ⟨some 20,.bin .gtr (.t 19) (.k (.c (.d (.int .i64 17)))),none⟩])
 (.cond (.t 20) (.seq (.reg [⟨some 4,.mv (.k (.c .nil)),none⟩,
 ⟨some 5,.mv (.k (.c (.d (.int .i64 8)))),none⟩])
 (.ret))
 (.skip)))
 (.seq (.seq (.reg [⟨some 21,.mv (.t 1),none⟩,
 ⟨some 22,.len (.t 21),none⟩,
 ⟨some 23,.mv (.k (.c (.d (.int .i64 0)))),none⟩])
 (.block 0 (.loop lp_vctr_0)))
 (.seq (.reg [⟨some 31,.load (.ag 3) (.t 6),none⟩,
 ⟨some 32,.mv (.t 1),none⟩,
 ⟨some 33,.call 92 [(.t 31),(.t 32)] (some (0,1)),none⟩,
 ⟨some 4,.mv (.t 33),none⟩,
 ⟨some 5,.mv (.k (.c (.d (.int .i64 0)))),none⟩])
 (.ret)))))),
 [(4,none),(5,none)]⟩
theorem cf_vctr:compFn Try.prog { own:=[33],comp:=[],frz:=[],nils:=[] } Try.f81=some sf_vctr:=by kernel_rfl
theorem vctr_f (G:Glob) (key:List UInt8) (l:List (List UInt8)) (hk:key.length≤9223372036854775807) (hl:l.length≤9223372036854775807) (hb:∀ x∈l,x.length≤9223372036854775807):Den Try.prog G 81 [.sl (key.map bD),.sl (l.map fun l=>D.sl (l.map bD))] (.tup [.c (.fr 1 ((vctV key l).map bD)),.c (.d (.int .i64 (vctE key l)))]):=by
  refine den_walk Try.func81 cf_vctr rfl rfl ?_
  have hx:=cdof_c G key hk
  unfold vctV vctE
  by_cases h:key.length=16
  ·have hv:cdV key=cdD key:=if_pos h
   have he:keyE key=0:=by unfold keyE; rw[if_neg (by omega)]
   rw[hv,he] at hx
   by_cases h2:l.length≤17
   ·rw[if_neg (by omega:¬ key.length≠16),if_neg (by omega:¬ 17<l.length)]
    simp only[sf_vctr,putAll,wx,wy,wz,stV,seval,iteOmega,toNatUp,reduceCtorEq]
    refine st_call (hx) rfl (.inl rfl) ?_
    simp only[cdD,wx,wy,wz,stV,seval,iteOmega,toNatUp,reduceCtorEq]
    refine loop_st (vctSt key l) (fun i=>l.length-i) (fun i=>i≤l.length∧∀ j,j<i→(l.getD j []).length≤65535) 0 ⟨Nat.zero_le _,fun j hj=>by omega⟩ ?_ ?_
    ·refine ent_l (fun i=>48) ?_ ?_ rfl rfl <;> simp only[wx,wex,wez,stV,seval,iteOmega,toNatUp,reduceCtorEq]
    ·rintro i ⟨hi,hok⟩
     by_cases hlt:i<l.length
     ·have g1:=getL_lt hlt
      have hx:=hb _ (getL_mem hlt)
      by_cases hlong:65535<(l.getD i []).length
      ·have hL:=longL_yes hlt hlong
       rw[hL,if_neg (by simp),if_pos rfl]
       simp only[lp_vctr_0,vctSt,wx,wy,wz,stV,seval,iteOmega,toNatUp,reduceCtorEq,get_map,g1]
       exact ret_f2 (by simp only[wx,wy,wz,stV,seval,iteOmega,toNatUp,reduceCtorEq]) (by simp only[wx,wy,wz,stV,seval,iteOmega,toNatUp,reduceCtorEq])
      ·simp only[lp_vctr_0,vctSt,wx,wy,wz,stV,seval,iteOmega,toNatUp,reduceCtorEq,get_map,g1]
       refine lop_next (i+1) (by omega) ⟨by omega,fun j hj=>?_⟩ (ent_l (fun i=>i) ?_ ?_ rfl rfl)
       ·rcases Nat.lt_or_ge j i with h | h
        ·exact hok j h
        ·obtain rfl:j=i:=by omega
         omega
       all_goals simp only[wx,wex,wez,stV,seval,iteOmega,toNatUp,reduceCtorEq]
     ·have hL:=longL_no (l:=l) (fun j hj=>hok j (by omega))
      rw[hL,if_pos ⟨h,h2,rfl⟩,if_neg (by simp)]
      simp only[lp_vctr_0,vctSt,wx,wy,wz,stV,seval,iteOmega,toNatUp,reduceCtorEq]
      refine st_call (vect_f G key l h h2 (longL_all hL)) rfl (.inl rfl) ?_
      simp only[wx,wy,wz,stV,seval,iteOmega,toNatUp,reduceCtorEq]
      exact ret_f2 (by simp only[wx,wy,wz,stV,seval,iteOmega,toNatUp,reduceCtorEq]) (by simp only[wx,wy,wz,stV,seval,iteOmega,toNatUp,reduceCtorEq])
   ·rw[if_neg (by omega),if_neg (by omega),if_pos (by omega)]
    have h3:17<l.length:=by omega
    simp only[sf_vctr,putAll,wx,wy,wz,stV,seval,iteOmega,toNatUp,reduceCtorEq]
    refine st_call (hx) rfl (.inl rfl) ?_
    simp only[cdD,wx,wy,wz,stV,seval,iteOmega,toNatUp,reduceCtorEq]
    exact ret_f2 (by simp only[wx,wy,wz,stV,seval,iteOmega,toNatUp,reduceCtorEq]) (by simp only[wx,wy,wz,stV,seval,iteOmega,toNatUp,reduceCtorEq])
  ·have hv:cdV key=.agg [.sl [],.sl [],.sl []]:=if_neg h
   have he:keyE key=5:=if_pos h
   rw[hv,he] at hx
   rw[if_neg (by omega),if_pos h]
   simp only[sf_vctr,putAll,wx,wy,wz,stV,seval,iteOmega,toNatUp,reduceCtorEq]
   refine st_call (hx) rfl (.inl rfl) ?_
   simp only[wx,wy,wz,stV,seval,iteOmega,toNatUp,reduceCtorEq]
   exact ret_f2 (by simp only[wx,wy,wz,stV,seval,iteOmega,toNatUp,reduceCtorEq]) (by simp only[wx,wy,wz,stV,seval,iteOmega,toNatUp,reduceCtorEq])
end Go.Proofs.Ytcikhnjfkfigjaa
namespace Go.Proofs.Ytcikhnjfkfigjaa
open Go.RowKit
end Go.Proofs.Ytcikhnjfkfigjaa
namespace Go.Proofs.Ytcikhnjfkfigjaa
open Go.RowKit
theorem padC_get (rk c:List UInt8) {n k:Nat} (hk:k<16):∀ {m:Nat},n<m→(padC rk c m)[16*n+k]?=(encK rk (ctrC c n))[k]?
  | 0,h=>by omega
  | m+1,h=>by
    rw[padC]
    by_cases e:n=m
    ·subst e
     rw[List.getElem?_append_right (by rw[padC_len]; omega),padC_len,Nat.add_sub_cancel_left]
    ·rw[List.getElem?_append_left (by rw[padC_len]; omega)]
     exact padC_get rk c hk (by omega)
theorem strm_get (rk c b:List UInt8) {n k:Nat} (hk:k<16) (h:16*n+k<b.length):(strmC rk c b)[16*n+k]?=some (xorB (b.getD (16*n+k) 0) ((encK rk (ctrC c n)).getD k 0)):=by
  unfold strmC xorL
  rw[List.getElem?_zipWith,padC_get rk c hk (by omega),get_lt h,get_lt (by rw[encK_len]; exact hk)]
def oT (rk c b:List UInt8) (j:Nat):List UInt8:=(strmC rk c b).take j
theorem oT_len (rk c b:List UInt8) (j:Nat):(oT rk c b j).length=min j b.length:=by unfold oT; rw[List.length_take,strmC_len]
theorem oT_full (rk c b:List UInt8) {j:Nat} (h:b.length≤j):oT rk c b j=strmC rk c b:=List.take_of_length_le (by rw[strmC_len]; exact h)
theorem oT_step (rk c b:List UInt8) {n k:Nat} (hk:k<16) (h:16*n+k<b.length):oT rk c b (16*n+k)++[xorB (b.getD (16*n+k) 0) ((encK rk (ctrC c n)).getD k 0)]=oT rk c b (16*n+k+1):=by
  unfold oT; rw[List.take_add_one,strm_get rk c b hk h]; rfl
theorem ctrC_16 {c:List UInt8} (h:c.length=16) (n:Nat):(ctrC c n).length=16:=by rw[ctrC_len]; exact h
theorem nexV_ctr {c:List UInt8} (h:c.length=16) (n:Nat):nexV (ctrC c n)=ctrC c (n+1):=by unfold nexV; rw[if_pos (ctrC_16 h n)]; rfl
def strmE (key c b:List UInt8):Int:=if key.length≠16 then 5 else if c.length≠16 then 3 else if 65535<b.length then 2 else 0
def strmV (key c b:List UInt8):List UInt8:=if key.length=16∧c.length=16∧b.length≤65535 then strmC (rkK key) c b else []
theorem strmE_key {key:List UInt8} (c b:List UInt8) (h:key.length≠16):strmE key c b=5:=if_pos h
theorem strmE_ctr {key c:List UInt8} (b:List UInt8) (h:key.length=16) (h2:c.length≠16):strmE key c b=3:=by unfold strmE; rw[if_neg (by simp[h]),if_pos h2]
theorem strmE_long {key c b:List UInt8} (h:key.length=16) (h2:c.length=16) (h3:65535<b.length):strmE key c b=2:=by unfold strmE; rw[if_neg (by simp[h]),if_neg (by simp[h2]),if_pos h3]
theorem strmE_ok {key c b:List UInt8} (h:key.length=16) (h2:c.length=16) (h3:b.length≤65535):strmE key c b=0:=by unfold strmE; rw[if_neg (by simp[h]),if_neg (by simp[h2]),if_neg (by omega)]
theorem strmV_ok {key c b:List UInt8} (h:key.length=16) (h2:c.length=16) (h3:b.length≤65535):strmV key c b=strmC (rkK key) c b:=if_pos ⟨h,h2,h3⟩
theorem strmV_no {key c b:List UInt8} (h:¬ (key.length=16∧c.length=16∧b.length≤65535)):strmV key c b=[]:=if_neg h
theorem oT0 (rk c b:List UInt8):oT rk c b 0=[]:=List.take_zero
end Go.Proofs.Ytcikhnjfkfigjaa
namespace Go.Proofs.Ytcikhnjfkfigjaa
open Go.RowKit IntWalk
def sf_cut:SFn:=⟨2,25,
 .seq (.reg [⟨some 4,.mv (.k (.c .nil)),none⟩,
 ⟨some 5,.mv (.k (.c .nil)),none⟩,
 ⟨some 6,.mv (.k (.c (.d (.bool false)))),none⟩])
 (.seq (.seq (.reg [⟨some 7,.mv (.t 1),none⟩,
 ⟨some 8,.bin .lss (.t 7) (.k (.c (.d (.int .i64 0)))),none⟩,
 ⟨some 9,.mv (.t 8),none⟩,
 ⟨some 10,.mv (.t 1),some (9,false)⟩,
 ⟨some 11,.mv (.t 0),some (9,false)⟩,
 ⟨some 12,.len (.t 11),some (9,false)⟩,
 ⟨some 13,.bin .gtr (.t 10) (.t 12),some (9,false)⟩,
 ⟨some 14,.pick (.t 9) (.k (.c (.d (.bool true)))) (.t 13),none⟩])
 (.cond (.t 14) (.seq (.reg [⟨some 4,.mv (.k (.c .nil)),none⟩,
 ⟨some 5,.mv (.k (.c .nil)),none⟩,
 ⟨some 6,.mv (.k (.c (.d (.bool false)))),none⟩])
 (.ret))
 (.skip)))
 (.seq (.reg [⟨some 15,.mv (.t 0),none⟩,
 ⟨some 16,.mv (.t 1),none⟩,
 ⟨some 17,.slice 1 (.t 15) none (some (.t 16)) none,none⟩,
 ⟨some 18,.bldSl false 1 1 (.sl []) [(0,(.t 17))],none⟩,
 ⟨some 19,.call 40 [(.t 18)] none,none⟩,
 ⟨some 20,.mv (.t 0),none⟩,
 ⟨some 21,.mv (.t 1),none⟩,
 ⟨some 22,.slice 1 (.t 20) (some (.t 21)) none none,none⟩,
 ⟨some 23,.bldSl false 1 1 (.sl []) [(0,(.t 22))],none⟩,
 ⟨some 24,.call 40 [(.t 23)] none,none⟩,
 ⟨some 4,.mv (.t 19),none⟩,
 ⟨some 5,.mv (.t 24),none⟩,
 ⟨some 6,.mv (.k (.c (.d (.bool true)))),none⟩])
 (.ret))),
 [(4,none),(5,none),(6,none)]⟩
theorem cf_cut:compFn Try.prog { own:=[],comp:=[],frz:=[],nils:=[] } Try.f62=some sf_cut:=by kernel_rfl
set_option maxHeartbeats 800000 in
theorem cut_in (G:Glob) (b:List UInt8) (n:Nat) (h:n≤b.length) (hb:b.length≤1099511627776):Den Try.prog G 62 [.sl (b.map bD),.int .i64 (n:Int)] (.tup [.c (.d (.sl ((b.take n).map bD))),.c (.d (.sl ((b.drop n).map bD))),.c (.d (.bool true))]):=by
  refine den_walk Try.func62 cf_cut rfl rfl ?_
  have c1:=join_c G [b.take n] (by simp) (by simp; omega)
  have c2:=join_c G [b.drop n] (by simp) (by simp; omega)
  simp only[List.map_cons,List.map_nil,List.flatten_cons,List.flatten_nil,List.append_nil] at c1 c2
  have et:(b.drop n).take (b.length-n)=b.drop n:=List.take_of_length_le (by simp)
  have g:((n:Int)>(b.length:Int))=False:=eq_false (by omega)
  simp only[sf_cut,putAll,wx,wy,wz,stV,seval,iteOmega,toNatUp,reduceCtorEq,g]
  refine st_call (c1) rfl (.inl rfl) ?_
  simp only[et,wx,wy,wz,stV,seval,iteOmega,toNatUp,reduceCtorEq]
  refine st_call (c2) rfl (.inl rfl) ?_
  simp only[et,wx,wy,wz,stV,seval,iteOmega,toNatUp,reduceCtorEq]
  exact ret_d3 (by simp only[wx,wy,wz,stV,seval,iteOmega,toNatUp,reduceCtorEq]) (by simp only[wx,wy,wz,stV,seval,iteOmega,toNatUp,reduceCtorEq]) (by simp only[wx,wy,wz,stV,seval,iteOmega,toNatUp,reduceCtorEq])
theorem cut_no (G:Glob) (b:List UInt8) (n:Int) (h:n<0∨(b.length:Int)<n):Den Try.prog G 62 [.sl (b.map bD),.int .i64 n] (.tup [.c (.d (.sl [])),.c (.d (.sl [])),.c (.d (.bool false))]):=by
  refine den_walk Try.func62 cf_cut rfl rfl ?_
  rcases Int.lt_or_le n 0 with h1 | h1
  ·simp only[sf_cut,putAll,wx,wy,wz,stV,seval,iteOmega,toNatUp,reduceCtorEq]
   exact ret_d3 (by simp only[wx,wy,wz,stV,seval,iteOmega,toNatUp,reduceCtorEq] <;> rfl) (by simp only[wx,wy,wz,stV,seval,iteOmega,toNatUp,reduceCtorEq] <;> rfl) (by simp only[wx,wy,wz,stV,seval,iteOmega,toNatUp,reduceCtorEq])
  ·have g:(n>(b.length:Int))=True:=eq_true (by omega)
   simp only[sf_cut,putAll,wx,wy,wz,stV,seval,iteOmega,toNatUp,reduceCtorEq,g]
   exact ret_d3 (by simp only[wx,wy,wz,stV,seval,iteOmega,toNatUp,reduceCtorEq] <;> rfl) (by simp only[wx,wy,wz,stV,seval,iteOmega,toNatUp,reduceCtorEq] <;> rfl) (by simp only[wx,wy,wz,stV,seval,iteOmega,toNatUp,reduceCtorEq])
end Go.Proofs.Ytcikhnjfkfigjaa
