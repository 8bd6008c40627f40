/- Texts of one's own, merged: from: Layer 4 on data: blocks,which is ranged over: by the kit's walk. Own work. -/
import Derived.RangeFuncBox
import Derived.RangeFuncLeaves
import Derived.Shelf.Abstract
import Derived.OwnWalkIn
import Derived.TacticsInMore
import Derived.LoopNIn
import Derived.LoopIn
import Derived.Test.YtbkhllchjbjhgaaDoorMg110
set_option linter.unusedVariables false
set_option linter.unusedSimpArgs false
namespace Go.Proofs.YtbkhllchjbjhgaaDoor
open Go.RowKit IntWalk
attribute [local go_sem] Oper.semAt_some
def blockL (b:List UInt8) (i:Nat):List UInt8:=(b.drop (16*i)).take 16
def blocksL (b:List UInt8):List (List UInt8):=(List.range ((b.length+15) / 16)).map (blockL b)
theorem blocksL_len (b:List UInt8):(blocksL b).length=(b.length+15) / 16:=by unfold blocksL; rw[List.length_map,List.length_range]
theorem blocksL_get {b:List UInt8} {i:Nat} (h:16*i<b.length):(blocksL b)[i]?=some (blockL b i):=by
  unfold blocksL; rw[List.getElem?_map,List.getElem?_range (by omega)]; rfl
def sf_blks:SFn:=⟨1,4,
 .seq (.reg [oO 1 (.box .roBox (.t 0)),
 oO 2 (.mv .u)])
 (.seq (.reg [oO 3 (.clos 78 [(.t 1)]),
 oM 2 3])
 (.ret)),
 [(2,none)]⟩
theorem cf_blks:compFn Tryd.prog { own:=[],comp:=[],frz:=[],nils:=[] } Tryd.f67=some sf_blks:=by kernel_rfl
theorem blks_c (G:Glob) (b:List UInt8):Den Tryd.prog G 67 [.sl (b.map bD)] (.w (.c (.d (.fn 78 [.ref [.sl (b.map bD)]])))):=by
  refine den_walk Tryd.func67 cf_blks rfl rfl ?_
  simp only[sf_blks,putAll,wal,stV,seval,iteOmega,toNatUp,reduceCtorEq]
  exact qd1
theorem roundW {n n':Nat} {P:Program} {l:Nat} {f:FuncId} {tmps:Array Value} {assign body:Code} {w:World} {R:Ending→World→Prop} (h:RoundIn Fence.wide n P l f tmps assign body w R):RoundIn Fence.wide n' P l f tmps assign body w R :=
  ⟨h.1,fun c cs _=>h.2 c cs (room_wide _)⟩
theorem reads_sub {S:Cells} {w:World} {vb vo:Nat} {b:List UInt8} (h:RowAt S w ⟨vb,vo,none⟩ 1 (b.map bD)) {i n c:Nat} (h1:i+n≤b.length) (hn:n≤c) (hc:c≤maxLen) :
    Reads S w (.slice (some ((⟨vb,vo,none⟩:Addr).add i)) n c) (.sl (((b.drop i).take n).map bD)):=by
  have hl:(((b.drop i).take n).map bD).length=n:=by rw[List.length_map,List.length_take,List.length_drop]; omega
  have hrow:RowAt S w ((⟨vb,vo,none⟩:Addr).add i) 1 (((b.drop i).take n).map bD):=by
    intro j hj
    have hj':j<n:=by omega
    have e:(((b.drop i).take n).map bD)[j]=(b.map bD)[i+j]'(by rw[List.length_map]; omega):=by simp
    rw[e]
    obtain⟨k1,k2⟩:=h (i+j) (by rw[List.length_map]; omega)
    refine⟨k1,?_⟩
    rw[add_none]
    have:vo+(i+j)*1=vo+i+j*1:=by omega
    simp only at k2 ⊢
    rw[this] at k2
    exact k2
  have:=Reads.of_row (cap:=c) hrow (by omega) hc
  rw[hl] at this
  exact this
theorem blki_seq (G:Glob) (b:List UInt8) (hb:b.length≤140737488355328):SeqD Tryd.prog G 78 [.ref [.sl (b.map bD)]] ((blocksL b).map fun l=>[D.sl (l.map bD)]):=by
  refine⟨enters_of Tryd.func78 (by kernel_rfl) rfl,?_⟩
  intro n w S lb hS hG hlb l J Jx hkeep hgrow hxgrow hround h0
  obtain⟨p,rfl,hp⟩:∃ p,lb=[p]∧Reads S w p (.ref [.sl (b.map bD)]):=by
    cases hlb with
    | cons h1 h2=>cases h2; exact⟨_,rfl,h1⟩
  obtain⟨ad,rfl,hcells⟩:=hp.cellsAt
  obtain⟨sv,hSad,hcell,hsv⟩:=hcells 0 (by simp)
  simp only[List.getElem_cons_zero,Nat.add_zero] at hSad hcell hsv
  refine callsIn_of_wp Tryd.func78 rfl trivial ?_
  simp only[Tryd.ntmps78,List.size_toArray,List.length_cons,List.length_nil,Nat.reduceAdd,Nat.reduceSub,Array.replicate_succ,Array.replicate_zero,List.push_toArray,List.append_toArray,List.nil_append,List.cons_append]
  obtain⟨ab,ao,asp⟩:=ad
  have hcellW:∀ k W,J k W→W.cell? ⟨ab,ao,asp⟩=some sv:=fun k W hj=>(hkeep k W hj).1.at hSad hcell
  have hcell0:=hcellW 0 w h0
  gi_wp2
  rcases hsv.row with ⟨rfl,hnil⟩ | ⟨av,cap,sz,rfl,hcap,hmax,hrow⟩
  ·gi_loopw [3] (fun i wr=>i=.int .i64 0∧J 0 wr) (fun i _=>0)
   case atStart=>exact⟨rfl,h0⟩
   case round =>
     obtain⟨rfl,hJs⟩:=hrel
     have hc:=hcellW 0 wr hJs
     gi_wp2
     go_end0
     have hb0:b=[]:=by simpa using hnil
     subst hb0
     exact⟨⟨_,rfl⟩,.inl hJs⟩
  ·have hlen:(b.map bD).length=b.length:=List.length_map _
   rw[hlen] at hcap hcellW hcell0
   obtain⟨vb,vo,vs⟩:=av
   gi_loopw [3] (fun i wr=>∃ k:Nat,16*k<b.length+16∧i=.int .i64 ((16*k:Nat):Int)∧J k wr) (fun i _=>b.length+16-(intOf i).toNat)
   case atStart=>exact⟨0,by omega,rfl,h0⟩
   case round =>
     obtain⟨k,hk,rfl,hJs⟩:=hrel
     have hc:=hcellW k wr hJs
     by_cases hlt:16*k<b.length
     ·have hb1:0<b.length:=by omega
      obtain⟨c1,c2⟩:=hrow 0 (by rw[hlen]; exact hb1)
      obtain rfl:sz=1:=by rw[← c1,List.getElem_map]; rfl
      have hvs:vs=none:=by
        obtain⟨v,_,c3,_⟩:=c2 0 (by rw[List.getElem_map]; exact Nat.one_pos)
        exact cell_spot c3
      subst hvs
      have hrowW:=hrow.keep (hkeep k wr hJs).1
      have hget:((blocksL b).map fun l=>[D.sl (l.map bD)])[k]?=some [D.sl ((blockL b k).map bD)]:=by
        rw[List.getElem?_map,blocksL_get hlt]; rfl
      by_cases hfull:16*k+16≤b.length
      ·obtain⟨fn,tmps,assign,body,hy,hR⟩:=hround k _ wr [.slice (some ⟨vb,vo+16*k,none⟩) 16 (cap-16*k)] hget hJs (by
         rw[← add_none]
         exact .cons (reads_sub hrowW (by omega) (by omega) (by omega)) .nil)
       have hy:(Instr.yield l #[.slice (some ⟨vb,vo+16*k,none⟩) 16 (cap-16*k)]).run Tryd.prog wr=.ok (.round l fn tmps assign body) wr:=hy
       gi_wp2
       refine⟨fun h=>(by cases h),(roundW hR).mono ?_⟩
       rintro e W3 (⟨rfl,hJ3⟩ | ⟨rfl,hJx3⟩)
       ·gi_wp2
        go_roundw
        case rel=>exact⟨k+1,by omega,by simp; omega,hJ3⟩
        case measure=>simp[intOf]; omega
       ·gi_wp2
        refine bodyPost_ret (results_none rfl _ _ _) rfl ?_
        exact⟨⟨_,rfl⟩,.inr hJx3⟩
      ·obtain⟨fn,tmps,assign,body,hy,hR⟩:=hround k _ wr [.slice (some ⟨vb,vo+16*k,none⟩) (b.length-16*k) (cap-16*k)] hget hJs (by
         have e:blockL b k=(b.drop (16*k)).take (b.length-16*k):=by
           unfold blockL
           rw[List.take_of_length_le (by rw[List.length_drop]; omega),List.take_of_length_le (by rw[List.length_drop]; omega)]
         rw[e,← add_none]
         exact .cons (reads_sub hrowW (by omega) (by omega) (by omega)) .nil)
       have hy:(Instr.yield l #[.slice (some ⟨vb,vo+16*k,none⟩) (b.length-16*k) (cap-16*k)]).run Tryd.prog wr=.ok (.round l fn tmps assign body) wr:=hy
       gi_wp2
       refine⟨fun h=>(by cases h),(roundW hR).mono ?_⟩
       rintro e W3 (⟨rfl,hJ3⟩ | ⟨rfl,hJx3⟩)
       ·gi_wp2
        go_roundw
        case rel=>exact⟨k+1,by omega,by simp; omega,hJ3⟩
        case measure=>simp[intOf]; omega
       ·gi_wp2
        refine bodyPost_ret (results_none rfl _ _ _) rfl ?_
        exact⟨⟨_,rfl⟩,.inr hJx3⟩
     ·gi_wp2
      go_end0
      have e:((blocksL b).map fun l=>[D.sl (l.map bD)]).length=k:=by
        rw[List.length_map,blocksL_len]; omega
      rw[e]
      exact⟨⟨_,rfl⟩,.inl hJs⟩
end Go.Proofs.YtbkhllchjbjhgaaDoor
namespace Go.Proofs.YtbkhllchjbjhgaaDoor
open Go.RowKit IntWalk
def stmL:List (Nat×V):=[(4,.w (.c (.ptr 1 1 0 0))),(8,.w (.c (.ptr 2 1 0 0))),(9,.w (.c (.ptr 3 1 0 0)))]
def stmF:Nat→V:=ofL stmL
def stmH (key c b:List UInt8) (k:Nat):Heap×(Nat→Bool):=(hL [(1,.box [.d (.sl ((ctrC c k).map bD))]),(2,.box ((rkK key).map bC)),(3,.box [.own 4 1 0 (oT (rkK key) c b (16*k)).length]),(4,.row 1 ((oT (rkK key) c b (16*k)).map bD))],uL [1,2,3,4])
def stmSt (key c b:List UInt8) (k i:Nat):St:=⟨ofL [(4,.w (.c (.ptr 1 1 0 0))),(8,.w (.c (.ptr 2 1 0 0))),(9,.w (.c (.ptr 3 1 0 0))),(11,.w (.c (.pa 5 1))),(34,.w (.c (.d (.sl ((blockL b k).map bD))))),(35,.w (.c (.d (.int .i64 ((blockL b k).length:Int))))),(36,.w (.c (.d (.int .i64 (i:Int)))))],
  hL [(1,.box [.d (.sl ((ctrC c k).map bD))]),(2,.box ((rkK key).map bC)),(3,.box [.own 4 1 0 (oT (rkK key) c b (16*k+i)).length]),(4,.row 1 ((oT (rkK key) c b (16*k+i)).map bD)),(5,.row 1 ((encK (rkK key) (ctrC c k)).map bD))],uL [1,2,3,4,5]⟩
theorem blockL_len {b:List UInt8} (k:Nat):(blockL b k).length=min 16 (b.length-16*k):=by unfold blockL; rw[List.length_take,List.length_drop]
theorem blockL_get {b:List UInt8} {k i:Nat} (hi:i<16) (h:16*k+i<b.length):(blockL b k)[i]?=some (b.getD (16*k+i) 0):=by
  unfold blockL; rw[List.getElem?_take,if_pos hi,List.getElem?_drop]; exact get_lt h
theorem ofL_un {l:List (Nat×V)} {ts:List Nat} (h:ts.all (fun t=>!(l.map (·.1)).contains t)=true):∀ t∈ts,ofL l t=.undef:=by
  intro t ht
  have h1:=List.all_eq_true.1 h t ht
  have h2:t∉l.map (·.1):=by simpa using h1
  clear h h1 ht
  induction l with
  | nil=>rfl
  | cons p l ih =>
    simp only[List.map_cons,List.mem_cons,not_or] at h2
    show upd (ofL l) p.1 p.2 t=_
    unfold upd
    rw[if_neg h2.1]
    exact ih h2.2
def lp_stm_0:SCode :=
 .seq (.reg [oO 37 (.bin .lss (.t 36) (.t 35))])
 (.seq (.cond (.t 37) (.skip)
 (.exit 2))
 (.seq (.block 3 (.seq (.reg [oM 38 36,
 oO 39 (.idxSl 1 (.t 34) (.t 36)),
 oO 40 (.load .sc (.t 39)),
 oM 12 38,
 oM 13 40])
 (.reg [oO 41 (.load .sc (.t 9)),
 oM 42 13,
 oM 43 12,
 oO 44 (.idxPa 1 16 (.t 11) (.t 43)),
 oO 45 (.load .sc (.t 44)),
 oO 46 (.bin .xor (.t 42) (.t 45)),
 oO 47 (.bldSl false 1 1 (.int .u8 0) [(0,(.t 46))]),
 oO 48 (.app false 1 1 (.t 41) (.t 47)),
 oN (.store .sc (.t 9) (.t 48))])))
 (.reg [oO 49 (.bin .add (.t 36) (kI 1)),
 oM 36 49])))
def lp_stm_1:SCode :=
 .reg [oM 10 30]
def lp_stm_2:SCode :=
 .block 1 (.seq (.reg [oO 31 (.load (.ag 176) (.t 8)),
 oO 32 (.load .sc (.t 4)),
 oO 33 (.call 68 [(.t 31),(.t 32)] none),
 oO 11 (.allocArr [(.int .u8 0),(.int .u8 0),(.int .u8 0),(.int .u8 0),(.int .u8 0),(.int .u8 0),(.int .u8 0),(.int .u8 0),(.int .u8 0),(.int .u8 0),(.int .u8 0),(.int .u8 0),(.int .u8 0),(.int .u8 0),(.int .u8 0),(.int .u8 0)]),
 oN (.store (.ag 16) (.t 11) (.t 33))])
 (.seq (.seq (.reg [oM 34 10,
 oO 35 (.len (.t 34)),
 oO 36 (.mv (kI 0))])
 (.block 2 (.loop lp_stm_0)))
 (.reg [oO 50 (.load .sc (.t 4)),
 oO 51 (.call 69 [(.t 50)] none),
 oN (.store .sc (.t 4) (.t 51))])))
def sf_stm:SFn:=⟨3,53,
 .seq (.reg [oO 4 (.box .ownBox (.t 1)),
 oO 6 (.mv (.k (.c .nil))),
 oO 7 (.mv (kI 0))])
 (.seq (.seq (.reg [oM 14 0,
 oO 15 (.len (.t 14)),
 oO 16 (.bin .neq (.t 15) (kI 16))])
 (.cond (.t 16) (.seq (.reg [oO 6 (.mv (.k (.c .nil))),
 oO 7 (.mv (kI 5))])
 (.ret))
 (.skip)))
 (.seq (.seq (.reg [oO 17 (.load .sc (.t 4)),
 oO 18 (.len (.t 17)),
 oO 19 (.bin .neq (.t 18) (kI 16))])
 (.cond (.t 19) (.seq (.reg [oO 6 (.mv (.k (.c .nil))),
 oO 7 (.mv (kI 3))])
 (.ret))
 (.skip)))
 (.seq (.seq (.reg [oM 20 2,
 oO 21 (.len (.t 20)),
 oO 22 (.bin .gtr (.t 21) (kI 65535))])
 (.cond (.t 22) (.seq (.reg [oO 6 (.mv (.k (.c .nil))),
 oO 7 (.mv (kI 2))])
 (.ret))
 (.skip)))
 (.seq (.reg [oM 23 0,
 oO 24 (.call 66 [(.t 23)] none),
 oO 8 (.alloc (repL 176 (.d (.int .u8 0)))),
 oN (.store (.ag 176) (.t 8) (.t 24))])
 (.seq (.reg [oM 25 2,
 oO 26 (.len (.t 25)),
 oO 27 (.make true 1 1 (.int .u8 0) (kI 0) (.t 26)),
 oO 9 (.alloc [.nil]),
 oN (.store .sc (.t 9) (.t 27))])
 (.seq (.seq (.reg [oM 28 2,
 oO 29 (.call 67 [(.t 28)] none)])
 (.block 0 (.rangeF (.t 29) [30] lp_stm_1 lp_stm_2)))
 (.seq (.reg [oO 52 (.load .sc (.t 9)),
 oM 6 52,
 oO 7 (.mv (kI 0))])
 (.ret)))))))),
 [(6,none),(7,none)]⟩
theorem cf_stm:compFn Tryd.prog { own:=[4],comp:=[],frz:=[],nils:=[] } Tryd.f58=some sf_stm:=by kernel_rfl
set_option maxRecDepth 20000 in
set_option maxHeartbeats 3200000 in
theorem stm_f (G:Glob) (key c b:List UInt8) (hk:key.length≤9223372036854775807) (hc:c.length≤9223372036854775807) (hb:b.length≤9223372036854775807):Den Tryd.prog G 58 [.sl (key.map bD),.sl (c.map bD),.sl (b.map bD)] (.tup [.c (.fr 1 ((strmV key c b).map bD)),.c (.d (.int .i64 (strmE key c b)))]):=by
  refine den_walk Tryd.func58 cf_stm rfl rfl ?_
  by_cases h:key.length=16
  ·by_cases h2:c.length=16
   ·by_cases h3:b.length≤65535
    ·have hrk:=rkK_len h
     have r4:List.drop 176 (repL 176 (0:UInt8))=[]:=List.drop_eq_nil_of_le (by rw[repL_len]; omega)
     rw[strmE_ok h h2 h3,strmV_ok h h2 h3]
     simp only[sf_stm,putAll,wal,stV,seval,iteOmega,toNatUp,reduceCtorEq,h,h2,repL_bC]
     refine sC (expd_c G key h) ?_
     simp only[len_map,hrk,repL_len,map_C,drop_map,app_map,r4,List.append_nil,wal,stV,seval,iteOmega,toNatUp,reduceCtorEq]
     refine sD (blks_c G b) ?_
     refine range_st stmF (f1:=ofL stmL) rfl (stmH key c b) rfl (blki_seq G b (by omega)) ?_ ?_ ?_ ?_ ?_
     ·intro r hr
      obtain⟨l,_,rfl⟩:=List.mem_map.1 hr
      rfl
     ·refine ent_l (fun i=>if i=1 then 32 else if i=2 then 64 else if i=3 then 72 else 216) ?_ ?_ rfl (by simp[stmL,V.ids,W.ids,C.ids,Ob.ids,ids_bC]) <;> simp only[stmL,wx,wex,wez,stV,seval,iteOmega,toNatUp,reduceCtorEq,ren_bC,ids_bC,Nat.mul_zero,oT0,List.length_nil,List.map_nil] <;> rfl
     ·exact ofL_un (by rfl)
     ·intro k r hr
      obtain⟨hk1,rfl⟩:16*k<b.length∧r=[D.sl ((blockL b k).map bD)]:=by
        rw[List.getElem?_map] at hr
        rcases Nat.lt_or_ge (16*k) b.length with hlt | hge
        ·rw[blocksL_get hlt] at hr
         exact⟨hlt,by simpa using hr.symm⟩
        ·rw[List.getElem?_eq_none (by rw[blocksL_len]; omega)] at hr
         cases hr
      have hel:=encK_len (rkK key) (ctrC c k)
      have t176:(rkK key).take 176=rkK key:=List.take_of_length_le (by omega)
      simp only[lp_stm_1,lp_stm_2,stmH,stmL,parsL,wal,stV,seval,iteOmega,toNatUp,reduceCtorEq,len_map,hrk,take_map,t176,allD_bs]
      refine sC (encd_c G (rkK key) (ctrC c k) hrk (ctrC_16 h2 k)) ?_
      simp only[hel,z16,repL_len,wal,stV,seval,iteOmega,toNatUp,reduceCtorEq]
      refine loop_st (stmSt key c b k) (fun i=>16-i) (fun i=>i≤16∧16*k+i≤b.length) 0 ⟨by omega,by omega⟩ ?_ ?_
      ·refine ent_l (fun i=>if i=5 then 88 else i) ?_ ?_ rfl (by simp[V.ids,W.ids,C.ids,Ob.ids,ids_bC]) <;> simp only[wx,wex,wez,stV,seval,iteOmega,toNatUp,reduceCtorEq,ren_bC,ids_bC,Nat.add_zero]
      ·rintro i ⟨hi16,hib⟩
       have hbl:=blockL_len (b:=b) k
       have hTk:=oT_len (rkK key) c b (16*k+i)
       have hTk1:=oT_len (rkK key) c b (16*k+i+1)
       by_cases hgo:i<16∧16*k+i<b.length
       ·obtain⟨hk2,hk3⟩:=hgo
        have g1:=blockL_get (b:=b) hk2 hk3
        have g2:(encK (rkK key) (ctrC c k))[i]?=some ((encK (rkK key) (ctrC c k)).getD i 0):=get_lt (by omega)
        have x1:=binV_xorB (b.getD (16*k+i) 0) ((encK (rkK key) (ctrC c k)).getD i 0)
        have ho:=oT_step (rkK key) c b hk2 hk3
        simp only[lp_stm_0,stmSt,wal,stV,seval,iteOmega,toNatUp,reduceCtorEq,get_map,g1,g2,x1,hel,srcV]
        refine lop_next (i+1) (by omega) ⟨by omega,by omega⟩ (ent_l (fun i=>if i=4 then 384 else i) ?_ ?_ rfl (by simp[V.ids,W.ids,C.ids,Ob.ids,ids_bC])) <;> simp only[wx,wex,wez,stV,seval,iteOmega,toNatUp,reduceCtorEq,ren_bC,ids_bC]
        refine⟨?_,?_⟩
        ·rw[show 16*k+(i+1)=16*k+i+1 from rfl,hTk,hTk1,show min (16*k+i) b.length+1=min (16*k+i+1) b.length by omega]
        ·rw[← Nat.add_assoc,← ho,List.map_append]; rfl
       ·have e:oT (rkK key) c b (16*k+i)=oT (rkK key) c b (16*(k+1)):=by
          by_cases h16:i=16
          ·rw[h16,show 16*k+16=16*(k+1) by omega]
          ·rw[oT_full _ _ _ (by omega),oT_full _ _ _ (by omega)]
        have hx:=nex_c G (ctrC c k) (by rw[ctrC_16 h2]; omega)
        rw[nexV_ctr h2] at hx
        have hnl:¬ i<(blockL b k).length:=by omega
        simp only[lp_stm_0,stmSt,e,wal,stV,seval,iteOmega,toNatUp,reduceCtorEq]
        refine sD (hx) ?_
        refine rng_next (f1:=ofL stmL) rfl ?_
        refine ent_l (fun i=>i) ?_ ?_ rfl (by simp[stmL,V.ids,W.ids,C.ids,Ob.ids,ids_bC]) <;> simp only[stmL,wx,wex,wez,stV,seval,iteOmega,toNatUp,reduceCtorEq,ren_bC,ids_bC]
     ·have e:oT (rkK key) c b (16*((blocksL b).map fun l=>[D.sl (l.map bD)]).length)=strmC (rkK key) c b:=oT_full _ _ _ (by rw[List.length_map,blocksL_len]; omega)
      have hl:=strmC_len (rkK key) c b
      have ht:(strmC (rkK key) c b).take b.length=strmC (rkK key) c b:=List.take_of_length_le (by omega)
      simp only[stmH,stmL,e,wal,stV,seval,iteOmega,toNatUp,reduceCtorEq,hl]
      have e:oT (rkK key) c b (16*(blocksL b).length)=strmC (rkK key) c b:=oT_full _ _ _ (by rw[blocksL_len]; omega)
      exact ret_f2 (by simp only[wal,stV,seval,iteOmega,toNatUp,reduceCtorEq,toFr,len_map,e,hl,take_map,ht]) (by simp only[wal,stV,seval,iteOmega,toNatUp,reduceCtorEq])
    ·rw[strmE_long h h2 (by omega),strmV_no (by omega)]
     simp only[sf_stm,putAll,wal,stV,seval,iteOmega,toNatUp,reduceCtorEq,h,h2]
     exact qf2
   ·rw[strmE_ctr b h h2,strmV_no (by omega)]
    simp only[sf_stm,putAll,wal,stV,seval,iteOmega,toNatUp,reduceCtorEq,h]
    exact qf2
  ·rw[strmE_key c b h,strmV_no (by omega)]
   simp only[sf_stm,putAll,wal,stV,seval,iteOmega,toNatUp,reduceCtorEq]
   exact qf2
end Go.Proofs.YtbkhllchjbjhgaaDoor
