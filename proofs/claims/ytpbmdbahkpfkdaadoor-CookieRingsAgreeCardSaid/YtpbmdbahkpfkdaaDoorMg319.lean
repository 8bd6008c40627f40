/- Texts of one's own, merged: from: Layer 19 on data: the reference: Start,Rotate,Make,Open; pairs and rings that laws draw. Own work. -/
import Derived.Test.YtpbmdbahkpfkdaaDoorMg317
import Derived.Test.YtpbmdbahkpfkdaaDoorMg310
import Derived.Test.YtpbmdbahkpfkdaaDoorMg318
import Derived.Test.YtpbmdbahkpfkdaaDoorMg37
import Derived.Shelf.Abstract
import Derived.Test.YtpbmdbahkpfkdaaDoorMg314
import Derived.Test.YtpbmdbahkpfkdaaDoorMg39
set_option linter.unusedVariables false
set_option linter.unusedSimpArgs false
namespace Go.Proofs.YtpbmdbahkpfkdaaDoor
open Go.RowKit IntWalk
set_option maxHeartbeats 3200000
theorem expL_32 (key info:List UInt8):expL key info 32=expK key info 32∧expE 32=0:=⟨expL_in key info (by decide),expE_in (by decide)⟩
def sf_rsta:SFn:=⟨2,31,
 .seq (.reg [oO 4 (.alloc [.nil]),
 oO 5 (.mv (kI 0))])
 (.seq (.seq (.reg [oM 8 0,
 oO 9 (.bin .lss (.t 8) (kI 0)),
 oM 10 9,
 oG 11 (.mv (.t 0)) 10 false,
 oG 12 (.bin .gtr (.t 11) (kI 4294967295)) 10 false,
 oO 13 (.pick (.t 10) (.k (.c (.d (.bool true)))) (.t 12))])
 (.cond (.t 13) (.seq (.reg [oO 14 (.build [.nil] []),
 oN (.store (.ag 1) (.t 4) (.t 14)),
 oO 5 (.mv (kI 4))])
 (.ret))
 (.skip)))
 (.seq (.seq (.reg [oM 15 1,
 oO 16 (.len (.t 15)),
 oO 17 (.bin .neq (.t 16) (kI 32))])
 (.cond (.t 17) (.seq (.reg [oO 18 (.build [.nil] []),
 oN (.store (.ag 1) (.t 4) (.t 18)),
 oO 5 (.mv (kI 5))])
 (.ret))
 (.skip)))
 (.seq (.reg [oM 20 1,
 oO 21 (.bldSl true 13 1 (.int .u8 0) [(0,(.k (.c (.d (.int .u8 115))))),(1,(.k (.c (.d (.int .u8 101))))),(2,(.k (.c (.d (.int .u8 99))))),(3,(.k (.c (.d (.int .u8 116))))),(4,(.k (.c (.d (.int .u8 105))))),(5,(.k (.c (.d (.int .u8 109))))),(6,(.k (.c (.d (.int .u8 101))))),(7,(.k (.c (.d (.int .u8 32))))),(8,(.k (.c (.d (.int .u8 115))))),(9,(.k (.c (.d (.int .u8 116))))),(10,(.k (.c (.d (.int .u8 97))))),(11,(.k (.c (.d (.int .u8 114))))),(12,(.k (.c (.d (.int .u8 116)))))]),
 oO 22 (.markF (.t 21)),
 oO 23 (.call 36 [(.t 20),(.t 22),(kI 32)] none),
 oM 19 23,
 oO 24 (.extract (.t 19) 0),
 oO 25 (.extract (.t 19) 1),
 oM 6 24,
 oM 7 25])
 (.seq (.reg [oM 26 0,
 oM 27 6,
 oO 28 (.build [(.d (.int .i64 0)),.nil] [(0,1,(.t 26)),(1,1,(.t 27))]),
 oO 29 (.bldSl false 1 2 (.agg [(.int .i64 0),(.sl [])]) [(0,(.t 28))]),
 oO 30 (.build [.nil] [(0,1,(.t 29))]),
 oN (.store (.ag 1) (.t 4) (.t 30)),
 oO 5 (.mv (kI 0))])
 (.ret))))),
 [(4,(some (.ag 1))),(5,none)]⟩
theorem cf_rsta:compFn Tryd.prog { own:=[21],comp:=[],frz:=[22],nils:=[] } Tryd.f21=some sf_rsta:=by kernel_rfl
theorem rsta_c (G:Glob) (id:Int) (seed:List UInt8) (hs:seed.length≤9223372036854775807):Den Tryd.prog G 21 [.int .i64 id,.sl (seed.map bD)] (.tup [.c (.d (rgD (sgtL id seed))),.c (.d (.int .i64 (sgtE id seed)))]):=by
  refine den_walk Tryd.func21 cf_rsta rfl rfl ?_
  rcases Int.lt_or_le id 0 with h1 | h1
  ·have e:sgtE id seed=4:=if_pos (.inl h1)
   have e2:sgtL id seed=[]:=if_neg (by rw[e]; decide)
   rw[e,e2]
   unfold rgD
   simp only[sf_rsta,putAll,wal,stV,seval,iteOmega,toNatUp,reduceCtorEq]
   exact ret_d2 (by simp only[wal,stV,seval,iteOmega,toNatUp,reduceCtorEq] <;> rfl) (by simp only[wal,stV,seval,iteOmega,toNatUp,reduceCtorEq])
  ·rcases Int.lt_or_le 4294967295 id with h2 | h2
   ·have e:sgtE id seed=4:=if_pos (.inr h2)
    have e2:sgtL id seed=[]:=if_neg (by rw[e]; decide)
    have g:(id>4294967295)=True:=eq_true h2
    rw[e,e2]
    unfold rgD
    simp only[sf_rsta,putAll,wal,stV,seval,iteOmega,toNatUp,reduceCtorEq,g]
    exact ret_d2 (by simp only[wal,stV,seval,iteOmega,toNatUp,reduceCtorEq] <;> rfl) (by simp only[wal,stV,seval,iteOmega,toNatUp,reduceCtorEq])
   ·have g:(id>4294967295)=False:=eq_false (by omega)
    by_cases h3:seed.length=32
    ·have e:sgtE id seed=0:=by unfold sgtE; rw[if_neg (by omega),if_neg (by omega)]
     have e2:sgtL id seed=[⟨id,keyS seed⟩]:=if_pos e
     rw[e,e2]
     have c:=rexp_c G seed strStart (by omega) (by decide) 32 (by decide) (by decide)
     rw[(expL_32 seed strStart).1,(expL_32 seed strStart).2,show expK seed strStart 32=keyS seed from rfl] at c
     generalize keyS seed=K at *
     unfold rgD
     simp only[sf_rsta,putAll,wal,stV,seval,iteOmega,toNatUp,reduceCtorEq,g,h3]
     refine st_call c (by simp only[wal,stV,seval,iteOmega,toNatUp,reduceCtorEq] <;> rfl) (.inl rfl) ?_
     simp only[wal,stV,seval,iteOmega,toNatUp,reduceCtorEq]
     exact ret_d2 (by simp only[wal,stV,seval,iteOmega,toNatUp,reduceCtorEq] <;> rfl) (by simp only[wal,stV,seval,iteOmega,toNatUp,reduceCtorEq])
    ·have e:sgtE id seed=5:=by unfold sgtE; rw[if_neg (by omega),if_pos h3]
     have e2:sgtL id seed=[]:=if_neg (by rw[e]; decide)
     rw[e,e2]
     unfold rgD
     simp only[sf_rsta,putAll,wal,stV,seval,iteOmega,toNatUp,reduceCtorEq,g]
     exact ret_d2 (by simp only[wal,stV,seval,iteOmega,toNatUp,reduceCtorEq] <;> rfl) (by simp only[wal,stV,seval,iteOmega,toNatUp,reduceCtorEq])
theorem roE_no {l:List Fd} (h:¬ rgR l):roE l=3∧roL l=[]:=by
  have e:roE l=3:=if_neg h
  exact⟨e,if_neg (by rw[e]; decide)⟩
theorem roE_cl {l:List Fd} (h:rgR l) {i:Nat} (hi:i<l.length) (h3:i<3) (e:(l.getD i default).ty=nxI l):roE l=7∧roL l=[]:=by
  have hc:clash l=true:=by
    unfold clash
    rw[List.any_eq_true]
    refine⟨l.getD i default,?_,decide_eq_true e⟩
    rw[List.getD_eq_getElem?_getD,List.getElem?_eq_getElem hi]
    exact List.mem_take_iff_getElem.2 ⟨i,by omega,rfl⟩
  have e7:roE l=7:=by unfold roE; rw[if_pos h,if_pos hc]
  exact⟨e7,if_neg (by rw[e7]; decide)⟩
theorem roE_ok {l:List Fd} (h:rgR l) {i:Nat} (hi:i≤l.length) (hend:l.length≤i∨3≤i) (hd:∀ j,j<i→(l.getD j default).ty≠nxI l) (h3:i≤3):roE l=0∧roL l=nxF l::l.take i:=by
  have ht:l.take 3=l.take i:=by
    rcases hend with h | h
    ·rw[List.take_of_length_le h,List.take_of_length_le (by omega)]
    ·rw[show i=3 by omega]
  have hc:clash l=false:=by
    unfold clash
    rw[ht,List.any_eq_false]
    intro f hf
    obtain⟨j,hj,rfl⟩:=List.mem_take_iff_getElem.1 hf
    have:=hd j (by omega)
    rw[List.getD_eq_getElem?_getD,List.getElem?_eq_getElem (by omega)] at this
    simpa using this
  have e:roE l=0:=by unfold roE; rw[if_pos h,if_neg (by rw[hc]; decide)]
  refine⟨e,?_⟩
  unfold roL
  rw[if_pos e,ht]
def rroO (l:List Fd) (i:Nat):List Fd:=nxF l::l.take i
theorem rroO_s {l:List Fd} {i:Nat} (h:i<l.length):rroO l (i+1)=rroO l i++[l.getD i default]:=by
  unfold rroO
  rw[take_snoc h]; rfl
def rroSt (l:List Fd) (i:Nat):St:=⟨ofL [(1,.w (.c (.rp [.sl (l.map fdD)]))),(2,.w (.c (.ptr 3 1 0 0))),(6,.w (.c (.ptr 1 1 0 0))),(7,.w (.c (.d (.int .i64 (i:Int)))))],hL [(1,.box [.own 2 2 0 (rroO l i).length]),(2,.row 2 ((rroO l i).map fdD)),(3,.box [.nil])],uL [1,2,3]⟩
def lp_rrot_0:SCode :=
 .seq (.seq (.reg [oM 34 7,
 oO 35 (.fieldAddr 0 (.t 1)),
 oO 36 (.load .sc (.t 35)),
 oO 37 (.len (.t 36)),
 oO 38 (.bin .lss (.t 34) (.t 37)),
 oM 39 38,
 oG 40 (.mv (.t 7)) 39 true,
 oG 41 (.bin .lss (.t 40) (kI 3)) 39 true,
 oO 42 (.pick (.t 39) (.t 41) (.k (.c (.d (.bool false)))))])
 (.cond (.t 42) (.skip)
 (.exit 0)))
 (.seq (.block 1 (.seq (.seq (.reg [oO 45 (.fieldAddr 0 (.t 1)),
 oO 46 (.load .sc (.t 45)),
 oM 47 7,
 oO 48 (.idxSl 2 (.t 46) (.t 47)),
 oO 49 (.fieldAddr 0 (.t 48)),
 oO 50 (.load .sc (.t 49)),
 oO 51 (.fieldAddr 0 (.t 6)),
 oO 52 (.load .sc (.t 51)),
 oO 53 (.idxSl 2 (.t 52) (kI 0)),
 oO 54 (.fieldAddr 0 (.t 53)),
 oO 55 (.load .sc (.t 54)),
 oO 56 (.bin .eql (.t 50) (.t 55))])
 (.cond (.t 56) (.seq (.reg [oO 57 (.build [.nil] []),
 oN (.store (.ag 1) (.t 2) (.t 57)),
 oO 3 (.mv (kI 7))])
 (.ret))
 (.skip)))
 (.reg [oO 58 (.fieldAddr 0 (.t 6)),
 oO 59 (.load .sc (.t 58)),
 oO 60 (.fieldAddr 0 (.t 1)),
 oO 61 (.load .sc (.t 60)),
 oM 62 7,
 oO 63 (.idxSl 2 (.t 61) (.t 62)),
 oO 64 (.fieldAddr 0 (.t 63)),
 oO 65 (.load .sc (.t 64)),
 oO 66 (.fieldAddr 0 (.t 1)),
 oO 67 (.load .sc (.t 66)),
 oM 68 7,
 oO 69 (.idxSl 2 (.t 67) (.t 68)),
 oO 70 (.fieldAddr 1 (.t 69)),
 oO 71 (.load .sc (.t 70)),
 oO 72 (.bldSl false 1 1 (.sl []) [(0,(.t 71))]),
 oO 73 (.call 27 [(.t 72)] none),
 oO 74 (.build [(.d (.int .i64 0)),.nil] [(0,1,(.t 65)),(1,1,(.t 73))]),
 oO 75 (.bldSl false 1 2 (.agg [(.int .i64 0),(.sl [])]) [(0,(.t 74))]),
 oO 76 (.app false 2 32 (.t 59) (.t 75)),
 oO 77 (.fieldAddr 0 (.t 6)),
 oN (.store .sc (.t 77) (.t 76))])))
 (.reg [oM 43 7,
 oO 44 (.bin .add (.t 43) (kI 1)),
 oM 7 44]))
def sf_rrot:SFn:=⟨1,79,
 .seq (.reg [oO 1 (.box .roBox (.t 0)),
 oO 2 (.alloc [.nil]),
 oO 3 (.mv (kI 0))])
 (.seq (.seq (.reg [oO 8 (.load (.ag 1) (.t 1)),
 oO 9 (.call 37 [(.t 8)] none),
 oO 10 (.un .not (.t 9))])
 (.cond (.t 10) (.seq (.reg [oO 11 (.build [.nil] []),
 oN (.store (.ag 1) (.t 2) (.t 11)),
 oO 3 (.mv (kI 3))])
 (.ret))
 (.skip)))
 (.seq (.reg [oO 13 (.fieldAddr 0 (.t 1)),
 oO 14 (.load .sc (.t 13)),
 oO 15 (.idxSl 2 (.t 14) (kI 0)),
 oO 16 (.fieldAddr 1 (.t 15)),
 oO 17 (.load .sc (.t 16)),
 oO 18 (.bldSl true 12 1 (.int .u8 0) [(0,(.k (.c (.d (.int .u8 115))))),(1,(.k (.c (.d (.int .u8 101))))),(2,(.k (.c (.d (.int .u8 99))))),(3,(.k (.c (.d (.int .u8 116))))),(4,(.k (.c (.d (.int .u8 105))))),(5,(.k (.c (.d (.int .u8 109))))),(6,(.k (.c (.d (.int .u8 101))))),(7,(.k (.c (.d (.int .u8 32))))),(8,(.k (.c (.d (.int .u8 110))))),(9,(.k (.c (.d (.int .u8 101))))),(10,(.k (.c (.d (.int .u8 120))))),(11,(.k (.c (.d (.int .u8 116)))))]),
 oO 19 (.markF (.t 18)),
 oO 20 (.call 36 [(.t 17),(.t 19),(kI 32)] none),
 oM 12 20,
 oO 21 (.extract (.t 12) 0),
 oO 22 (.extract (.t 12) 1),
 oM 4 21,
 oM 5 22])
 (.seq (.reg [oO 23 (.fieldAddr 0 (.t 1)),
 oO 24 (.load .sc (.t 23)),
 oO 25 (.idxSl 2 (.t 24) (kI 0)),
 oO 26 (.fieldAddr 0 (.t 25)),
 oO 27 (.load .sc (.t 26)),
 oO 28 (.bin .add (.t 27) (kI 1)),
 oO 29 (.bin .and (.t 28) (kI 4294967295)),
 oM 30 4,
 oO 31 (.build [(.d (.int .i64 0)),.nil] [(0,1,(.t 29)),(1,1,(.t 30))]),
 oO 32 (.bldSl true 1 2 (.agg [(.int .i64 0),(.sl [])]) [(0,(.t 31))]),
 oO 33 (.build [.nil] [(0,1,(.t 32))]),
 oO 6 (.alloc [.nil]),
 oN (.store (.ag 1) (.t 6) (.t 33))])
 (.seq (.seq (.reg [oO 7 (.mv (kI 0))])
 (.block 0 (.loop lp_rrot_0)))
 (.seq (.reg [oO 78 (.load (.ag 1) (.t 6)),
 oN (.store (.ag 1) (.t 2) (.t 78)),
 oO 3 (.mv (kI 0))])
 (.ret)))))),
 [(2,(some (.ag 1))),(3,none)]⟩
theorem cf_rrot:compFn Tryd.prog { own:=[18,32],comp:=[],frz:=[19],nils:=[] } Tryd.f22=some sf_rrot:=by kernel_rfl
theorem rrot_c (G:Glob) (l:List Fd) (hl:l.length≤9223372036854775807):Den Tryd.prog G 22 [rgD l] (.tup [.c (.d (rgD (roL l))),.c (.d (.int .i64 (roE l)))]):=by
  refine den_walk Tryd.func22 cf_rrot rfl rfl ?_
  have c1:=rvld_c G l hl
  by_cases hr:rgR l
  ·rw[decide_eq_true hr] at c1
   have r1:=hr.1
   have r2:=hr.2.1
   have g0:=getF (l:=l) (i:=0) (by omega)
   obtain⟨⟨m1,m2,m3⟩,_⟩:=rgR_at hr (i:=0) (by omega)
   have c2:=rexp_c G (l.getD 0 default).da strNext (by omega) (by decide) 32 (by decide) (by decide)
   rw[(expL_32 _ strNext).1,(expL_32 [] []).2,show expK (l.getD 0 default).da strNext 32=keyX (l.getD 0 default).da from rfl] at c2
   have ha:=i64_and32 ((l.getD 0 default).ty+1)
   rw[show ((l.getD 0 default).ty+1)%4294967296=nxI l from rfl] at ha
   have hO0:rroO l 0=[⟨nxI l,keyX (l.getD 0 default).da⟩]:=rfl
   have hOh:∀ i,(rroO l i).map fdD=.agg [.int .i64 (nxI l),.sl ((keyX (l.getD 0 default).da).map bD)]::(l.take i).map fdD:=fun i=>rfl
   unfold rgD at *
   generalize hk0:l.getD 0 default=k0 at *
   simp only[sf_rrot,putAll,wal,stV,seval,iteOmega,toNatUp,reduceCtorEq]
   refine sC (c1) ?_
   simp only[get_map,g0,fdD,ha,wal,stV,seval,iteOmega,toNatUp,reduceCtorEq]
   refine sC c2 ?_
   simp only[get_map,g0,fdD,ha,wal,stV,seval,iteOmega,toNatUp,reduceCtorEq]
   refine loop_st (rroSt l) (fun i=>4-i) (fun i=>i≤l.length∧i≤3∧∀ j,j<i→(l.getD j default).ty≠nxI l) 0 ⟨Nat.zero_le _,Nat.zero_le _,fun j hj=>by omega⟩ ?_ ?_
   ·refine ent_l (fun i=>if i=1 then 48 else if i=2 then 256 else 16) ?_ ?_ rfl rfl <;> simp only[wx,wex,wez,stV,seval,iteOmega,toNatUp,reduceCtorEq,hO0] <;> first | exact⟨rfl,rfl⟩ | rfl | skip
   ·rintro i ⟨hi,hi3,hd⟩
    clear c1 c2
    have hOl:(rroO l i).length=i+1:=by simp[rroO]; omega
    have az:=allSz_fd (rroO l i)
    have hhd:(rroO l i)[0]?=some (nxF l):=rfl
    have hty:(nxF l).ty=nxI l:=rfl
    have est:rroSt l i=⟨ofL [(1,.w (.c (.rp [.sl (l.map fdD)]))),(2,.w (.c (.ptr 3 1 0 0))),(6,.w (.c (.ptr 1 1 0 0))),(7,.w (.c (.d (.int .i64 (i:Int)))))],hL [(1,.box [.own 2 2 0 (rroO l i).length]),(2,.row 2 ((rroO l i).map fdD)),(3,.box [.nil])],uL [1,2,3]⟩:=rfl
    by_cases hlt:i<l.length
    ·by_cases h3:i<3
     ·have g:=getF hlt
      have hs:=rroO_s hlt
      obtain⟨⟨_,_,x3⟩,_⟩:=rgR_at hr hlt
      have cj:=rjoin_c G [(l.getD i default).da] (by simp) (by rw[List.flatten_cons,List.flatten_nil,List.append_nil,x3]; decide)
      simp only[List.map_cons,List.map_nil,List.flatten_cons,List.flatten_nil,List.append_nil] at cj
      by_cases he:(l.getD i default).ty=nxI l
      ·obtain⟨e1,e2⟩:=roE_cl hr hlt h3 he
       have ge:((l.getD i default).ty=nxI l)=True:=eq_true he
       rw[e1,e2,est]
       clear hd hs hOh hO0 est
       generalize rroO l i=O at *
       generalize l.getD i default=x at *
       generalize nxF l=nf at *
       generalize nxI l=ni at *
       simp only[lp_rrot_0,wal,stV,seval,iteOmega,toNatUp,reduceCtorEq,get_map,g,hhd,fdD,hty,ge]
       exact ret_d2 (by simp only[wal,stV,seval,iteOmega,toNatUp,reduceCtorEq] <;> rfl) (by simp only[wal,stV,seval,iteOmega,toNatUp,reduceCtorEq])
      ·have ge:((l.getD i default).ty=nxI l)=False:=eq_false he
       have hd':∀ j,j<i+1→(l.getD j default).ty≠nxI l:=fun j hj=>by
         rcases Nat.lt_or_ge j i with h | h
         ·exact hd j h
         ·obtain rfl:j=i:=by omega
          exact he
       rw[est]
       clear hd hOh hO0 est
       generalize hO:rroO l i=O at *
       generalize l.getD i default=x at *
       generalize hnf:nxF l=nf at *
       generalize hni:nxI l=ni at *
       simp only[lp_rrot_0,wal,stV,seval,iteOmega,toNatUp,reduceCtorEq,get_map,g,hhd,fdD,hty,ge]
       refine sC (cj) ?_
       simp only[srcV,fdD_cells,fdD,wal,stV,seval,iteOmega,toNatUp,reduceCtorEq]
       refine lop_next (i+1) (by omega) ⟨by omega,by omega,hd'⟩ (ent_l (fun i=>if i=1 then 1 else if i=2 then 608 else 3) ?_ ?_ rfl rfl) <;> simp only[hs,List.map_append,fdD,wx,wex,wez,stV,seval,iteOmega,toNatUp,reduceCtorEq]
     ·obtain⟨e1,e2⟩:=roE_ok hr hi (.inr (by omega)) hd hi3
      have e2:roL l=rroO l i:=e2
      have g3:((i:Int)<3)=False:=eq_false (by omega)
      rw[e1,e2,est]
      clear hd hOh hO0 est
      generalize rroO l i=O at *
      simp only[lp_rrot_0,wal,stV,seval,iteOmega,toNatUp,reduceCtorEq,g3]
      exact ret_d2 (by simp only[wal,stV,seval,iteOmega,toNatUp,reduceCtorEq] <;> rfl) (by simp only[wal,stV,seval,iteOmega,toNatUp,reduceCtorEq])
    ·obtain⟨e1,e2⟩:=roE_ok hr hi (.inl (by omega)) hd hi3
     have e2:roL l=rroO l i:=e2
     rw[e1,e2,est]
     clear hd hOh hO0 est
     generalize rroO l i=O at *
     simp only[lp_rrot_0,wal,stV,seval,iteOmega,toNatUp,reduceCtorEq]
     exact ret_d2 (by simp only[wal,stV,seval,iteOmega,toNatUp,reduceCtorEq] <;> rfl) (by simp only[wal,stV,seval,iteOmega,toNatUp,reduceCtorEq])
  ·rw[decide_eq_false hr] at c1
   obtain⟨e1,e2⟩:=roE_no hr
   rw[e1,e2]
   unfold rgD at *
   simp only[sf_rrot,putAll,wal,stV,seval,iteOmega,toNatUp,reduceCtorEq]
   refine sD (c1) ?_
   exact ret_d2 (by simp only[wal,stV,seval,iteOmega,toNatUp,reduceCtorEq] <;> rfl) (by simp only[wal,stV,seval,iteOmega,toNatUp,reduceCtorEq])
end Go.Proofs.YtpbmdbahkpfkdaaDoor
namespace Go.Proofs.YtpbmdbahkpfkdaaDoor
open Go.RowKit
def prD (a b:List UInt8):D:=.agg [.sl (a.map bD),.sl (b.map bD)]
theorem ck_flat (m:Fd) (algo:Int) (up dn nonce:List UInt8):[ckI m,nonce,sealV m.da [ckI m,nonce] (ckP algo up dn)].flatten=ckB m algo up dn nonce:=by
  unfold ckB
  simp only[List.flatten_cons,List.flatten_nil,List.append_nil]
theorem ckP_flat (algo:Int) (up dn:List UInt8):[putL algo.toNat 2,[0,0],up,dn].flatten=ckP algo up dn:=by
  unfold ckP
  simp only[List.flatten_cons,List.flatten_nil,List.append_nil]
theorem mkE_no {l:List Fd} {algo:Int} {up dn nonce:List UInt8} {e:Int} (h:mkE l algo up dn nonce=e) (he:e≠0):mkB l algo up dn nonce=[]:=if_neg (by rw[h]; exact he)
theorem ret_4 {σ:St} {p q r s:Nat×Option Kd} {x y z t:D} (h1:(resW σ p).bind (toW σ.h)=some x) (h2:(resW σ q).bind (toW σ.h)=some y) (h3:(resW σ r).bind (toW σ.h)=some z) (h4:(resW σ s).bind (toW σ.h)=some t):RetOk σ [p,q,r,s] (.tup [.c (.d x),.c (.d y),.c (.d z),.c (.d t)]):=by
  obtain⟨w1,e1,f1⟩:=Option.bind_eq_some_iff.1 h1
  obtain⟨w2,e2,f2⟩:=Option.bind_eq_some_iff.1 h2
  obtain⟨w3,e3,f3⟩:=Option.bind_eq_some_iff.1 h3
  obtain⟨w4,e4,f4⟩:=Option.bind_eq_some_iff.1 h4
  exact⟨[w1,w2,w3,w4],by simp[allSome,e1,e2,e3,e4],.inr (.cons ⟨_,rfl,f1⟩ (.cons ⟨_,rfl,f2⟩ (.cons ⟨_,rfl,f3⟩ (.cons ⟨_,rfl,f4⟩ .nil))))⟩
theorem ckW_hit {l:List Fd} {id:Int} {i:Nat} (h:i<l.length) (e:(l.getD i default).ty=id) (hn:∀ j,j<i→(l.getD j default).ty≠id):ckW l id=some i:=by
  unfold ckW
  rw[List.findIdx?_eq_some_iff_getElem]
  have eg:∀ k (hk:k<l.length),l[k]=l.getD k default:=fun k hk=>by rw[List.getD_eq_getElem?_getD,List.getElem?_eq_getElem hk]; rfl
  refine⟨h,by rw[eg i h]; exact decide_eq_true e,fun j hj=>?_⟩
  rw[eg j (by omega),decide_eq_false (hn j hj)]
  decide
theorem ckW_miss {l:List Fd} {id:Int} (hn:∀ j,j<l.length→(l.getD j default).ty≠id):ckW l id=none:=by
  unfold ckW
  rw[List.findIdx?_eq_none_iff]
  intro x hx
  obtain⟨j,hj,rfl⟩:=List.getElem_of_mem hx
  have:=hn j hj
  rw[List.getD_eq_getElem?_getD,List.getElem?_eq_getElem hj] at this
  exact decide_eq_false this
theorem coE_no {l:List Fd} {c:List UInt8} {e:Int} (h:coE l c=e) (he:e≠0):coR l c=⟨0,[],[],0⟩:=if_neg (by rw[h]; exact he)
theorem coE_hit {l:List Fd} {c:List UInt8} {i:Nat} (h:rgR l) (hc:c.length=104) (w:ckW l (ciN c)=some i):coE l c=if coOk (l.getD i default) c then 0 else 6:=by
  unfold coE
  rw[if_pos h,if_neg (by omega),w]
end Go.Proofs.YtpbmdbahkpfkdaaDoor
namespace Go.Proofs.YtpbmdbahkpfkdaaDoor
open Go.RowKit IntWalk
set_option maxHeartbeats 1600000
def wpU (s:Int):List UInt8:=(bytesK s 64).take 32
def wpV (s:Int):List UInt8:=(bytesK s 64).drop 32
theorem wpU_len (s:Int):(wpU s).length=32:=by
  have:(bytesK s 64).length=64:=bytesK_len _ _
  unfold wpU; rw[List.length_take]; omega
theorem wpV_len (s:Int):(wpV s).length=32:=by
  have:(bytesK s 64).length=64:=bytesK_len _ _
  unfold wpV; rw[List.length_drop]; omega
def sf_wpr:SFn:=⟨1,11,
 .seq (.reg [oO 2 (.alloc [.nil,.nil])])
 (.seq (.reg [oM 4 0,
 oO 5 (.call 10 [(.t 4),(kI 64)] none),
 oM 3 5])
 (.seq (.reg [oM 6 3,
 oO 7 (.slice 1 (.t 6) none (some (kI 32)) none),
 oM 8 3,
 oO 9 (.slice 1 (.t 8) (some (kI 32)) none none),
 oO 10 (.build [.nil,.nil] [(0,1,(.t 7)),(1,1,(.t 9))]),
 oN (.store (.ag 2) (.t 2) (.t 10))])
 (.ret))),
 [(2,(some (.ag 2)))]⟩
theorem cf_wpr:compFn Tryd.prog { own:=[],comp:=[],frz:=[],nils:=[] } Tryd.f8=some sf_wpr:=by kernel_rfl
theorem wpr_c (G:Glob) (s:Int):Den Tryd.prog G 8 [.int .i64 s] (.w (.c (.d (prD (wpU s) (wpV s))))):=by
  refine den_walk Tryd.func8 cf_wpr rfl rfl ?_
  have c1:=wbytes_c G s 64 (by decide)
  have hl:(bytesK s 64).length=64:=bytesK_len _ _
  unfold prD wpU wpV
  have t1:((bytesK s 64).drop 32).take 32=(bytesK s 64).drop 32:=List.take_of_length_le (by simp; omega)
  generalize bytesK s 64=B at *
  simp only[sf_wpr,putAll,wal,stV,seval,iteOmega,toNatUp,reduceCtorEq]
  refine sC (c1) ?_
  simp only[hl,t1,wal,stV,seval,iteOmega,toNatUp,reduceCtorEq]
  exact qd1
def wrnSt (t:Int) (s:Nat) (K:List UInt8) (i:Nat):St:=⟨ofL [(1,.w (.c (.d (.int .i64 t)))),(4,.w (.c (.ptr 2 1 0 0))),(5,.w (.c (.ptr 1 1 0 0))),(7,.w (.c (.d (.int .i64 (i:Int)))))],hL [(1,.box [.d (.sl ((rgN s K i).map fdD))]),(2,.box [.nil])],uL [1,2]⟩
def lp_wrn_0:SCode :=
 .seq (.seq (.reg [oM 16 7,
 oM 17 1,
 oO 18 (.call 7 [(.t 17),(kI 6)] none),
 oO 19 (.bin .lss (.t 16) (.t 18))])
 (.cond (.t 19) (.skip)
 (.exit 0)))
 (.seq (.block 1 (.reg [oO 23 (.load (.ag 1) (.t 5)),
 oO 24 (.call 22 [(.t 23)] none),
 oM 22 24,
 oO 25 (.extract (.t 22) 0),
 oO 26 (.extract (.t 22) 1),
 oN (.store (.ag 1) (.t 5) (.t 25))]))
 (.reg [oM 20 7,
 oO 21 (.bin .add (.t 20) (kI 1)),
 oM 7 21]))
def sf_wrn:SFn:=⟨2,28,
 .seq (.reg [oO 4 (.alloc [.nil])])
 (.seq (.reg [oM 9 0,
 oO 10 (.call 7 [(.t 9),(kI 4294967296)] none),
 oM 11 0,
 oO 12 (.call 18 [(.t 11)] none),
 oO 13 (.call 21 [(.t 10),(.t 12)] none),
 oM 8 13,
 oO 14 (.extract (.t 8) 0),
 oO 15 (.extract (.t 8) 1),
 oO 5 (.alloc [.nil]),
 oN (.store (.ag 1) (.t 5) (.t 14)),
 oM 6 15])
 (.seq (.seq (.reg [oO 7 (.mv (kI 0))])
 (.block 0 (.loop lp_wrn_0)))
 (.seq (.reg [oO 27 (.load (.ag 1) (.t 5)),
 oN (.store (.ag 1) (.t 4) (.t 27))])
 (.ret)))),
 [(4,(some (.ag 1)))]⟩
theorem cf_wrn:compFn Tryd.prog { own:=[],comp:=[],frz:=[],nils:=[] } Tryd.f6=some sf_wrn:=by kernel_rfl
theorem wrn_c (G:Glob) (s:Nat) (t:Int) (hs:s≤1000000):Den Tryd.prog G 6 [.int .i64 (s:Int),.int .i64 t] (.w (.c (.d (rgD (rgN s (bytesK s 32) (withinN t 6).toNat))))):=by
  refine den_walk Tryd.func6 cf_wrn rfl rfl ?_
  have c1:=within_c G (s:Int) 4294967296 (by decide)
  have e1:withinN (s:Int) 4294967296=(s:Int):=by unfold withinN; rw[if_neg (by decide)]; omega
  rw[e1] at c1
  have c2:=wkey_c G (s:Int)
  have kl:(bytesK s 32).length=32:=bytesK_len _ _
  have c3:=rsta_c G (s:Int) (bytesK s 32) (by omega)
  obtain⟨q1,q2⟩:=rgN_start s (bytesK s 32) (by omega) kl
  rw[q1,q2] at c3
  have c4:=within_c G t 6 (by decide)
  obtain⟨r1,r2⟩:=withinN_range t 6 (by decide)
  have hstep:∀ i,i<6→Den Tryd.prog G _ [rgD (rgN s (bytesK s 32) i)] (.tup [.c (.d (rgD (rgN s (bytesK s 32) (i+1)))),.c (.d (.int .i64 0))]):=fun i hi=>by
    have c:=rrot_c G (rgN s (bytesK s 32) i) (by rw[rgN_len]; omega)
    obtain⟨a,b⟩:=rgN_next (s:=s) (seed:=bytesK s 32) (t:=i) (by omega)
    rw[a,b] at c
    exact c
  generalize bytesK s 32=K at *
  generalize withinN t 6=n at *
  unfold rgD at *
  simp only[sf_wrn,putAll,wal,stV,seval,iteOmega,toNatUp,reduceCtorEq]
  refine sD (c1) ?_
  refine sD (c2) ?_
  refine sD (c3) ?_
  refine loop_st (wrnSt t s K) (fun i=>n.toNat-i) (fun i=>i≤n.toNat) 0 (Nat.zero_le _) ?_ ?_
  ·refine ent_l (fun i=>if i=1 then 40 else 32) ?_ ?_ rfl rfl <;> simp only[wx,wex,wez,stV,seval,iteOmega,toNatUp,reduceCtorEq]
  ·intro i hi
   by_cases hlt:i<n.toNat
   ·have c:=hstep i (by omega)
    have g:(i:Int)<n:=by omega
    simp only[lp_wrn_0,wrnSt,wal,stV,seval,iteOmega,toNatUp,reduceCtorEq]
    refine sC (c4) ?_
    simp only[g,wal,stV,seval,iteOmega,toNatUp,reduceCtorEq]
    refine sD (c) ?_
    refine lop_next (i+1) (by omega) (by omega) (ent_l (fun i=>i) ?_ ?_ rfl rfl) <;> simp only[wx,wex,wez,stV,seval,iteOmega,toNatUp,reduceCtorEq] <;> try rfl
   ·have g:((i:Int)<n)=False:=eq_false (by omega)
    have e:n.toNat=i:=by omega
    rw[e]
    simp only[lp_wrn_0,wrnSt,wal,stV,seval,iteOmega,toNatUp,reduceCtorEq]
    refine sC (c4) ?_
    simp only[g,wal,stV,seval,iteOmega,toNatUp,reduceCtorEq]
    exact qd1
end Go.Proofs.YtpbmdbahkpfkdaaDoor
namespace Go.Proofs.YtpbmdbahkpfkdaaDoor
open Go.RowKit IntWalk
set_option maxHeartbeats 1600000
def idB (id:Int):Bool:=decide (0≤id∧id≤4294967295)
def sf_cisi:SFn:=⟨1,9,
 .seq (.reg [oO 2 (.mv (.k (.c (.d (.bool false)))))])
 (.seq (.reg [oM 3 0,
 oO 4 (.bin .leq (kI 0) (.t 3)),
 oM 5 4,
 oG 6 (.mv (.t 0)) 5 true,
 oG 7 (.bin .lss (.t 6) (kI 4294967296)) 5 true,
 oO 8 (.pick (.t 5) (.t 7) (.k (.c (.d (.bool false))))),
 oM 2 8])
 (.ret)),
 [(2,none)]⟩
theorem cf_cisi:compFn Tryd.prog { own:=[],comp:=[],frz:=[],nils:=[] } Tryd.f35=some sf_cisi:=by kernel_rfl
theorem cisi_c (G:Glob) (id:Int):Den Tryd.prog G 35 [.int .i64 id] (.w (.c (.d (.bool (idB id))))):=by
  refine den_walk Tryd.func35 cf_cisi rfl rfl ?_
  unfold idB
  by_cases h1:0≤id
  ·by_cases h2:id<4294967296
   ·have g1:(0≤id)=True:=eq_true h1
    have g2:(id<4294967296)=True:=eq_true h2
    rw[decide_eq_true (show 0≤id∧id≤4294967295 by omega)]
    simp only[sf_cisi,putAll,wal,stV,seval,iteOmega,toNatUp,reduceCtorEq,g1,g2]
    exact qd1
   ·have g1:(0≤id)=True:=eq_true h1
    have g2:(id<4294967296)=False:=eq_false h2
    rw[decide_eq_false (show ¬ (0≤id∧id≤4294967295) by omega)]
    simp only[sf_cisi,putAll,wal,stV,seval,iteOmega,toNatUp,reduceCtorEq,g1,g2]
    exact qd1
  ·have g1:(0≤id)=False:=eq_false h1
   rw[decide_eq_false (show ¬ (0≤id∧id≤4294967295) by omega)]
   simp only[sf_cisi,putAll,wal,stV,seval,iteOmega,toNatUp,reduceCtorEq,g1]
   exact qd1
def sf_cder:SFn:=⟨2,15,
 .seq (.reg [oO 4 (.mv (.k (.c .nil)))])
 (.seq (.reg [oM 8 0,
 oM 9 1,
 oO 10 (.s2b false (.t 9)),
 oO 11 (.call 48 [(.t 8),(.t 10),(kI 32)] none),
 oM 7 11,
 oO 12 (.extract (.t 7) 0),
 oO 13 (.extract (.t 7) 1),
 oM 5 12,
 oM 6 13])
 (.seq (.reg [oM 14 5,
 oM 4 14])
 (.ret))),
 [(4,none)]⟩
theorem cf_cder:compFn Tryd.prog { own:=[],comp:=[],frz:=[],nils:=[] } Tryd.f34=some sf_cder:=by kernel_rfl
theorem cder_c (G:Glob) (hF:G.at 0=some (.ra (firstK.map wD))) (hG:G.at 1=some (.ra (constK.map wD))) (key:List UInt8) (s:ByteArray) (hk:key.length=32) (hi:s.size≤1000):Den Tryd.prog G 34 [.sl (key.map bD),.str s] (.w (.c (.d (.sl ((expK key s.data.toList 32).map bD))))):=by
  refine den_walk Tryd.func34 cf_cder rfl rfl ?_
  have hl:s.data.toList.length=s.size:=rfl
  have hm:s.size≤maxLen:=by unfold maxLen; omega
  have c:=exp_c G hF hG key s.data.toList (by omega) (by omega) 32 (by decide) (by decide)
  rw[(expL_32 key s.data.toList).1,(expL_32 key s.data.toList).2] at c
  generalize expK key s.data.toList 32=K at *
  simp only[sf_cder,putAll,wal,stV,seval,iteOmega,toNatUp,reduceCtorEq,hm]
  refine sD (c) ?_
  exact qd1
def sf_ccon:SFn:=⟨1,35,
 .seq (.reg [oO 2 (.mv (kI 0)),
 oO 3 (.alloc [.nil,.nil]),
 oO 4 (.mv (.k (.c (.d (.bool false)))))])
 (.seq (.reg [oM 12 0,
 oO 13 (.call 47 [(.t 12),(kI 4)] none),
 oM 11 13,
 oO 14 (.extract (.t 11) 0),
 oO 15 (.extract (.t 11) 1),
 oO 16 (.extract (.t 11) 2),
 oM 5 14,
 oM 6 15,
 oM 7 16])
 (.seq (.seq (.reg [oM 17 5,
 oO 18 (.slice 1 (.t 17) (some (kI 2)) none none),
 oO 19 (.call 33 [(.t 18)] none),
 oO 20 (.bin .neq (.t 19) (.k (.c (.d (.int .u64 0)))))])
 (.cond (.t 20) (.seq (.reg [oO 21 (.build [.nil,.nil] []),
 oO 2 (.mv (kI 0)),
 oN (.store (.ag 2) (.t 3) (.t 21)),
 oO 4 (.mv (.k (.c (.d (.bool false)))))])
 (.ret))
 (.skip)))
 (.seq (.reg [oM 23 6,
 oO 24 (.call 47 [(.t 23),(kI 32)] none),
 oM 22 24,
 oO 25 (.extract (.t 22) 0),
 oO 26 (.extract (.t 22) 1),
 oO 27 (.extract (.t 22) 2),
 oM 8 25,
 oM 9 26,
 oM 10 27])
 (.seq (.reg [oM 28 5,
 oO 29 (.slice 1 (.t 28) none (some (kI 2)) none),
 oO 30 (.call 33 [(.t 29)] none),
 oO 31 (.conv .i64 (.t 30)),
 oM 32 8,
 oM 33 9,
 oO 34 (.build [.nil,.nil] [(0,1,(.t 32)),(1,1,(.t 33))]),
 oM 2 31,
 oN (.store (.ag 2) (.t 3) (.t 34)),
 oO 4 (.mv (.k (.c (.d (.bool true)))))])
 (.ret))))),
 [(2,none),(3,(some (.ag 2))),(4,none)]⟩
theorem cf_ccon:compFn Tryd.prog { own:=[],comp:=[],frz:=[],nils:=[] } Tryd.f32=some sf_ccon:=by kernel_rfl
theorem ccon_c (G:Glob) (V:List UInt8) (hV:V.length=68):Den Tryd.prog G 32 [.sl (V.map bD)] (if V.getD 2 0=0∧V.getD 3 0=0 then .tup [.c (.d (.int .i64 (getN (cutN V 0 2):Int))),.c (.d (prD (cutN V 4 32) (cutN V 36 32))),.c (.d (.bool true))] else .tup [.c (.d (.int .i64 0)),.c (.d (prD [] [])),.c (.d (.bool false))]):=by
  refine den_walk Tryd.func32 cf_ccon rfl rfl ?_
  have c1:=cut_in G V 4 (by omega) (by omega)
  have c2:=cut_in G (V.drop 4) 32 (by simp; omega) (by simp; omega)
  have c3:=get_c G ((V.take 4).drop 2) (by simp; omega)
  have c4:=get_c G ((V.take 4).take 2) (by simp; omega)
  have e1:(V.take 4).take 2=cutN V 0 2:=by unfold cutN; rw[List.take_take]; rfl
  have e2:(V.drop 4).take 32=cutN V 4 32:=rfl
  have e3:(V.drop 4).drop 32=cutN V 36 32:=by
    unfold cutN
    rw[List.drop_drop,List.take_of_length_le (by simp; omega)]
  have hz:getN ((V.take 4).drop 2)=0↔V.getD 2 0=0∧V.getD 3 0=0:=by
    have:(V.take 4).drop 2=[V.getD 2 0,V.getD 3 0]:=by
      match V,hV with
      | a::b::c::d::l,_=>rfl
    rw[this]
    generalize V.getD 2 0=a
    generalize V.getD 3 0=b
    have ha:=a.toNat_lt
    have hb:=b.toNat_lt
    have e:getN [a,b]=a.toNat*256+b.toNat:=by simp only[getN,List.foldl]; omega
    rw[e]
    constructor
    ·intro h
     exact⟨UInt8.toNat_inj.1 (show a.toNat=0 by omega),UInt8.toNat_inj.1 (show b.toNat=0 by omega)⟩
    ·rintro⟨rfl,rfl⟩
     rfl
  have l4:((V.take 4).drop 2).length=2:=by simp; omega
  have t4:((V.take 4).drop 2).take 2=(V.take 4).drop 2:=List.take_of_length_le (by omega)
  have l5:(V.take 4).length=4:=by simp; omega
  have b4:=(getN_lt_pow 2 (cutN V 0 2) (cutN_len (by omega)) (by decide)).1
  rw[e1] at c4
  rw[e2,e3] at c2
  by_cases h:V.getD 2 0=0∧V.getD 3 0=0
  ·rw[if_pos h]
   rw[hz.2 h] at c3
   simp only[sf_ccon,putAll,wal,stV,seval,iteOmega,toNatUp,reduceCtorEq]
   refine sC (c1) ?_
   simp only[l5,t4,wal,stV,seval,iteOmega,toNatUp,reduceCtorEq]
   refine sD (c3) ?_
   refine sC (c2) ?_
   simp only[e1,l5,wal,stV,seval,iteOmega,toNatUp,reduceCtorEq]
   refine st_call c4 (by simp only[wal,stV,seval,iteOmega,toNatUp,reduceCtorEq,e1]) (.inl rfl) ?_
   simp only[wal,stV,seval,iteOmega,toNatUp,reduceCtorEq]
   exact ret_d3 (by simp only[wal,stV,seval,iteOmega,toNatUp,reduceCtorEq] <;> rfl) (by simp only[wal,stV,seval,iteOmega,toNatUp,reduceCtorEq] <;> rfl) (by simp only[wal,stV,seval,iteOmega,toNatUp,reduceCtorEq])
  ·rw[if_neg h]
   have g:(((getN ((V.take 4).drop 2):Nat):Int)=0)=False:=eq_false (by have:=mt hz.1 h; omega)
   simp only[sf_ccon,putAll,wal,stV,seval,iteOmega,toNatUp,reduceCtorEq]
   refine sC (c1) ?_
   simp only[l5,t4,wal,stV,seval,iteOmega,toNatUp,reduceCtorEq]
   refine sC (c3) ?_
   simp only[g,wal,stV,seval,iteOmega,toNatUp,reduceCtorEq]
   exact ret_d3 (by simp only[wal,stV,seval,iteOmega,toNatUp,reduceCtorEq] <;> rfl) (by simp only[wal,stV,seval,iteOmega,toNatUp,reduceCtorEq] <;> rfl) (by simp only[wal,stV,seval,iteOmega,toNatUp,reduceCtorEq])
def sf_cidc:SFn:=⟨1,11,
 .seq (.reg [oO 2 (.mv (kI 0)),
 oO 3 (.mv (kI 0))])
 (.seq (.seq (.reg [oM 4 0,
 oO 5 (.len (.t 4)),
 oO 6 (.bin .neq (.t 5) (kI 104))])
 (.cond (.t 6) (.seq (.reg [oO 2 (.mv (kI 0)),
 oO 3 (.mv (kI 3))])
 (.ret))
 (.skip)))
 (.seq (.reg [oM 7 0,
 oO 8 (.slice 1 (.t 7) none (some (kI 4)) none),
 oO 9 (.call 33 [(.t 8)] none),
 oO 10 (.conv .i64 (.t 9)),
 oM 2 10,
 oO 3 (.mv (kI 0))])
 (.ret))),
 [(2,none),(3,none)]⟩
theorem cf_cidc:compFn Tryd.prog { own:=[],comp:=[],frz:=[],nils:=[] } Tryd.f12=some sf_cidc:=by kernel_rfl
theorem cidc_c (G:Glob) (c:List UInt8) (hc:c.length≤9223372036854775807):Den Tryd.prog G 12 [.sl (c.map bD)] (.tup [.c (.d (.int .i64 (ciN c:Int))),.c (.d (.int .i64 (ciE c)))]):=by
  refine den_walk Tryd.func12 cf_cidc rfl rfl ?_
  unfold ciN ciE
  by_cases h:c.length=104
  ·rw[if_neg (by omega),if_neg (by omega)]
   have c1:=get_c G (cutN c 0 4) (by rw[cutN_len (by omega)]; decide)
   have b1:=(getN_lt_pow 4 (cutN c 0 4) (cutN_len (by omega)) (by decide)).1
   have t1:c.take 4=cutN c 0 4:=rfl
   generalize getN (cutN c 0 4)=n at *
   simp only[sf_cidc,putAll,wal,stV,seval,iteOmega,toNatUp,reduceCtorEq,h,t1]
   refine sC c1 ?_
   simp only[wal,stV,seval,iteOmega,toNatUp,reduceCtorEq]
   exact qd2
  ·rw[if_pos h,if_pos h]
   simp only[sf_cidc,putAll,wal,stV,seval,iteOmega,toNatUp,reduceCtorEq]
   exact qd2
def sf_csta:SFn:=⟨2,20,
 .seq (.reg [oO 4 (.alloc [.nil]),
 oO 5 (.mv (kI 0))])
 (.seq (.seq (.reg [oM 6 0,
 oO 7 (.call 35 [(.t 6)] none),
 oO 8 (.un .not (.t 7))])
 (.cond (.t 8) (.seq (.reg [oO 9 (.build [.nil] []),
 oN (.store (.ag 1) (.t 4) (.t 9)),
 oO 5 (.mv (kI 4))])
 (.ret))
 (.skip)))
 (.seq (.seq (.reg [oM 10 1,
 oO 11 (.len (.t 10)),
 oO 12 (.bin .neq (.t 11) (kI 32))])
 (.cond (.t 12) (.seq (.reg [oO 13 (.build [.nil] []),
 oN (.store (.ag 1) (.t 4) (.t 13)),
 oO 5 (.mv (kI 5))])
 (.ret))
 (.skip)))
 (.seq (.reg [oM 14 0,
 oM 15 1,
 oO 16 (.call 34 [(.t 15),(.k (.c (.d (.str ⟨#[115,101,99,116,105,109,101,32,115,116,97,114,116]⟩))))] none),
 oO 17 (.build [(.d (.int .i64 0)),.nil] [(0,1,(.t 14)),(1,1,(.t 16))]),
 oO 18 (.bldSl false 1 2 (.agg [(.int .i64 0),(.sl [])]) [(0,(.t 17))]),
 oO 19 (.build [.nil] [(0,1,(.t 18))]),
 oN (.store (.ag 1) (.t 4) (.t 19)),
 oO 5 (.mv (kI 0))])
 (.ret)))),
 [(4,(some (.ag 1))),(5,none)]⟩
theorem cf_csta:compFn Tryd.prog { own:=[],comp:=[],frz:=[],nils:=[] } Tryd.f17=some sf_csta:=by kernel_rfl
theorem csta_c (G:Glob) (hF:G.at 0=some (.ra (firstK.map wD))) (hG:G.at 1=some (.ra (constK.map wD))) (id:Int) (seed:List UInt8) (hs:seed.length≤9223372036854775807):Den Tryd.prog G 17 [.int .i64 id,.sl (seed.map bD)] (.tup [.c (.d (rgD (sgtL id seed))),.c (.d (.int .i64 (sgtE id seed)))]):=by
  refine den_walk Tryd.func17 cf_csta rfl rfl ?_
  have c1:=cisi_c G id
  by_cases h1:0≤id∧id≤4294967295
  ·rw[show idB id=true from decide_eq_true h1] at c1
   by_cases h3:seed.length=32
   ·have e:sgtE id seed=0:=by unfold sgtE; rw[if_neg (by omega),if_neg (by omega)]
    have e2:sgtL id seed=[⟨id,keyS seed⟩]:=if_pos e
    rw[e,e2]
    have c:=cder_c G hF hG seed ⟨strStart.toArray⟩ h3 (by decide)
    rw[show expK seed (⟨strStart.toArray⟩:ByteArray).data.toList 32=keyS seed from rfl] at c
    generalize keyS seed=K at *
    unfold rgD
    simp only[sf_csta,putAll,wal,stV,seval,iteOmega,toNatUp,reduceCtorEq]
    refine sC (c1) ?_
    simp only[h3,wal,stV,seval,iteOmega,toNatUp,reduceCtorEq]
    refine st_call c (by simp only[wal,stV,seval,iteOmega,toNatUp,reduceCtorEq] <;> rfl) (.inl rfl) ?_
    simp only[wal,stV,seval,iteOmega,toNatUp,reduceCtorEq]
    exact ret_d2 (by simp only[wal,stV,seval,iteOmega,toNatUp,reduceCtorEq] <;> rfl) (by simp only[wal,stV,seval,iteOmega,toNatUp,reduceCtorEq])
   ·have e:sgtE id seed=5:=by unfold sgtE; rw[if_neg (by omega),if_pos h3]
    have e2:sgtL id seed=[]:=if_neg (by rw[e]; decide)
    rw[e,e2]
    unfold rgD
    simp only[sf_csta,putAll,wal,stV,seval,iteOmega,toNatUp,reduceCtorEq]
    refine sD (c1) ?_
    exact ret_d2 (by simp only[wal,stV,seval,iteOmega,toNatUp,reduceCtorEq] <;> rfl) (by simp only[wal,stV,seval,iteOmega,toNatUp,reduceCtorEq])
  ·rw[show idB id=false from decide_eq_false h1] at c1
   have e:sgtE id seed=4:=if_pos (by omega)
   have e2:sgtL id seed=[]:=if_neg (by rw[e]; decide)
   rw[e,e2]
   unfold rgD
   simp only[sf_csta,putAll,wal,stV,seval,iteOmega,toNatUp,reduceCtorEq]
   refine sD (c1) ?_
   exact ret_d2 (by simp only[wal,stV,seval,iteOmega,toNatUp,reduceCtorEq] <;> rfl) (by simp only[wal,stV,seval,iteOmega,toNatUp,reduceCtorEq])
end Go.Proofs.YtpbmdbahkpfkdaaDoor
namespace Go.Proofs.YtpbmdbahkpfkdaaDoor
open Go.RowKit IntWalk
set_option maxHeartbeats 3200000
def msL (l:List Fd):Nat→List (Int×D)
  | 0=>[]
  | i+1=>putM (msL l i) (l.getD i default).ty (.bool true)
theorem lk_ms (l:List Fd) (y:Int):∀ i,lkM (msL l i) y=if ∃ k,k<i∧(l.getD k default).ty=y then some (.bool true) else none
  | 0=>by simp[msL,lkM_nil]
  | i+1=>by
    simp only[msL,lkM_put,lk_ms l y i]
    by_cases h:y=(l.getD i default).ty
    ·rw[if_pos h,if_pos ⟨i,by omega,h.symm⟩]
    ·rw[if_neg h]
     by_cases h2:∃ k,k<i∧(l.getD k default).ty=y
     ·obtain⟨k,h3,h4⟩:=h2
      rw[if_pos ⟨k,h3,h4⟩,if_pos ⟨k,by omega,h4⟩]
     ·have h5:¬ ∃ k,k<i+1∧(l.getD k default).ty=y:=by
        rintro⟨k,h3,h4⟩
        rcases Nat.lt_or_ge k i with g | g
        ·exact h2 ⟨k,g,h4⟩
        ·obtain rfl:k=i:=by omega
         exact h h4.symm
      rw[if_neg h2,if_neg h5]
theorem gd_no:(none:Option D).getD (.bool false)=.bool false:=rfl
theorem gd_yes:(some (.bool true):Option D).getD (.bool false)=.bool true:=rfl
def lp_cvld_0:SCode :=
 .seq (.reg [oO 21 (.bin .lss (.t 20) (.t 19))])
 (.seq (.cond (.t 21) (.skip)
 (.exit 0))
 (.seq (.block 1 (.seq (.reg [oO 22 (.idxSl 2 (.t 18) (.t 20)),
 oO 23 (.load (.ag 2) (.t 22)),
 oO 5 (.alloc [(.d (.int .i64 0)),.nil]),
 oN (.store (.ag 2) (.t 5) (.t 23))])
 (.seq (.seq (.reg [oO 24 (.fieldAddr 0 (.t 5)),
 oO 25 (.load .sc (.t 24)),
 oO 26 (.call 35 [(.t 25)] none),
 oO 27 (.un .not (.t 26)),
 oM 28 27,
 oG 29 (.mv (.t 3)) 28 false,
 oG 30 (.fieldAddr 0 (.t 5)) 28 false,
 oG 31 (.load .sc (.t 30)) 28 false,
 oG 32 (.mpGet .i64 (.bool false) false (.t 29) (.t 31)) 28 false,
 oO 33 (.pick (.t 28) (.k (.c (.d (.bool true)))) (.t 32)),
 oM 34 33,
 oG 35 (.fieldAddr 1 (.t 5)) 34 false,
 oG 36 (.load .sc (.t 35)) 34 false,
 oG 37 (.len (.t 36)) 34 false,
 oG 38 (.bin .neq (.t 37) (kI 32)) 34 false,
 oO 39 (.pick (.t 34) (.k (.c (.d (.bool true)))) (.t 38))])
 (.cond (.t 39) (.seq (.reg [oO 2 (.mv (.k (.c (.d (.bool false)))))])
 (.ret))
 (.skip)))
 (.reg [oM 40 3,
 oO 41 (.fieldAddr 0 (.t 5)),
 oO 42 (.load .sc (.t 41)),
 oN (.mpSet .i64 (.t 40) (.t 42) (.k (.c (.d (.bool true)))))]))))
 (.reg [oO 43 (.bin .add (.t 20) (kI 1)),
 oM 20 43])))
def sf_cvld:SFn:=⟨1,44,
 .seq (.reg [oO 1 (.box .roBox (.t 0)),
 oO 2 (.mv (.k (.c (.d (.bool false)))))])
 (.seq (.seq (.reg [oO 6 (.fieldAddr 0 (.t 1)),
 oO 7 (.load .sc (.t 6)),
 oO 8 (.len (.t 7)),
 oO 9 (.bin .lss (.t 8) (kI 1)),
 oM 10 9,
 oG 11 (.fieldAddr 0 (.t 1)) 10 false,
 oG 12 (.load .sc (.t 11)) 10 false,
 oG 13 (.len (.t 12)) 10 false,
 oG 14 (.bin .gtr (.t 13) (kI 4)) 10 false,
 oO 15 (.pick (.t 10) (.k (.c (.d (.bool true)))) (.t 14))])
 (.cond (.t 15) (.seq (.reg [oO 2 (.mv (.k (.c (.d (.bool false)))))])
 (.ret))
 (.skip)))
 (.seq (.reg [oO 16 (.mkMp .i64 none),
 oM 3 16])
 (.seq (.seq (.reg [oO 17 (.fieldAddr 0 (.t 1)),
 oO 18 (.load .sc (.t 17)),
 oO 19 (.len (.t 18)),
 oO 20 (.mv (kI 0))])
 (.block 0 (.loop lp_cvld_0)))
 (.seq (.reg [oO 2 (.mv (.k (.c (.d (.bool true)))))])
 (.ret))))),
 [(2,none)]⟩
theorem cf_cvld:compFn Tryd.prog { own:=[],comp:=[],frz:=[],nils:=[] } Tryd.f16=some sf_cvld:=by kernel_rfl
def vlS (l:List Fd) (i:Nat):St:=⟨ofL [(3,.w (.c (.mp 1))),(18,.w (.c (.d (.sl (l.map fdD))))),(19,.w (.c (.d (.int .i64 (l.length:Int))))),(20,.w (.c (.d (.int .i64 (i:Int)))))],hL [(1,.mp .i64 (msL l i))],uL [1]⟩
theorem cvld_c (G:Glob) (l:List Fd) (hl:l.length≤9223372036854775807):Den Tryd.prog G 16 [rgD l] (.w (.c (.d (.bool (decide (rgR l)))))):=by
  refine den_walk Tryd.func16 cf_cvld rfl rfl ?_
  unfold rgD
  rcases Nat.lt_or_ge l.length 1 with h1 | h1
  ·have hno:¬ rgR l:=fun h=>by have:=h.1; omega
   rw[decide_eq_false hno]
   simp only[sf_cvld,putAll,wal,stV,seval,iteOmega,toNatUp,reduceCtorEq]
   exact qd1
  ·rcases Nat.lt_or_ge 4 l.length with h4 | h4
   ·have hno:¬ rgR l:=fun h=>by have:=h.2.1; omega
    have g4:((l.length:Int)>4)=True:=eq_true (by omega)
    rw[decide_eq_false hno]
    simp only[sf_cvld,putAll,wal,stV,seval,iteOmega,toNatUp,reduceCtorEq,g4]
    exact qd1
   ·have g4:((l.length:Int)>4)=False:=eq_false (by omega)
    simp only[sf_cvld,putAll,wal,stV,seval,iteOmega,toNatUp,reduceCtorEq,wmp,g4]
    refine loop_st (vlS l) (fun i=>l.length-i) (fun i=>i≤l.length∧∀ j,j<i→mstOk (l.getD j default)∧∀ k,k<j→(l.getD k default).ty≠(l.getD j default).ty) 0 ⟨Nat.zero_le _,fun j hj=>by omega⟩ ?_ ?_
    ·refine ent_l (fun i=>128) ?_ ?_ rfl rfl <;> simp only[wx,wex,wez,stV,seval,iteOmega,toNatUp,reduceCtorEq,msL,wmp]
    ·rintro i ⟨hi,hok⟩
     by_cases hlt:i<l.length
     ·have g:=getF hlt
      have hno:¬ mstOk (l.getD i default)→¬ rgR l:=fun h hr=>h (rgR_at hr hlt).1
      have hno2:∀ k,k<i→(l.getD k default).ty=(l.getD i default).ty→¬ rgR l:=fun k hk e hr=>(rgR_at hr hlt).2 k hk e
      have hgo:mstOk (l.getD i default)→(∀ k,k<i→(l.getD k default).ty≠(l.getD i default).ty)→∀ j,j<i+1→mstOk (l.getD j default)∧∀ k,k<j→(l.getD k default).ty≠(l.getD j default).ty:=fun a b j hj=>by
        rcases Nat.lt_or_ge j i with h | h
        ·exact hok j h
        ·obtain rfl:j=i:=by omega
         exact⟨a,b⟩
      have hms:=lk_ms l (l.getD i default).ty i
      have hst:msL l (i+1)=putM (msL l i) (l.getD i default).ty (.bool true):=rfl
      have ci:=cisi_c G (l.getD i default).ty
      by_cases h0:0≤(l.getD i default).ty∧(l.getD i default).ty≤4294967295
      ·rw[show idB (l.getD i default).ty=true from decide_eq_true h0] at ci
       by_cases h5:∃ k,k<i∧(l.getD k default).ty=(l.getD i default).ty
       ·obtain⟨k,h6,h7⟩:=h5
        rw[if_pos ⟨k,h6,h7⟩] at hms
        rw[decide_eq_false (hno2 k h6 h7)]
        simp only[lp_cvld_0,vlS,wal,stV,seval,iteOmega,toNatUp,reduceCtorEq,wmp,get_map,g,fdD]
        refine sC (ci) ?_
        simp only[wmp,hms,gd_yes,wal,stV,seval,iteOmega,toNatUp,reduceCtorEq]
        exact qd1
       ·rw[if_neg h5] at hms
        by_cases h3:(l.getD i default).da.length=32
        ·simp only[lp_cvld_0,vlS,wal,stV,seval,iteOmega,toNatUp,reduceCtorEq,wmp,get_map,g,fdD]
         refine sC (ci) ?_
         simp only[wmp,hms,gd_no,h3,wal,stV,seval,iteOmega,toNatUp,reduceCtorEq]
         refine lop_next (i+1) (by omega) ⟨by omega,hgo ⟨by omega,by omega,h3⟩ fun k hk e=>h5 ⟨k,hk,e⟩⟩ (ent_l (fun _=>1) ?_ ?_ rfl rfl) <;> simp only[wx,wex,wez,stV,seval,iteOmega,toNatUp,reduceCtorEq,wmp,msL]
        ·rw[decide_eq_false (hno fun h=>h3 h.2.2)]
         have h4':(((l.getD i default).da.length:Int)=32)=False:=eq_false (by omega)
         simp only[lp_cvld_0,vlS,wal,stV,seval,iteOmega,toNatUp,reduceCtorEq,wmp,get_map,g,fdD]
         refine sC (ci) ?_
         simp only[wmp,hms,gd_no,h4',wal,stV,seval,iteOmega,toNatUp,reduceCtorEq]
         exact qd1
      ·rw[show idB (l.getD i default).ty=false from decide_eq_false h0] at ci
       rw[decide_eq_false (hno fun h=>h0 ⟨h.1,h.2.1⟩)]
       simp only[lp_cvld_0,vlS,wal,stV,seval,iteOmega,toNatUp,reduceCtorEq,wmp,get_map,g,fdD]
       refine sD (ci) ?_
       exact qd1
     ·obtain rfl:i=l.length:=by omega
      rw[decide_eq_true (rgR_of (by omega) (by omega) hok)]
      simp only[lp_cvld_0,vlS,wal,stV,seval,iteOmega,toNatUp,reduceCtorEq,wmp]
      exact qd1
def croSt (l T:List Fd) (ni:Int) (i:Nat):St:=⟨ofL [(2,.w (.c (.ptr 2 1 0 0))),(5,.w (.c (.d (.int .i64 ni)))),(6,.w (.c (.own 1 2 0 (rroO l i).length))),(33,.w (.c (.d (.sl (T.map fdD))))),(34,.w (.c (.d (.int .i64 (T.length:Int))))),(35,.w (.c (.d (.int .i64 (i:Int)))))],hL [(1,.row 2 ((rroO l i).map fdD)),(2,.box [.nil])],uL [1,2]⟩
theorem nxI_tmod {l:List Fd} (h:0≤(l.getD 0 default).ty):((l.getD 0 default).ty+1).tmod 4294967296=nxI l:=by
  unfold nxI
  exact Int.tmod_eq_emod_of_nonneg (by omega)
def lp_crot_0:SCode :=
 .seq (.reg [oO 36 (.bin .lss (.t 35) (.t 34))])
 (.seq (.cond (.t 36) (.skip)
 (.exit 0))
 (.seq (.block 1 (.seq (.reg [oO 37 (.idxSl 2 (.t 33) (.t 35)),
 oO 38 (.load (.ag 2) (.t 37)),
 oO 8 (.alloc [(.d (.int .i64 0)),.nil]),
 oN (.store (.ag 2) (.t 8) (.t 38))])
 (.seq (.seq (.reg [oO 39 (.fieldAddr 0 (.t 8)),
 oO 40 (.load .sc (.t 39)),
 oM 41 5,
 oO 42 (.bin .eql (.t 40) (.t 41))])
 (.cond (.t 42) (.seq (.reg [oO 43 (.build [.nil] []),
 oN (.store (.ag 1) (.t 2) (.t 43)),
 oO 3 (.mv (kI 7))])
 (.ret))
 (.skip)))
 (.reg [oM 44 6,
 oO 45 (.fieldAddr 0 (.t 8)),
 oO 46 (.load .sc (.t 45)),
 oO 47 (.fieldAddr 1 (.t 8)),
 oO 48 (.load .sc (.t 47)),
 oO 49 (.bldSl false 1 1 (.sl []) [(0,(.t 48))]),
 oO 50 (.call 24 [(.t 49)] none),
 oO 51 (.build [(.d (.int .i64 0)),.nil] [(0,1,(.t 46)),(1,1,(.t 50))]),
 oO 52 (.bldSl false 1 2 (.agg [(.int .i64 0),(.sl [])]) [(0,(.t 51))]),
 oO 53 (.app false 2 32 (.t 44) (.t 52)),
 oM 6 53]))))
 (.reg [oO 54 (.bin .add (.t 35) (kI 1)),
 oM 35 54])))
def sf_crot:SFn:=⟨1,57,
 .seq (.reg [oO 1 (.box .roBox (.t 0)),
 oO 2 (.alloc [.nil]),
 oO 3 (.mv (kI 0))])
 (.seq (.seq (.reg [oO 9 (.load (.ag 1) (.t 1)),
 oO 10 (.call 16 [(.t 9)] none),
 oO 11 (.un .not (.t 10))])
 (.cond (.t 11) (.seq (.reg [oO 12 (.build [.nil] []),
 oN (.store (.ag 1) (.t 2) (.t 12)),
 oO 3 (.mv (kI 3))])
 (.ret))
 (.skip)))
 (.seq (.reg [oO 13 (.fieldAddr 0 (.t 1)),
 oO 14 (.load .sc (.t 13)),
 oO 15 (.idxSl 2 (.t 14) (kI 0)),
 oO 16 (.load (.ag 2) (.t 15)),
 oO 4 (.alloc [(.d (.int .i64 0)),.nil]),
 oN (.store (.ag 2) (.t 4) (.t 16))])
 (.seq (.reg [oO 17 (.fieldAddr 0 (.t 4)),
 oO 18 (.load .sc (.t 17)),
 oO 19 (.bin .add (.t 18) (kI 1)),
 oO 20 (.bin .rem (.t 19) (kI 4294967296)),
 oM 5 20])
 (.seq (.reg [oM 21 5,
 oO 22 (.fieldAddr 1 (.t 4)),
 oO 23 (.load .sc (.t 22)),
 oO 24 (.call 34 [(.t 23),(.k (.c (.d (.str ⟨#[115,101,99,116,105,109,101,32,110,101,120,116]⟩))))] none),
 oO 25 (.build [(.d (.int .i64 0)),.nil] [(0,1,(.t 21)),(1,1,(.t 24))]),
 oO 26 (.bldSl true 1 2 (.agg [(.int .i64 0),(.sl [])]) [(0,(.t 25))]),
 oM 6 26])
 (.seq (.seq (.reg [oO 27 (.fieldAddr 0 (.t 1)),
 oO 28 (.load .sc (.t 27)),
 oO 29 (.fieldAddr 0 (.t 1)),
 oO 30 (.load .sc (.t 29)),
 oO 31 (.len (.t 30)),
 oO 32 (.min [(.t 31),(kI 3)]),
 oO 33 (.slice 2 (.t 28) none (some (.t 32)) none),
 oO 34 (.len (.t 33)),
 oO 35 (.mv (kI 0))])
 (.block 0 (.loop lp_crot_0)))
 (.seq (.reg [oM 55 6,
 oO 56 (.build [.nil] [(0,1,(.t 55))]),
 oN (.store (.ag 1) (.t 2) (.t 56)),
 oO 3 (.mv (kI 0))])
 (.ret))))))),
 [(2,(some (.ag 1))),(3,none)]⟩
theorem cf_crot:compFn Tryd.prog { own:=[26],comp:=[],frz:=[],nils:=[] } Tryd.f15=some sf_crot:=by kernel_rfl
theorem crot_c (G:Glob) (hF:G.at 0=some (.ra (firstK.map wD))) (hG:G.at 1=some (.ra (constK.map wD))) (l:List Fd) (hl:l.length≤9223372036854775807):Den Tryd.prog G 15 [rgD l] (.tup [.c (.d (rgD (roL l))),.c (.d (.int .i64 (roE l)))]):=by
  refine den_walk Tryd.func15 cf_crot rfl rfl ?_
  have c1:=cvld_c G l hl
  by_cases hr:rgR l
  ·rw[decide_eq_true hr] at c1
   have r1:=hr.1
   have r2:=hr.2.1
   have g0:=getF (l:=l) (i:=0) (by omega)
   obtain⟨⟨m1,m2,m3⟩,_⟩:=rgR_at hr (i:=0) (by omega)
   have c2:=cder_c G hF hG (l.getD 0 default).da ⟨strNext.toArray⟩ m3 (by decide)
   rw[show expK (l.getD 0 default).da (⟨strNext.toArray⟩:ByteArray).data.toList 32=keyX (l.getD 0 default).da from rfl] at c2
   have ha:=nxI_tmod m1
   have hn1:0≤nxI l∧nxI l<4294967296:=by unfold nxI; omega
   have hO0:rroO l 0=[⟨nxI l,keyX (l.getD 0 default).da⟩]:=rfl
   have hmin:=min_two l.length 3
   obtain⟨n3,hn3⟩:∃ n3,n3=min l.length 3:=⟨_,rfl⟩
   rw[← hn3,show ((3:Nat):Int)=3 from rfl] at hmin
   have n3l:n3≤l.length:=by omega
   have hT:(l.take n3).length=n3:=by simp; omega
   have hTm:(l.map fdD).take n3=(l.take n3).map fdD:=(List.map_take ..).symm
   obtain⟨ni,hni⟩:∃ ni,ni=nxI l:=⟨_,rfl⟩
   rw[← hni] at ha hO0
   unfold rgD at *
   generalize hk0:l.getD 0 default=k0 at *
   simp only[sf_crot,putAll,wal,stV,seval,iteOmega,toNatUp,reduceCtorEq]
   refine sC (c1) ?_
   simp only[get_map,g0,fdD,ha,wal,stV,seval,iteOmega,toNatUp,reduceCtorEq]
   have haz:=allSz_fd l
   refine sC (c2) ?_
   simp only[hmin,hTm,haz,wal,stV,seval,iteOmega,toNatUp,reduceCtorEq]
   refine loop_st (croSt l (l.take n3) ni) (fun i=>4-i) (fun i=>i≤n3∧∀ j,j<i→(l.getD j default).ty≠ni) 0 ⟨Nat.zero_le _,fun j hj=>by omega⟩ ?_ ?_
   ·refine ent_l (fun i=>if i=1 then 208 else 16) ?_ ?_ rfl rfl <;> simp only[wx,wex,wez,stV,seval,iteOmega,toNatUp,reduceCtorEq,hO0,hT] <;> first | exact⟨rfl,rfl⟩ | rfl | skip
   ·rintro i ⟨hi,hd⟩
    clear c1 c2
    have hOl:(rroO l i).length=i+1:=by simp[rroO]; omega
    have az:=allSz_fd (rroO l i)
    have est:croSt l (l.take n3) ni i=⟨ofL [(2,.w (.c (.ptr 2 1 0 0))),(5,.w (.c (.d (.int .i64 ni)))),(6,.w (.c (.own 1 2 0 (rroO l i).length))),(33,.w (.c (.d (.sl ((l.take n3).map fdD))))),(34,.w (.c (.d (.int .i64 ((l.take n3).length:Int))))),(35,.w (.c (.d (.int .i64 (i:Int)))))],hL [(1,.row 2 ((rroO l i).map fdD)),(2,.box [.nil])],uL [1,2]⟩:=rfl
    rw[hT] at est
    by_cases hlt:i<n3
    ·have gT:(l.take n3)[i]?=some (l.getD i default):=by rw[List.getElem?_take_of_lt hlt]; exact getF (by omega)
     have hs:=rroO_s (l:=l) (i:=i) (by omega)
     obtain⟨⟨_,_,x3⟩,_⟩:=rgR_at hr (i:=i) (by omega)
     have cj:=join_c G [(l.getD i default).da] (by simp) (by rw[List.flatten_cons,List.flatten_nil,List.append_nil,x3]; decide)
     simp only[List.map_cons,List.map_nil,List.flatten_cons,List.flatten_nil,List.append_nil] at cj
     by_cases he:(l.getD i default).ty=ni
     ·obtain⟨e1,e2⟩:=roE_cl hr (i:=i) (by omega) (by omega) (he.trans hni)
      have ge:((l.getD i default).ty=ni)=True:=eq_true he
      rw[e1,e2,est]
      clear hd hs hO0 est
      generalize rroO l i=O at *
      generalize l.getD i default=x at *
      generalize l.take n3=T at *
      simp only[lp_crot_0,wal,stV,seval,iteOmega,toNatUp,reduceCtorEq,get_map,gT,fdD,ge]
      exact ret_d2 (by simp only[wal,stV,seval,iteOmega,toNatUp,reduceCtorEq] <;> rfl) (by simp only[wal,stV,seval,iteOmega,toNatUp,reduceCtorEq])
     ·have ge:((l.getD i default).ty=ni)=False:=eq_false he
      have hd':∀ j,j<i+1→(l.getD j default).ty≠ni:=fun j hj=>by
        rcases Nat.lt_or_ge j i with h | h
        ·exact hd j h
        ·obtain rfl:j=i:=by omega
         exact he
      rw[est]
      clear hd hO0 est
      generalize hO:rroO l i=O at *
      generalize hxi:l.getD i default=x at *
      generalize hTT:l.take n3=T at *
      simp only[lp_crot_0,wal,stV,seval,iteOmega,toNatUp,reduceCtorEq,get_map,gT,fdD,ge]
      refine sC (cj) ?_
      simp only[srcV,fdD_cells,fdD,wal,stV,seval,iteOmega,toNatUp,reduceCtorEq]
      refine lop_next (i+1) (by omega) ⟨by omega,hd'⟩ (ent_l (fun i=>if i=1 then 424 else 2) ?_ ?_ rfl rfl) <;> simp only[hs,hT,List.map_append,fdD,wx,wex,wez,stV,seval,iteOmega,toNatUp,reduceCtorEq]
    ·obtain⟨e1,e2⟩:=roE_ok hr (i:=i) (by omega) (by omega) (fun j hj=>by rw[← hni]; exact hd j hj) (by omega)
     have e2:roL l=rroO l i:=e2
     rw[e1,e2,est]
     clear hd hO0 est
     generalize rroO l i=O at *
     simp only[lp_crot_0,wal,stV,seval,iteOmega,toNatUp,reduceCtorEq]
     exact ret_d2 (by simp only[wal,stV,seval,iteOmega,toNatUp,reduceCtorEq] <;> rfl) (by simp only[wal,stV,seval,iteOmega,toNatUp,reduceCtorEq])
  ·rw[decide_eq_false hr] at c1
   obtain⟨e1,e2⟩:=roE_no hr
   rw[e1,e2]
   unfold rgD at *
   simp only[sf_crot,putAll,wal,stV,seval,iteOmega,toNatUp,reduceCtorEq]
   refine sD (c1) ?_
   exact ret_d2 (by simp only[wal,stV,seval,iteOmega,toNatUp,reduceCtorEq] <;> rfl) (by simp only[wal,stV,seval,iteOmega,toNatUp,reduceCtorEq])
end Go.Proofs.YtpbmdbahkpfkdaaDoor
namespace Go.Proofs.YtpbmdbahkpfkdaaDoor
open Go.RowKit IntWalk
set_option maxHeartbeats 3200000
def kxP (l:List Fd) (id:Int):Int:=match ckW l id with | some i=>(i:Int) | none=>-1
def kxSt (l:List Fd) (g:Nat) (caps:List D) (i:Nat):St:=⟨ofL [(0,.w (.c (.d (.sl (l.map fdD))))),(1,.w (.c (.d (.fn g caps)))),(7,.w (.c (.d (.int .i64 (l.length:Int))))),(8,.w (.c (.d (.int .i64 (i:Int)))))],hL [],uL []⟩
def lp_cixf_0:SCode :=
 .seq (.reg [oO 9 (.bin .lss (.t 8) (.t 7))])
 (.seq (.cond (.t 9) (.skip)
 (.exit 0))
 (.seq (.block 1 (.seq (.reg [oM 10 8,
 oM 5 10])
 (.seq (.reg [oM 11 1,
 oM 12 0,
 oM 13 5,
 oO 14 (.idxSl 2 (.t 12) (.t 13)),
 oO 15 (.load (.ag 2) (.t 14)),
 oO 16 (.call 1000000007 [(.t 11),(.t 15)] none)])
 (.cond (.t 16) (.seq (.reg [oM 17 5,
 oM 4 17])
 (.ret))
 (.skip)))))
 (.reg [oO 18 (.bin .add (.t 8) (kI 1)),
 oM 8 18])))
def sf_cixf:SFn:=⟨2,19,
 .seq (.reg [oO 4 (.mv (kI 0))])
 (.seq (.seq (.reg [oM 6 0,
 oO 7 (.len (.t 6)),
 oO 8 (.mv (kI 0))])
 (.block 0 (.loop lp_cixf_0)))
 (.seq (.reg [oO 4 (.mv (.k (.c (.d (.int .i64 (-1))))))])
 (.ret))),
 [(4,none)]⟩
theorem cf_cixf:compFn Tryd.prog { own:=[],comp:=[],frz:=[],nils:=[] } Tryd.f29=some sf_cixf:=by kernel_rfl
theorem cixf_c (G:Glob) (l:List Fd) (g:Nat) (caps:List D) (id:Int) (hl:l.length≤9223372036854775807) (hp:∀ x:Fd,DenF Tryd.prog G g caps [fdD x] (.w (.c (.d (.bool (decide (x.ty=id))))))):Den Tryd.prog G 29 [.sl (l.map fdD),.fn g caps] (.w (.c (.d (.int .i64 (kxP l id))))):=by
  refine den_walk Tryd.func29 cf_cixf rfl rfl ?_
  simp only[sf_cixf,putAll,wal,stV,seval,iteOmega,toNatUp,reduceCtorEq]
  refine loop_st (kxSt l g caps) (fun i=>l.length-i) (fun i=>i≤l.length∧∀ j,j<i→(l.getD j default).ty≠id) 0 ⟨Nat.zero_le _,fun j hj=>by omega⟩ ?_ ?_
  ·refine ent_l (fun i=>0) ?_ ?_ rfl rfl <;> simp only[wx,wex,wez,stV,seval,iteOmega,toNatUp,reduceCtorEq] <;> rfl
  ·rintro i ⟨hi,hn⟩
   have haz:=allSz_fd l
   by_cases hlt:i<l.length
   ·have g1:=getF hlt
    have hd:=hp (l.getD i default)
    by_cases he:(l.getD i default).ty=id
    ·rw[decide_eq_true he] at hd
     have e:kxP l id=i:=by unfold kxP; rw[ckW_hit hlt he hn]
     rw[e]
     simp only[lp_cixf_0,kxSt,wal,stV,seval,iteOmega,toNatUp,reduceCtorEq,get_map,g1,haz]
     generalize l.getD i default=x at *
     refine st_callF hd (by simp only[wal,stV,seval,iteOmega,toNatUp,reduceCtorEq,fdD]) (.inl rfl) ?_
     simp only[wal,stV,seval,iteOmega,toNatUp,reduceCtorEq]
     exact qd1
    ·rw[decide_eq_false he] at hd
     have hn':∀ j,j<i+1→(l.getD j default).ty≠id:=fun j hj=>by
       rcases Nat.lt_or_ge j i with h | h
       ·exact hn j h
       ·obtain rfl:j=i:=by omega
        exact he
     simp only[lp_cixf_0,kxSt,wal,stV,seval,iteOmega,toNatUp,reduceCtorEq,get_map,g1,haz]
     generalize l.getD i default=x at *
     refine st_callF hd (by simp only[wal,stV,seval,iteOmega,toNatUp,reduceCtorEq,fdD]) (.inl rfl) ?_
     simp only[wal,stV,seval,iteOmega,toNatUp,reduceCtorEq]
     refine lop_next (i+1) (by omega) ⟨by omega,hn'⟩ (ent_l (fun i=>0) ?_ ?_ rfl rfl) <;> simp only[wx,wex,wez,stV,seval,iteOmega,toNatUp,reduceCtorEq]
   ·have e:kxP l id=-1:=by unfold kxP; rw[ckW_miss fun j hj=>hn j (by omega)]
    rw[e]
    simp only[lp_cixf_0,kxSt,wal,stV,seval,iteOmega,toNatUp,reduceCtorEq]
    exact qd1
def sf_cop1:SFn:=⟨2,8,
 .seq (.reg [oO 2 (.box .roBox (.t 0)),
 oO 3 (.mv (.k (.c (.d (.bool false)))))])
 (.seq (.reg [oO 4 (.fieldAddr 0 (.t 2)),
 oO 5 (.load .sc (.t 4)),
 oO 6 (.load .sc (.t 1)),
 oO 7 (.bin .eql (.t 5) (.t 6)),
 oM 3 7])
 (.ret)),
 [(3,none)]⟩
theorem cf_cop1:compFn Tryd.prog { own:=[],comp:=[],frz:=[],nils:=[] } Tryd.f30=some sf_cop1:=by kernel_rfl
theorem cop1_f (G:Glob) (id:Int) (x:Fd):DenF Tryd.prog G 30 [.ref [.int .i64 id]] [fdD x] (.w (.c (.d (.bool (decide (x.ty=id)))))):=by
  refine⟨enters_of Tryd.func30 (by kernel_rfl) rfl,?_⟩
  refine den_walkU Tryd.func30 cf_cop1 rfl rfl ?_
  unfold fdD
  by_cases h:x.ty=id
  ·rw[decide_eq_true h]
   simp only[sf_cop1,List.cons_append,List.nil_append,List.map_cons,List.map_nil,D.up,putW,wal,stV,seval,iteOmega,toNatUp,reduceCtorEq,h]
   exact qd1
  ·rw[decide_eq_false h]
   have g:(x.ty=id)=False:=eq_false h
   simp only[sf_cop1,List.cons_append,List.nil_append,List.map_cons,List.map_nil,D.up,putW,wal,stV,seval,iteOmega,toNatUp,reduceCtorEq,g]
   exact qd1
def sf_cmak:SFn:=⟨4,71,
 .seq (.reg [oO 4 (.box .roBox (.t 0)),
 oO 6 (.box .roBox (.t 2)),
 oO 8 (.mv (.k (.c .nil))),
 oO 9 (.mv (kI 0))])
 (.seq (.seq (.reg [oO 14 (.load (.ag 1) (.t 4)),
 oO 15 (.call 16 [(.t 14)] none),
 oO 16 (.un .not (.t 15))])
 (.cond (.t 16) (.seq (.reg [oO 8 (.mv (.k (.c .nil))),
 oO 9 (.mv (kI 3))])
 (.ret))
 (.skip)))
 (.seq (.seq (.reg [oM 17 1,
 oO 18 (.bin .lss (.t 17) (kI 0)),
 oM 19 18,
 oG 20 (.mv (.t 1)) 19 false,
 oG 21 (.bin .geq (.t 20) (kI 65536)) 19 false,
 oO 22 (.pick (.t 19) (.k (.c (.d (.bool true)))) (.t 21))])
 (.cond (.t 22) (.seq (.reg [oO 8 (.mv (.k (.c .nil))),
 oO 9 (.mv (kI 4))])
 (.ret))
 (.skip)))
 (.seq (.seq (.reg [oO 23 (.fieldAddr 0 (.t 6)),
 oO 24 (.load .sc (.t 23)),
 oO 25 (.len (.t 24)),
 oO 26 (.bin .neq (.t 25) (kI 32)),
 oM 27 26,
 oG 28 (.fieldAddr 1 (.t 6)) 27 false,
 oG 29 (.load .sc (.t 28)) 27 false,
 oG 30 (.len (.t 29)) 27 false,
 oG 31 (.bin .neq (.t 30) (kI 32)) 27 false,
 oO 32 (.pick (.t 27) (.k (.c (.d (.bool true)))) (.t 31))])
 (.cond (.t 32) (.seq (.reg [oO 8 (.mv (.k (.c .nil))),
 oO 9 (.mv (kI 5))])
 (.ret))
 (.skip)))
 (.seq (.seq (.reg [oM 33 3,
 oO 34 (.len (.t 33)),
 oO 35 (.bin .neq (.t 34) (kI 16))])
 (.cond (.t 35) (.seq (.reg [oO 8 (.mv (.k (.c .nil))),
 oO 9 (.mv (kI 3))])
 (.ret))
 (.skip)))
 (.seq (.reg [oO 36 (.fieldAddr 0 (.t 4)),
 oO 37 (.load .sc (.t 36)),
 oO 38 (.idxSl 2 (.t 37) (kI 0)),
 oO 39 (.fieldAddr 0 (.t 38)),
 oO 40 (.load .sc (.t 39)),
 oO 41 (.conv .u64 (.t 40)),
 oO 42 (.call 23 [(.t 41),(kI 4)] none),
 oM 10 42])
 (.seq (.reg [oM 43 1,
 oO 44 (.conv .u64 (.t 43)),
 oO 45 (.call 23 [(.t 44),(kI 2)] none),
 oO 46 (.call 23 [(.k (.c (.d (.int .u64 0)))),(kI 2)] none),
 oO 47 (.fieldAddr 0 (.t 6)),
 oO 48 (.load .sc (.t 47)),
 oO 49 (.fieldAddr 1 (.t 6)),
 oO 50 (.load .sc (.t 49)),
 oO 51 (.bldSl false 4 1 (.sl []) [(0,(.t 45)),(1,(.t 46)),(2,(.t 48)),(3,(.t 50))]),
 oO 52 (.call 24 [(.t 51)] none),
 oM 11 52])
 (.seq (.reg [oO 54 (.fieldAddr 0 (.t 4)),
 oO 55 (.load .sc (.t 54)),
 oO 56 (.idxSl 2 (.t 55) (kI 0)),
 oO 57 (.fieldAddr 1 (.t 56)),
 oO 58 (.load .sc (.t 57)),
 oM 59 10,
 oM 60 3,
 oO 61 (.bldSl false 2 1 (.sl []) [(0,(.t 59)),(1,(.t 60))]),
 oM 62 11,
 oO 63 (.call 25 [(.t 58),(.t 61),(.t 62)] none),
 oM 53 63,
 oO 64 (.extract (.t 53) 0),
 oO 65 (.extract (.t 53) 1),
 oM 12 64,
 oM 13 65])
 (.seq (.reg [oM 66 10,
 oM 67 3,
 oM 68 12,
 oO 69 (.bldSl false 3 1 (.sl []) [(0,(.t 66)),(1,(.t 67)),(2,(.t 68))]),
 oO 70 (.call 24 [(.t 69)] none),
 oM 8 70,
 oO 9 (.mv (kI 0))])
 (.ret))))))))),
 [(8,none),(9,none)]⟩
theorem cf_cmak:compFn Tryd.prog { own:=[],comp:=[],frz:=[],nils:=[] } Tryd.f9=some sf_cmak:=by kernel_rfl
theorem cmak_c (G:Glob) (l:List Fd) (algo:Int) (up dn nonce:List UInt8) (hl:l.length≤9223372036854775807):Den Tryd.prog G 9 [rgD l,.int .i64 algo,prD up dn,.sl (nonce.map bD)] (.tup [.c (.d (.sl ((mkB l algo up dn nonce).map bD))),.c (.d (.int .i64 (mkE l algo up dn nonce)))]):=by
  refine den_walk Tryd.func9 cf_cmak rfl rfl ?_
  have c1:=cvld_c G l hl
  by_cases hr:rgR l
  ·rw[decide_eq_true hr] at c1
   have e0:mkE l algo up dn nonce=if algo<0∨65535<algo then 4 else if up.length≠32∨dn.length≠32 then 5 else if nonce.length≠16 then 3 else 0:=if_pos hr
   rcases Int.lt_or_le algo 0 with h1 | h1
   ·have e:mkE l algo up dn nonce=4:=by rw[e0,if_pos (.inl h1)]
    rw[mkE_no e (by decide),e]
    unfold rgD prD at *
    simp only[sf_cmak,putAll,wal,stV,seval,iteOmega,toNatUp,reduceCtorEq]
    refine sD (c1) ?_
    exact qd2
   ·rcases Int.lt_or_le 65535 algo with h2 | h2
    ·have e:mkE l algo up dn nonce=4:=by rw[e0,if_pos (.inr h2)]
     have g2:(algo≥65536)=True:=eq_true (by omega)
     rw[mkE_no e (by decide),e]
     unfold rgD prD at *
     simp only[sf_cmak,putAll,wal,stV,seval,iteOmega,toNatUp,reduceCtorEq]
     refine sC (c1) ?_
     simp only[g2,wal,stV,seval,iteOmega,toNatUp,reduceCtorEq]
     exact qd2
    ·have g2:(algo≥65536)=False:=eq_false (by omega)
     rw[if_neg (by omega)] at e0
     by_cases h3:up.length=32
     ·by_cases h4:dn.length=32
      ·rw[if_neg (by omega)] at e0
       by_cases h5:nonce.length=16
       ·rw[if_neg (by omega)] at e0
        have eB:mkB l algo up dn nonce=ckB (l.getD 0 default) algo up dn nonce:=if_pos e0
        rw[e0,eB]
        have g0:=getF (l:=l) (i:=0) (by have:=hr.1; omega)
        obtain⟨⟨m1,m2,m3⟩,_⟩:=rgR_at hr (i:=0) (by have:=hr.1; omega)
        have r1:=hr.1
        clear e0 eB
        generalize l.getD 0 default=m at *
        have hp:=ckP_len algo h3 h4
        have hi:(ckI m).length=4:=putL_length _ _
        have ha:aeE m.da [ckI m,nonce] ((ckP algo up dn).length:Int)=0:=aeE_zero m3 (by simp) (fun x hx=>by simp at hx; rcases hx with rfl | rfl <;> omega) (by omega)
        have hs:(sealV m.da [ckI m,nonce] (ckP algo up dn)).length=84:=by rw[sealV_ok ha,List.length_append,tagM_len,strS_len,hp]
        have d1:=putk_c G m.ty.toNat 4 (by decide)
        rw[show (4:Int).toNat=4 from rfl,show putL m.ty.toNat 4=ckI m from rfl,show ((m.ty.toNat:Nat):Int)=m.ty by omega] at d1
        have d2:=putk_c G algo.toNat 2 (by decide)
        rw[show (2:Int).toNat=2 from rfl,show ((algo.toNat:Nat):Int)=algo by omega] at d2
        have d0:=putk_c G 0 2 (by decide)
        rw[show putL 0 (2:Int).toNat=[0,0] from by decide] at d0
        have d3:=join_c G [putL algo.toNat 2,[0,0],up,dn] (by simp) (by rw[ckP_flat]; omega)
        rw[ckP_flat] at d3
        have d4:=seal_c G m.da [ckI m,nonce] (ckP algo up dn) (by omega) (by simp) (fun x hx=>by simp at hx; rcases hx with rfl | rfl <;> omega) (by omega)
        rw[ha] at d4
        have d5:=join_c G [ckI m,nonce,sealV m.da [ckI m,nonce] (ckP algo up dn)] (by simp) (by simp only[List.flatten_cons,List.flatten_nil,List.length_append,List.length_nil,hi,h5,hs]; omega)
        rw[ck_flat] at d5
        unfold sls at d4
        generalize ckB m algo up dn nonce=B at *
        generalize sealV m.da [ckI m,nonce] (ckP algo up dn)=S at *
        generalize ckP algo up dn=P at *
        generalize ckI m=I at *
        generalize putL algo.toNat 2=A at *
        simp only[List.map_cons,List.map_nil] at d0 d3 d4 d5
        have haz:=allSz_fd l
        unfold rgD prD at *
        simp only[sf_cmak,putAll,wal,stV,seval,iteOmega,toNatUp,reduceCtorEq]
        refine sC (c1) ?_
        simp only[g2,h3,h4,h5,get_map,g0,haz,fdD,wal,stV,seval,iteOmega,toNatUp,reduceCtorEq]
        refine sD (d1) ?_
        refine sD (d2) ?_
        refine sD (d0) ?_
        refine st_call d3 (by simp only[wal,stV,seval,iteOmega,toNatUp,reduceCtorEq] <;> rfl) (.inl rfl) ?_
        simp only[wal,stV,seval,iteOmega,toNatUp,reduceCtorEq,get_map,g0,haz,fdD]
        refine sD (d4) ?_
        refine sD (d5) ?_
        exact qd2
       ·rw[if_pos h5] at e0
        rw[mkE_no e0 (by decide),e0]
        unfold rgD prD at *
        simp only[sf_cmak,putAll,wal,stV,seval,iteOmega,toNatUp,reduceCtorEq]
        refine sC (c1) ?_
        simp only[g2,h3,h4,wal,stV,seval,iteOmega,toNatUp,reduceCtorEq]
        exact qd2
      ·have e:mkE l algo up dn nonce=5:=by rw[e0,if_pos (.inr h4)]
       rw[mkE_no e (by decide),e]
       unfold rgD prD at *
       simp only[sf_cmak,putAll,wal,stV,seval,iteOmega,toNatUp,reduceCtorEq]
       refine sC (c1) ?_
       simp only[g2,h3,wal,stV,seval,iteOmega,toNatUp,reduceCtorEq]
       exact qd2
     ·have e:mkE l algo up dn nonce=5:=by rw[e0,if_pos (.inl h3)]
      rw[mkE_no e (by decide),e]
      unfold rgD prD at *
      simp only[sf_cmak,putAll,wal,stV,seval,iteOmega,toNatUp,reduceCtorEq]
      refine sC (c1) ?_
      simp only[g2,wal,stV,seval,iteOmega,toNatUp,reduceCtorEq]
      exact qd2
  ·rw[decide_eq_false hr] at c1
   have e:mkE l algo up dn nonce=3:=if_neg hr
   rw[mkE_no e (by decide),e]
   unfold rgD prD at *
   simp only[sf_cmak,putAll,wal,stV,seval,iteOmega,toNatUp,reduceCtorEq]
   refine sD (c1) ?_
   exact qd2
end Go.Proofs.YtpbmdbahkpfkdaaDoor
namespace Go.Proofs.YtpbmdbahkpfkdaaDoor
open Go.RowKit IntWalk
theorem kxP_at {l:List Fd} {id:Int} {i:Nat} (h:ckW l id=some i):kxP l id=(i:Int):=by unfold kxP; rw[h]
theorem kxP_no {l:List Fd} {id:Int} (h:ckW l id=none):kxP l id=-1:=by unfold kxP; rw[h]
theorem ckW_at {l:List Fd} {id:Int} {i:Nat} (h:ckW l id=some i):i<l.length:=by
  unfold ckW at h
  rw[List.findIdx?_eq_some_iff_getElem] at h
  exact h.1
def sf_copk:SFn:=⟨2,63,
 .seq (.reg [oO 2 (.box .roBox (.t 0)),
 oO 4 (.mv (kI 0)),
 oO 5 (.alloc [.nil,.nil]),
 oO 6 (.mv (kI 0)),
 oO 7 (.mv (kI 0))])
 (.seq (.seq (.reg [oO 11 (.load (.ag 1) (.t 2)),
 oO 12 (.call 16 [(.t 11)] none),
 oO 13 (.un .not (.t 12))])
 (.cond (.t 13) (.seq (.reg [oO 14 (.build [.nil,.nil] []),
 oO 4 (.mv (kI 0)),
 oN (.store (.ag 2) (.t 5) (.t 14)),
 oO 6 (.mv (kI 0)),
 oO 7 (.mv (kI 3))])
 (.ret))
 (.skip)))
 (.seq (.reg [oM 16 1,
 oO 17 (.call 12 [(.t 16)] none),
 oM 15 17,
 oO 18 (.extract (.t 15) 0),
 oO 19 (.extract (.t 15) 1),
 oO 8 (.alloc [(.d (.int .i64 0))]),
 oN (.store .sc (.t 8) (.t 18)),
 oM 7 19])
 (.seq (.seq (.reg [oM 20 7,
 oO 21 (.bin .neq (.t 20) (kI 0))])
 (.cond (.t 21) (.seq (.reg [oO 22 (.build [.nil,.nil] []),
 oM 23 7,
 oO 4 (.mv (kI 0)),
 oN (.store (.ag 2) (.t 5) (.t 22)),
 oO 6 (.mv (kI 0)),
 oM 7 23])
 (.ret))
 (.skip)))
 (.seq (.reg [oO 24 (.fieldAddr 0 (.t 2)),
 oO 25 (.load .sc (.t 24)),
 oO 26 (.closM 30 [] [(.t 8)]),
 oO 27 (.call 29 [(.t 25),(.t 26)] none),
 oM 6 27])
 (.seq (.seq (.reg [oM 28 6,
 oO 29 (.bin .lss (.t 28) (kI 0))])
 (.cond (.t 29) (.seq (.reg [oO 30 (.build [.nil,.nil] []),
 oO 4 (.mv (kI 0)),
 oN (.store (.ag 2) (.t 5) (.t 30)),
 oO 6 (.mv (kI 0)),
 oO 7 (.mv (kI 5))])
 (.ret))
 (.skip)))
 (.seq (.reg [oO 32 (.fieldAddr 0 (.t 2)),
 oO 33 (.load .sc (.t 32)),
 oM 34 6,
 oO 35 (.idxSl 2 (.t 33) (.t 34)),
 oO 36 (.fieldAddr 1 (.t 35)),
 oO 37 (.load .sc (.t 36)),
 oM 38 1,
 oO 39 (.slice 1 (.t 38) none (some (kI 4)) none),
 oM 40 1,
 oO 41 (.slice 1 (.t 40) (some (kI 4)) (some (kI 20)) none),
 oO 42 (.bldSl false 2 1 (.sl []) [(0,(.t 39)),(1,(.t 41))]),
 oM 43 1,
 oO 44 (.slice 1 (.t 43) (some (kI 20)) none none),
 oO 45 (.call 31 [(.t 37),(.t 42),(.t 44)] none),
 oM 31 45,
 oO 46 (.extract (.t 31) 0),
 oO 47 (.extract (.t 31) 1),
 oM 9 46,
 oM 7 47])
 (.seq (.seq (.reg [oM 48 7,
 oO 49 (.bin .neq (.t 48) (kI 0))])
 (.cond (.t 49) (.seq (.reg [oO 50 (.build [.nil,.nil] []),
 oO 4 (.mv (kI 0)),
 oN (.store (.ag 2) (.t 5) (.t 50)),
 oO 6 (.mv (kI 0)),
 oO 7 (.mv (kI 6))])
 (.ret))
 (.skip)))
 (.seq (.reg [oM 52 9,
 oO 53 (.call 32 [(.t 52)] none),
 oM 51 53,
 oO 54 (.extract (.t 51) 0),
 oO 55 (.extract (.t 51) 1),
 oO 56 (.extract (.t 51) 2),
 oM 4 54,
 oN (.store (.ag 2) (.t 5) (.t 55)),
 oM 10 56])
 (.seq (.seq (.reg [oM 57 10,
 oO 58 (.un .not (.t 57))])
 (.cond (.t 58) (.seq (.reg [oO 59 (.build [.nil,.nil] []),
 oO 4 (.mv (kI 0)),
 oN (.store (.ag 2) (.t 5) (.t 59)),
 oO 6 (.mv (kI 0)),
 oO 7 (.mv (kI 6))])
 (.ret))
 (.skip)))
 (.seq (.reg [oM 60 4,
 oO 61 (.load (.ag 2) (.t 5)),
 oM 62 6,
 oM 4 60,
 oN (.store (.ag 2) (.t 5) (.t 61)),
 oM 6 62,
 oO 7 (.mv (kI 0))])
 (.ret))))))))))),
 [(4,none),(5,(some (.ag 2))),(6,none),(7,none)]⟩
theorem cf_copk:compFn Tryd.prog { own:=[],comp:=[],frz:=[],nils:=[],mt:=[26] } Tryd.f11=some sf_copk:=by kernel_rfl
set_option maxHeartbeats 3200000 in
theorem copk_c (G:Glob) (l:List Fd) (c:List UInt8) (hl:l.length≤9223372036854775807) (hcl:c.length≤9223372036854775807):Den Tryd.prog G 11 [rgD l,.sl (c.map bD)] (.tup [.c (.d (.int .i64 (coR l c).al)),.c (.d (prD (coR l c).up (coR l c).dn)),.c (.d (.int .i64 (coR l c).ag)),.c (.d (.int .i64 (coE l c)))]):=by
  refine den_walk Tryd.func11 cf_copk rfl rfl ?_
  have c1:=cvld_c G l hl
  by_cases hr:rgR l
  ·rw[decide_eq_true hr] at c1
   have c2:=cidc_c G c hcl
   by_cases hc:c.length=104
   ·have ci:ciE c=0:=if_neg (by omega)
    rw[ci] at c2
    have c3:=cixf_c G l 30 [.ref [.int .i64 (ciN c)]] (ciN c) hl (fun x=>cop1_f G (ciN c) x)
    have haz:=allSz_fd l
    rcases hw:ckW l (ciN c) with _ | i
    ·have e:coE l c=5:=by unfold coE; rw[if_pos hr,if_neg (by omega),hw]
     rw[coE_no e (by decide),e]
     rw[kxP_no hw] at c3
     generalize ciN c=n at *
     unfold rgD prD at *
     simp only[sf_copk,putAll,wal,stV,seval,iteOmega,toNatUp,reduceCtorEq]
     refine sD (c1) ?_
     refine sC (c2) ?_
     simp only[wmm,wal,stV,seval,iteOmega,toNatUp,reduceCtorEq]
     refine st_call c3 (by simp only[wal,stV,seval,iteOmega,toNatUp,reduceCtorEq] <;> rfl) (.inr rfl) ?_
     simp only[wal,stV,seval,iteOmega,toNatUp,reduceCtorEq]
     exact ret_4 (by simp only[wal,stV,seval,iteOmega,toNatUp,reduceCtorEq] <;> rfl) (by simp only[wal,stV,seval,iteOmega,toNatUp,reduceCtorEq] <;> rfl) (by simp only[wal,stV,seval,iteOmega,toNatUp,reduceCtorEq] <;> rfl) (by simp only[wal,stV,seval,iteOmega,toNatUp,reduceCtorEq] <;> rfl)
    ·have hi:=ckW_at hw
     have g:=getF hi
     have ce:=coE_hit hr hc hw
     obtain⟨⟨m1,m2,m3⟩,_⟩:=rgR_at hr hi
     rw[kxP_at hw] at c3
     have c4:=opn_c G (l.getD i default).da [cutN c 0 4,cutN c 4 16] (c.drop 20) (by omega) (by simp) (fun x hx=>by simp at hx; rcases hx with rfl | rfl <;> (rw[cutN_len (by omega)]; decide)) (by simp; omega)
     rw[show opnE (l.getD i default).da [cutN c 0 4,cutN c 4 16] (c.drop 20)=coX (l.getD i default) c from rfl,show opnV (l.getD i default).da [cutN c 0 4,cutN c 4 16] (c.drop 20)=coV (l.getD i default) c from rfl] at c4
     unfold sls at c4
     simp only[List.map_cons,List.map_nil] at c4
     have t1:c.take 4=cutN c 0 4:=rfl
     have t2:(c.drop 4).take (20-4)=cutN c 4 16:=rfl
     have t3:(c.drop 20).take 84=c.drop 20:=List.take_of_length_le (by simp; omega)
     have hok:coOk (l.getD i default) c↔coX (l.getD i default) c=0∧(coV (l.getD i default) c).getD 2 0=0∧(coV (l.getD i default) c).getD 3 0=0:=Iff.rfl
     have hR:coE l c=0→coR l c=⟨(getN (cutN (coV (l.getD i default) c) 0 2):Int),cutN (coV (l.getD i default) c) 4 32,cutN (coV (l.getD i default) c) 36 32,(i:Int)⟩:=fun h=>by
       unfold coR
       rw[if_pos h,hw]
       rfl
     have hVl:=fun h=>coV_len (m:=l.getD i default) hc h
     have hi0:0≤(i:Int):=by omega
     generalize coV (l.getD i default) c=V at *
     by_cases x0:coX (l.getD i default) c=0
     ·have hVl:=hVl x0
      have c5:=ccon_c G V hVl
      rw[x0] at c4
      by_cases y:V.getD 2 0=0∧V.getD 3 0=0
      ·have e0:coE l c=0:=by rw[ce,if_pos (hok.2 ⟨x0,y⟩)]
       rw[hR e0,e0]
       rw[if_pos y] at c5
       clear hR ce e0 hok
       generalize cutN V 4 32=U1 at *
       generalize cutN V 36 32=U2 at *
       generalize getN (cutN V 0 2)=al at *
       generalize hx:l.getD i default=x at *
       generalize ciN c=n at *
       generalize cutN c 0 4=D0 at *
       generalize cutN c 4 16=D1 at *
       unfold rgD prD at *
       simp only[sf_copk,putAll,wal,stV,seval,iteOmega,toNatUp,reduceCtorEq]
       refine sD (c1) ?_
       refine sC (c2) ?_
       simp only[wmm,wal,stV,seval,iteOmega,toNatUp,reduceCtorEq]
       refine st_call c3 (by simp only[wal,stV,seval,iteOmega,toNatUp,reduceCtorEq] <;> rfl) (.inr rfl) ?_
       simp only[wal,stV,seval,iteOmega,toNatUp,reduceCtorEq,get_map,g,haz,fdD,hc,t1,t2,t3]
       refine st_call c4 (by simp only[wal,stV,seval,iteOmega,toNatUp,reduceCtorEq]) (.inl rfl) ?_
       simp only[wal,stV,seval,iteOmega,toNatUp,reduceCtorEq]
       refine sD (c5) ?_
       exact ret_4 (by simp only[wal,stV,seval,iteOmega,toNatUp,reduceCtorEq] <;> rfl) (by simp only[wal,stV,seval,iteOmega,toNatUp,reduceCtorEq] <;> rfl) (by simp only[wal,stV,seval,iteOmega,toNatUp,reduceCtorEq] <;> rfl) (by simp only[wal,stV,seval,iteOmega,toNatUp,reduceCtorEq] <;> rfl)
      ·have e6:coE l c=6:=by rw[ce,if_neg (fun h=>y (hok.1 h).2)]
       rw[coE_no e6 (by decide),e6]
       rw[if_neg y] at c5
       clear hR ce e6 hok
       generalize hx:l.getD i default=x at *
       generalize ciN c=n at *
       generalize cutN c 0 4=D0 at *
       generalize cutN c 4 16=D1 at *
       unfold rgD prD at *
       simp only[sf_copk,putAll,wal,stV,seval,iteOmega,toNatUp,reduceCtorEq]
       refine sD (c1) ?_
       refine sC (c2) ?_
       simp only[wmm,wal,stV,seval,iteOmega,toNatUp,reduceCtorEq]
       refine st_call c3 (by simp only[wal,stV,seval,iteOmega,toNatUp,reduceCtorEq] <;> rfl) (.inr rfl) ?_
       simp only[wal,stV,seval,iteOmega,toNatUp,reduceCtorEq,get_map,g,haz,fdD,hc,t1,t2,t3]
       refine st_call c4 (by simp only[wal,stV,seval,iteOmega,toNatUp,reduceCtorEq]) (.inl rfl) ?_
       simp only[wal,stV,seval,iteOmega,toNatUp,reduceCtorEq]
       refine sD (c5) ?_
       exact ret_4 (by simp only[wal,stV,seval,iteOmega,toNatUp,reduceCtorEq] <;> rfl) (by simp only[wal,stV,seval,iteOmega,toNatUp,reduceCtorEq] <;> rfl) (by simp only[wal,stV,seval,iteOmega,toNatUp,reduceCtorEq] <;> rfl) (by simp only[wal,stV,seval,iteOmega,toNatUp,reduceCtorEq] <;> rfl)
     ·have g1:(coX (l.getD i default) c=0)=False:=eq_false x0
      have e6:coE l c=6:=by rw[ce,if_neg (fun h=>x0 (hok.1 h).1)]
      rw[coE_no e6 (by decide),e6]
      clear hR ce e6 hok
      generalize coX (l.getD i default) c=xe at *
      generalize hx:l.getD i default=x at *
      generalize ciN c=n at *
      generalize cutN c 0 4=D0 at *
      generalize cutN c 4 16=D1 at *
      unfold rgD prD at *
      simp only[sf_copk,putAll,wal,stV,seval,iteOmega,toNatUp,reduceCtorEq]
      refine sD (c1) ?_
      refine sC (c2) ?_
      simp only[wmm,wal,stV,seval,iteOmega,toNatUp,reduceCtorEq]
      refine st_call c3 (by simp only[wal,stV,seval,iteOmega,toNatUp,reduceCtorEq] <;> rfl) (.inr rfl) ?_
      simp only[wal,stV,seval,iteOmega,toNatUp,reduceCtorEq,get_map,g,haz,fdD,hc,t1,t2,t3]
      refine st_call c4 (by simp only[wal,stV,seval,iteOmega,toNatUp,reduceCtorEq]) (.inl rfl) ?_
      simp only[wal,stV,seval,iteOmega,toNatUp,reduceCtorEq,g1]
      exact ret_4 (by simp only[wal,stV,seval,iteOmega,toNatUp,reduceCtorEq] <;> rfl) (by simp only[wal,stV,seval,iteOmega,toNatUp,reduceCtorEq] <;> rfl) (by simp only[wal,stV,seval,iteOmega,toNatUp,reduceCtorEq] <;> rfl) (by simp only[wal,stV,seval,iteOmega,toNatUp,reduceCtorEq] <;> rfl)
   ·have e:coE l c=3:=by unfold coE; rw[if_pos hr,if_pos hc]
    have ci:ciE c=3:=if_pos hc
    rw[ci] at c2
    rw[coE_no e (by decide),e]
    unfold rgD prD at *
    simp only[sf_copk,putAll,wal,stV,seval,iteOmega,toNatUp,reduceCtorEq]
    refine sD (c1) ?_
    refine sD (c2) ?_
    exact ret_4 (by simp only[wal,stV,seval,iteOmega,toNatUp,reduceCtorEq] <;> rfl) (by simp only[wal,stV,seval,iteOmega,toNatUp,reduceCtorEq] <;> rfl) (by simp only[wal,stV,seval,iteOmega,toNatUp,reduceCtorEq] <;> rfl) (by simp only[wal,stV,seval,iteOmega,toNatUp,reduceCtorEq] <;> rfl)
  ·rw[decide_eq_false hr] at c1
   have e:coE l c=3:=if_neg hr
   rw[coE_no e (by decide),e]
   unfold rgD prD at *
   simp only[sf_copk,putAll,wal,stV,seval,iteOmega,toNatUp,reduceCtorEq]
   refine sD (c1) ?_
   exact ret_4 (by simp only[wal,stV,seval,iteOmega,toNatUp,reduceCtorEq] <;> rfl) (by simp only[wal,stV,seval,iteOmega,toNatUp,reduceCtorEq] <;> rfl) (by simp only[wal,stV,seval,iteOmega,toNatUp,reduceCtorEq] <;> rfl) (by simp only[wal,stV,seval,iteOmega,toNatUp,reduceCtorEq] <;> rfl)
end Go.Proofs.YtpbmdbahkpfkdaaDoor
namespace Go.Proofs.YtpbmdbahkpfkdaaDoor
open Go.RowKit IntWalk
def k19 (z:List UInt8) (i:Nat):List Fd:=rgN 7 z i
def k19St (z c:List UInt8) (al:Int) (up dn:List UInt8) (i:Nat):St:=⟨ofL [(1,.w (.c (.ptr 1 1 0 0))),(2,.w (.c (.d (.int .i64 0)))),(3,.w (.c (.d (.sl (c.map bD))))),(4,.w (.c (.d (.int .i64 0)))),(5,.w (.c (.d (.int .i64 al)))),(6,.w (.c (.ptr 2 1 0 0))),(7,.w (.c (.d (.int .i64 0)))),(8,.w (.c (.d (.int .i64 0)))),(9,.w (.c (.d (.int .i64 (i:Int)))))],
  hL [(1,.box [.d (.sl ((k19 z i).map fdD))]),(2,.box [.d (.sl (up.map bD)),.d (.sl (dn.map bD))])],uL [1,2]⟩
def lp_known19_0:SCode :=
 .seq (.seq (.reg [oM 34 9,
 oO 35 (.bin .lss (.t 34) (kI 4))])
 (.cond (.t 35) (.skip)
 (.exit 0)))
 (.seq (.block 1 (.reg [oO 39 (.load (.ag 1) (.t 1)),
 oO 40 (.call 15 [(.t 39)] none),
 oM 38 40,
 oO 41 (.extract (.t 38) 0),
 oO 42 (.extract (.t 38) 1),
 oN (.store (.ag 1) (.t 1) (.t 41))]))
 (.reg [oM 36 9,
 oO 37 (.bin .add (.t 36) (kI 1)),
 oM 9 37]))
def sf_known19:SFn:=⟨0,83,
 .seq (.reg [oO 0 (.mv (.k (.c (.d (.bool false)))))])
 (.seq (.reg [oO 15 (.make false 1 1 (.int .u8 0) (kI 32) (kI 32)),
 oO 16 (.call 17 [(kI 7),(.t 15)] none),
 oM 14 16,
 oO 17 (.extract (.t 14) 0),
 oO 18 (.extract (.t 14) 1),
 oO 1 (.alloc [.nil]),
 oN (.store (.ag 1) (.t 1) (.t 17)),
 oM 2 18])
 (.seq (.reg [oO 20 (.load (.ag 1) (.t 1)),
 oO 21 (.call 8 [(kI 1)] none),
 oO 22 (.make false 1 1 (.int .u8 0) (kI 16) (kI 16)),
 oO 23 (.call 9 [(.t 20),(kI 15),(.t 21),(.t 22)] none),
 oM 19 23,
 oO 24 (.extract (.t 19) 0),
 oO 25 (.extract (.t 19) 1),
 oM 3 24,
 oM 4 25])
 (.seq (.reg [oO 27 (.load (.ag 1) (.t 1)),
 oM 28 3,
 oO 29 (.call 11 [(.t 27),(.t 28)] none),
 oM 26 29,
 oO 30 (.extract (.t 26) 0),
 oO 31 (.extract (.t 26) 1),
 oO 32 (.extract (.t 26) 2),
 oO 33 (.extract (.t 26) 3),
 oO 6 (.alloc [.nil,.nil]),
 oM 5 30,
 oN (.store (.ag 2) (.t 6) (.t 31)),
 oM 7 32,
 oM 8 33])
 (.seq (.seq (.reg [oO 9 (.mv (kI 0))])
 (.block 0 (.loop lp_known19_0)))
 (.seq (.reg [oO 44 (.load (.ag 1) (.t 1)),
 oM 45 3,
 oO 46 (.call 11 [(.t 44),(.t 45)] none),
 oM 43 46,
 oO 47 (.extract (.t 43) 0),
 oO 48 (.extract (.t 43) 1),
 oO 49 (.extract (.t 43) 2),
 oO 50 (.extract (.t 43) 3),
 oO 11 (.alloc [.nil,.nil]),
 oM 10 47,
 oN (.store (.ag 2) (.t 11) (.t 48)),
 oM 12 49,
 oM 13 50])
 (.seq (.reg [oM 51 2,
 oO 52 (.bin .eql (.t 51) (kI 0)),
 oM 53 52,
 oG 54 (.mv (.t 4)) 53 true,
 oG 55 (.bin .eql (.t 54) (kI 0)) 53 true,
 oO 56 (.pick (.t 53) (.t 55) (.k (.c (.d (.bool false))))),
 oM 57 56,
 oG 58 (.mv (.t 8)) 57 true,
 oG 59 (.bin .eql (.t 58) (kI 0)) 57 true,
 oO 60 (.pick (.t 57) (.t 59) (.k (.c (.d (.bool false))))),
 oM 61 60,
 oG 62 (.mv (.t 13)) 61 true,
 oG 63 (.bin .eql (.t 62) (kI 5)) 61 true,
 oO 64 (.pick (.t 61) (.t 63) (.k (.c (.d (.bool false))))),
 oM 65 64,
 oG 66 (.mv (.t 3)) 65 true,
 oG 67 (.len (.t 66)) 65 true,
 oG 68 (.bin .eql (.t 67) (kI 104)) 65 true,
 oO 69 (.pick (.t 65) (.t 68) (.k (.c (.d (.bool false))))),
 oM 70 69,
 oG 71 (.mv (.t 5)) 70 true,
 oG 72 (.bin .eql (.t 71) (kI 15)) 70 true,
 oO 73 (.pick (.t 70) (.t 72) (.k (.c (.d (.bool false))))),
 oM 74 73,
 oG 75 (.mv (.t 7)) 74 true,
 oG 76 (.bin .eql (.t 75) (kI 0)) 74 true,
 oO 77 (.pick (.t 74) (.t 76) (.k (.c (.d (.bool false))))),
 oM 78 77,
 oG 79 (.load (.ag 2) (.t 6)) 78 true,
 oG 80 (.call 8 [(kI 1)] none) 78 true,
 oG 81 (.call 14 [(.t 79),(.t 80)] none) 78 true,
 oO 82 (.pick (.t 78) (.t 81) (.k (.c (.d (.bool false))))),
 oM 0 82])
 (.ret))))))),
 [(0,none)]⟩
theorem cf_known19:compFn Tryd.prog { own:=[],comp:=[],frz:=[15,22],nils:=[] } Tryd.f13=some sf_known19:=by kernel_rfl
set_option maxHeartbeats 1600000 in
theorem known19_c (G:Glob) (hF:G.at 0=some (.ra (firstK.map wD))) (hG:G.at 1=some (.ra (constK.map wD))):Den Tryd.prog G 13 [] (.w (.c (.d (.bool true)))):=by
  refine den_walk Tryd.func13 cf_known19 rfl rfl ?_
  have zl:(List.replicate 32 (0:UInt8)).length=32:=by simp
  have nl:(List.replicate 16 (0:UInt8)).length=16:=by simp
  obtain⟨q1,q2⟩:=rgN_start 7 (List.replicate 32 0) (by decide) zl
  have c1:=csta_c G hF hG 7 (List.replicate 32 0) (by simp)
  rw[show ((7:Nat):Int)=7 from rfl] at q1 q2
  rw[q1,q2] at c1
  have c2:=wpr_c G 1
  obtain⟨m1,m2⟩:=mk_ok (s:=7) (t:=0) (seed:=List.replicate 32 0) (algo:=15) (up:=wpU 1) (dn:=wpV 1) (n:=List.replicate 16 0) (by decide) (by decide) (by decide) (wpU_len _) (wpV_len _) nl
  have c3:=cmak_c G (rgN 7 (List.replicate 32 0) 0) 15 (wpU 1) (wpV 1) (List.replicate 16 0) (by rw[rgN_len]; decide)
  rw[m1,m2] at c3
  have kl:=ck_len (s:=7) (k:=0) (seed:=List.replicate 32 0) (algo:=15) (up:=wpU 1) (dn:=wpV 1) (n:=List.replicate 16 0) (by decide) (by decide) (by decide) (wpU_len _) (wpV_len _) nl
  obtain⟨_,o1,_⟩:=open_at (s:=7) (t:=0) (k:=0) (seed:=List.replicate 32 0) (algo:=15) (up:=wpU 1) (dn:=wpV 1) (n:=List.replicate 16 0) (by decide) (by decide) (by decide) (by decide) (wpU_len _) (wpV_len _) nl
  obtain⟨o2,o3⟩:=o1 (by decide)
  obtain⟨_,_,p1⟩:=open_at (s:=7) (t:=4) (k:=0) (seed:=List.replicate 32 0) (algo:=15) (up:=wpU 1) (dn:=wpV 1) (n:=List.replicate 16 0) (by decide) (by decide) (by decide) (by decide) (wpU_len _) (wpV_len _) nl
  obtain⟨p2,p3⟩:=p1 (by decide)
  have c4:=copk_c G (rgN 7 (List.replicate 32 0) 0) (ckB (hdR' 7 (List.replicate 32 0) 0) 15 (wpU 1) (wpV 1) (List.replicate 16 0)) (by rw[rgN_len]; decide) (by omega)
  rw[o2,o3] at c4
  have c5:=copk_c G (rgN 7 (List.replicate 32 0) 4) (ckB (hdR' 7 (List.replicate 32 0) 0) 15 (wpU 1) (wpV 1) (List.replicate 16 0)) (by rw[rgN_len]; decide) (by omega)
  rw[p2,p3] at c5
  have hstep:∀ i,i<4→Den Tryd.prog G _ [rgD (rgN 7 (List.replicate 32 0) i)] (.tup [.c (.d (rgD (rgN 7 (List.replicate 32 0) (i+1)))),.c (.d (.int .i64 0))]):=fun i hi=>by
    have c:=crot_c G hF hG (rgN 7 (List.replicate 32 0) i) (by rw[rgN_len]; omega)
    obtain⟨a,b⟩:=rgN_next (s:=7) (seed:=List.replicate 32 0) (t:=i) (by omega)
    rw[a,b] at c
    exact c
  have c6:=spr_c G (wpU 1) (wpV 1)
  clear q1 q2 m1 m2 o1 o2 o3 p1 p2 p3
  dsimp only at c4 c5
  generalize ckB (hdR' 7 (List.replicate 32 0) 0) 15 (wpU 1) (wpV 1) (List.replicate 16 0)=C at *
  unfold rgD prD at *
  simp only[sf_known19,putAll,wal,stV,seval,iteOmega,toNatUp,reduceCtorEq]
  refine st_call c1 (by simp only[wal,stV,seval,iteOmega,toNatUp,reduceCtorEq,rep_b] <;> rfl) (.inl rfl) ?_
  simp only[wal,stV,seval,iteOmega,toNatUp,reduceCtorEq]
  refine sD (c2) ?_
  refine st_call c3 (by simp only[wal,stV,seval,iteOmega,toNatUp,reduceCtorEq,rep_b] <;> rfl) (.inl rfl) ?_
  simp only[wal,stV,seval,iteOmega,toNatUp,reduceCtorEq]
  refine sD (c4) ?_
  refine loop_st (k19St (List.replicate 32 0) C 15 (wpU 1) (wpV 1)) (fun i=>4-i) (fun i=>i≤4) 0 (Nat.zero_le _) ?_ ?_
  ·refine ent_l (fun i=>if i=1 then 8 else 48) ?_ ?_ rfl rfl <;> simp only[wx,wex,wez,stV,seval,iteOmega,toNatUp,reduceCtorEq] <;> first | rfl | skip
  ·intro i hi
   by_cases hlt:i<4
   ·have c:=hstep i hlt
    simp only[lp_known19_0,k19St,k19,wal,stV,seval,iteOmega,toNatUp,reduceCtorEq]
    refine sD (c) ?_
    refine lop_next (i+1) (by omega) (by omega) (ent_l (fun i=>i) ?_ ?_ rfl rfl) <;> simp only[wx,wex,wez,stV,seval,iteOmega,toNatUp,reduceCtorEq] <;> try rfl
   ·obtain rfl:i=4:=by omega
    simp only[lp_known19_0,k19St,k19,wal,stV,seval,iteOmega,toNatUp,reduceCtorEq]
    refine sD (c5) ?_
    refine sC (c2) ?_
    simp only[kl,wal,stV,seval,iteOmega,toNatUp,reduceCtorEq]
    refine sD (c6) ?_
    exact qd1
end Go.Proofs.YtpbmdbahkpfkdaaDoor
namespace Go.Proofs.YtpbmdbahkpfkdaaDoor
open Go.RowKit IntWalk
def craSt (s:Nat) (K:List UInt8) (T nonce:Int) (i:Nat):St:=⟨ofL [(0,.w (.c (.d (.int .i64 (s:Int))))),(1,.w (.c (.d (.int .i64 T)))),(2,.w (.c (.d (.int .i64 nonce)))),(7,.w (.c (.ptr 1 1 0 0))),(8,.w (.c (.d (.int .i64 0)))),(9,.w (.c (.ptr 2 1 0 0))),(10,.w (.c (.d (.int .i64 0)))),(11,.w (.c (.d (.int .i64 (i:Int)))))],
  hL [(1,.box [.d (.sl ((rgN s K i).map fdD))]),(2,.box [.d (.sl ((rgN s K i).map fdD))])],uL [1,2]⟩
def lp_cagr_0:SCode :=
 .seq (.seq (.reg [oM 38 11,
 oM 39 1,
 oO 40 (.bin .lss (.t 38) (.t 39)),
 oM 41 40,
 oG 42 (.mv (.t 8)) 41 true,
 oG 43 (.bin .eql (.t 42) (kI 0)) 41 true,
 oO 44 (.pick (.t 41) (.t 43) (.k (.c (.d (.bool false))))),
 oM 45 44,
 oG 46 (.mv (.t 10)) 45 true,
 oG 47 (.bin .eql (.t 46) (kI 0)) 45 true,
 oO 48 (.pick (.t 45) (.t 47) (.k (.c (.d (.bool false)))))])
 (.cond (.t 48) (.skip)
 (.exit 0)))
 (.seq (.block 1 (.seq (.reg [oO 52 (.load (.ag 1) (.t 7)),
 oO 53 (.call 15 [(.t 52)] none),
 oM 51 53,
 oO 54 (.extract (.t 51) 0),
 oO 55 (.extract (.t 51) 1),
 oN (.store (.ag 1) (.t 7) (.t 54)),
 oM 8 55])
 (.reg [oO 57 (.load (.ag 1) (.t 9)),
 oO 58 (.call 15 [(.t 57)] none),
 oM 56 58,
 oO 59 (.extract (.t 56) 0),
 oO 60 (.extract (.t 56) 1),
 oN (.store (.ag 1) (.t 9) (.t 59)),
 oM 10 60])))
 (.reg [oM 49 11,
 oO 50 (.bin .add (.t 49) (kI 1)),
 oM 11 50]))
def sf_cagr:SFn:=⟨3,130,
 .seq (.reg [oO 6 (.mv (.k (.c (.d (.bool false)))))])
 (.seq (.reg [oM 20 0,
 oO 21 (.call 7 [(.t 20),(kI 1000)] none),
 oM 22 1,
 oO 23 (.call 7 [(.t 22),(kI 6)] none),
 oM 0 21,
 oM 1 23])
 (.seq (.reg [oM 25 0,
 oM 26 0,
 oO 27 (.call 18 [(.t 26)] none),
 oO 28 (.call 17 [(.t 25),(.t 27)] none),
 oM 24 28,
 oO 29 (.extract (.t 24) 0),
 oO 30 (.extract (.t 24) 1),
 oO 7 (.alloc [.nil]),
 oN (.store (.ag 1) (.t 7) (.t 29)),
 oM 8 30])
 (.seq (.reg [oM 32 0,
 oM 33 0,
 oO 34 (.call 18 [(.t 33)] none),
 oO 35 (.call 17 [(.t 32),(.t 34)] none),
 oM 31 35,
 oO 36 (.extract (.t 31) 0),
 oO 37 (.extract (.t 31) 1),
 oO 9 (.alloc [.nil]),
 oN (.store (.ag 1) (.t 9) (.t 36)),
 oM 10 37])
 (.seq (.seq (.reg [oO 11 (.mv (kI 0))])
 (.block 0 (.loop lp_cagr_0)))
 (.seq (.seq (.reg [oM 61 8,
 oO 62 (.bin .neq (.t 61) (kI 0)),
 oM 63 62,
 oG 64 (.mv (.t 10)) 63 false,
 oG 65 (.bin .neq (.t 64) (kI 0)) 63 false,
 oO 66 (.pick (.t 63) (.k (.c (.d (.bool true)))) (.t 65)),
 oM 67 66,
 oG 68 (.load (.ag 1) (.t 7)) 67 false,
 oG 69 (.load (.ag 1) (.t 9)) 67 false,
 oG 70 (.call 19 [(.t 68),(.t 69)] none) 67 false,
 oG 71 (.un .not (.t 70)) 67 false,
 oO 72 (.pick (.t 67) (.k (.c (.d (.bool true)))) (.t 71)),
 oM 73 72,
 oG 74 (.load (.ag 1) (.t 7)) 73 false,
 oG 75 (.mv (.t 0)) 73 false,
 oG 76 (.mv (.t 1)) 73 false,
 oG 77 (.call 6 [(.t 75),(.t 76)] none) 73 false,
 oG 78 (.call 19 [(.t 74),(.t 77)] none) 73 false,
 oG 79 (.un .not (.t 78)) 73 false,
 oO 80 (.pick (.t 73) (.k (.c (.d (.bool true)))) (.t 79))])
 (.cond (.t 80) (.seq (.reg [oO 6 (.mv (.k (.c (.d (.bool false)))))])
 (.ret))
 (.skip)))
 (.seq (.reg [oO 82 (.load (.ag 1) (.t 7)),
 oO 83 (.call 8 [(kI 2)] none),
 oM 84 2,
 oO 85 (.call 7 [(.t 84),(kI 1000)] none),
 oO 86 (.call 10 [(.t 85),(kI 16)] none),
 oO 87 (.call 9 [(.t 82),(kI 1),(.t 83),(.t 86)] none),
 oM 81 87,
 oO 88 (.extract (.t 81) 0),
 oO 89 (.extract (.t 81) 1),
 oM 12 88,
 oM 13 89])
 (.seq (.reg [oO 91 (.load (.ag 1) (.t 9)),
 oO 92 (.call 8 [(kI 2)] none),
 oM 93 2,
 oO 94 (.call 7 [(.t 93),(kI 1000)] none),
 oO 95 (.call 10 [(.t 94),(kI 16)] none),
 oO 96 (.call 9 [(.t 91),(kI 1),(.t 92),(.t 95)] none),
 oM 90 96,
 oO 97 (.extract (.t 90) 0),
 oO 98 (.extract (.t 90) 1),
 oM 14 97,
 oM 15 98])
 (.seq (.reg [oO 100 (.load (.ag 1) (.t 9)),
 oM 101 12,
 oO 102 (.call 11 [(.t 100),(.t 101)] none),
 oM 99 102,
 oO 103 (.extract (.t 99) 0),
 oO 104 (.extract (.t 99) 1),
 oO 105 (.extract (.t 99) 2),
 oO 106 (.extract (.t 99) 3),
 oO 17 (.alloc [.nil,.nil]),
 oM 16 103,
 oN (.store (.ag 2) (.t 17) (.t 104)),
 oM 18 105,
 oM 19 106])
 (.seq (.reg [oO 107 (.call 13 [] none),
 oM 108 107,
 oG 109 (.mv (.t 13)) 108 true,
 oG 110 (.bin .eql (.t 109) (kI 0)) 108 true,
 oO 111 (.pick (.t 108) (.t 110) (.k (.c (.d (.bool false))))),
 oM 112 111,
 oG 113 (.mv (.t 15)) 112 true,
 oG 114 (.bin .eql (.t 113) (kI 0)) 112 true,
 oO 115 (.pick (.t 112) (.t 114) (.k (.c (.d (.bool false))))),
 oM 116 115,
 oG 117 (.mv (.t 19)) 116 true,
 oG 118 (.bin .eql (.t 117) (kI 0)) 116 true,
 oO 119 (.pick (.t 116) (.t 118) (.k (.c (.d (.bool false))))),
 oM 120 119,
 oG 121 (.mv (.t 12)) 120 true,
 oG 122 (.mv (.t 14)) 120 true,
 oG 123 (.call 20 [(.t 121),(.t 122)] none) 120 true,
 oO 124 (.pick (.t 120) (.t 123) (.k (.c (.d (.bool false))))),
 oM 125 124,
 oG 126 (.load (.ag 2) (.t 17)) 125 true,
 oG 127 (.call 8 [(kI 2)] none) 125 true,
 oG 128 (.call 14 [(.t 126),(.t 127)] none) 125 true,
 oO 129 (.pick (.t 125) (.t 128) (.k (.c (.d (.bool false))))),
 oM 6 129])
 (.ret)))))))))),
 [(6,none)]⟩
theorem cf_cagr:compFn Tryd.prog { own:=[],comp:=[],frz:=[],nils:=[] } Tryd.f5=some sf_cagr:=by kernel_rfl
set_option maxHeartbeats 1600000 in
theorem cagr_c (G:Glob) (seed:Int) (hseed1:-9223372036854775808≤seed) (hseed2:seed≤9223372036854775807) (turns:Int) (hturns1:-9223372036854775808≤turns) (hturns2:turns≤9223372036854775807) (nonce:Int) (hnonce1:-9223372036854775808≤nonce) (hnonce2:nonce≤9223372036854775807) (hF:G.at 0=some (.ra (firstK.map wD))) (hG:G.at 1=some (.ra (constK.map wD))):Den Tryd.prog G 5 [.int .i64 seed,.int .i64 turns,.int .i64 nonce] (.w (.c (.d (.bool true)))):=by
  refine den_walk Tryd.func5 cf_cagr rfl rfl ?_
  have ck:=known19_c G hF hG
  have r0:=withinN_range seed 1000 (by decide)
  have e0:=within_c G seed 1000 (by decide)
  have r1:=withinN_range turns 6 (by decide)
  have e1:=within_c G turns 6 (by decide)
  have e2:=within_c G nonce 1000 (by decide)
  obtain⟨s,hs⟩:=Int.eq_ofNat_of_zero_le r0.1
  have hs:withinN seed 1000=(s:Int):=hs
  rw[hs] at e0 r0
  have hww:withinN (withinN turns 6) 6=withinN turns 6:=by
    generalize withinN turns 6=T at *
    unfold withinN
    rw[if_neg (by decide)]; omega
  have c1:=wkey_c G (s:Int)
  have kl0:(bytesK (s:Int) 32).length=32:=bytesK_len _ _
  have c2:=csta_c G hF hG (s:Int) (bytesK (s:Int) 32) (by omega)
  obtain⟨q1,q2⟩:=rgN_start s (bytesK (s:Int) 32) (by omega) kl0
  rw[q1,q2] at c2
  have c3:=wrn_c G s (withinN turns 6) (by omega)
  rw[hww] at c3
  have c4:=wpr_c G 2
  have c5:=wbytes_c G (withinN nonce 1000) 16 (by decide)
  have nl:(bytesK (withinN nonce 1000) 16).length=16:=bytesK_len _ _
  have ul:=wpU_len 2
  have vl:=wpV_len 2
  generalize wpU 2=U at *
  generalize wpV 2=W at *
  generalize bytesK (withinN nonce 1000) 16=N at *
  generalize withinN nonce 1000=n at *
  generalize bytesK (s:Int) 32=K at *
  generalize withinN turns 6=T at *
  generalize hk:T.toNat=k at *
  obtain⟨m1,m2⟩:=mk_ok (s:=s) (t:=k) (seed:=K) (algo:=1) (up:=U) (dn:=W) (n:=N) (by omega) (by decide) (by decide) ul vl nl
  have kl:=ck_len (s:=s) (k:=k) (seed:=K) (algo:=1) (up:=U) (dn:=W) (n:=N) (by omega) (by decide) (by decide) ul vl nl
  obtain⟨_,o1,_⟩:=open_at (s:=s) (t:=k) (k:=k) (seed:=K) (algo:=1) (up:=U) (dn:=W) (n:=N) (by omega) (Nat.le_refl _) (by decide) (by decide) ul vl nl
  obtain⟨o2,o3⟩:=o1 (by omega)
  have rl:∀ i,(rgN s K i).length=min 4 (i+1):=fun i=>rgN_len s K i
  have c6:=cmak_c G (rgN s K k) 1 U W N (by rw[rl]; omega)
  rw[m1,m2] at c6
  have c7:=copk_c G (rgN s K k) (ckB (hdR' s K k) 1 U W N) (by rw[rl]; omega) (by omega)
  rw[o2,o3] at c7
  have c8:=srg_c G (rgN s K k) (by rw[rl]; omega)
  have c9:=rsame_c G (ckB (hdR' s K k) 1 U W N) (ckB (hdR' s K k) 1 U W N)
  rw[beq_self_eq_true] at c9
  have cA:=spr_c G U W
  have hstep:∀ i,i<20→Den Tryd.prog G _ [rgD (rgN s K i)] (.tup [.c (.d (rgD (rgN s K (i+1)))),.c (.d (.int .i64 0))]):=fun i hi=>by
    have c:=crot_c G hF hG (rgN s K i) (by rw[rl]; omega)
    obtain⟨a,b⟩:=rgN_next (s:=s) (seed:=K) (t:=i) (by omega)
    rw[a,b] at c
    exact c
  clear m1 m2 o1 o2 o3 q1 q2 hF hG nl
  dsimp only at c7
  generalize ckB (hdR' s K k) 1 U W N=C at *
  unfold rgD prD at *
  simp only[sf_cagr,putAll,wal,stV,seval,iteOmega,toNatUp,reduceCtorEq]
  refine sD (e0) ?_
  refine sD (e1) ?_
  refine sD (c1) ?_
  refine sD (c2) ?_
  refine sD (c1) ?_
  refine sD (c2) ?_
  refine loop_st (craSt s K T nonce) (fun i=>k-i) (fun i=>i≤k) 0 (Nat.zero_le _) ?_ ?_
  ·refine ent_l (fun i=>if i=1 then 56 else 72) ?_ ?_ rfl rfl <;> simp only[wx,wex,wez,stV,seval,iteOmega,toNatUp,reduceCtorEq] <;> first | rfl | exact⟨rfl,rfl⟩ | skip
  ·intro i hi
   by_cases hlt:i<k
   ·have cs:=hstep i (by omega)
    have g:(i:Int)<T:=by omega
    clear c1 c2 c3 c4 c5 c6 c7 c8 c9 cA hstep ck rl
    simp only[lp_cagr_0,craSt,wal,stV,seval,iteOmega,toNatUp,reduceCtorEq,g]
    refine sD (cs) ?_
    refine sD (cs) ?_
    refine lop_next (i+1) (by omega) (by omega) (ent_l (fun i=>i) ?_ ?_ rfl rfl) <;> simp only[wx,wex,wez,stV,seval,iteOmega,toNatUp,reduceCtorEq] <;> first | rfl | exact⟨rfl,rfl⟩ | skip
   ·obtain rfl:i=k:=by omega
    have g:((i:Int)<T)=False:=eq_false (by omega)
    clear c1 c2 hstep rl
    simp only[lp_cagr_0,craSt,wal,stV,seval,iteOmega,toNatUp,reduceCtorEq,g]
    refine sD (c8) ?_
    refine sD (c3) ?_
    refine sD (c8) ?_
    refine sD (c4) ?_
    refine sD (e2) ?_
    refine sD (c5) ?_
    refine sD (c6) ?_
    refine sD (c4) ?_
    refine sD (e2) ?_
    refine sD (c5) ?_
    refine sD (c6) ?_
    refine sD (c7) ?_
    refine sD (ck) ?_
    refine sD (c9) ?_
    refine sD (c4) ?_
    refine sD (cA) ?_
    exact qd1
end Go.Proofs.YtpbmdbahkpfkdaaDoor
