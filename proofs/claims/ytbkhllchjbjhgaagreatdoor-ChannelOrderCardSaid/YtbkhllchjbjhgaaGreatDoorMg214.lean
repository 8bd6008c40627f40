/- Texts of one's own, merged: from: Layer 2 on data: a block. Own work. -/
import Derived.Test.YtbkhllchjbjhgaaGreatDoorMg210
import Derived.Test.YtbkhllchjbjhgaaGreatDoorProg
import Derived.Test.YtbkhllchjbjhgaaGreatDoorMg27
set_option linter.unusedVariables false
set_option linter.unusedSimpArgs false
namespace Go.Proofs.YtbkhllchjbjhgaaGreatDoor
open Go.RowKit IntWalk
set_option maxHeartbeats 1600000
theorem ev_g {G:Glob} {n:Nat} {c:C} (h:G.at n=some c) (f:Nat→V):ev G f (.g n)=.w (.c c):=by simp[ev,h]
theorem getD_some {l:List UInt32} {i:Nat} (h:i<l.length):l[i]?=some (l.getD i 0):=by simp[h]
theorem eight {l:List UInt32} (h:l.length=8):∃ a b c d e f g i,l=[a,b,c,d,e,f,g,i]:=by
  match l,h with
  | [a,b,c,d,e,f,g,i],_=>exact⟨a,b,c,d,e,f,g,i,rfl⟩
def Eight.list (s:Eight):List UInt32:=[s.a,s.b,s.c,s.d,s.e,s.f,s.g,s.h]
theorem step_a (s:Eight) (k w:UInt32):(s.step k w).a=addW (addW (addW (addW (addW s.h (bigE s.e)) (chW s.e s.f s.g)) k) w) (addW (bigA s.a) (majW s.a s.b s.c)):=rfl
theorem step_b (s:Eight) (k w:UInt32):(s.step k w).b=s.a:=rfl
theorem step_c (s:Eight) (k w:UInt32):(s.step k w).c=s.b:=rfl
theorem step_d (s:Eight) (k w:UInt32):(s.step k w).d=s.c:=rfl
theorem step_e (s:Eight) (k w:UInt32):(s.step k w).e=addW s.d (addW (addW (addW (addW s.h (bigE s.e)) (chW s.e s.f s.g)) k) w):=rfl
theorem step_f (s:Eight) (k w:UInt32):(s.step k w).f=s.e:=rfl
theorem step_g (s:Eight) (k w:UInt32):(s.step k w).g=s.f:=rfl
theorem step_h (s:Eight) (k w:UInt32):(s.step k w).h=s.g:=rfl
def blSt1 (h:List UInt32) (b:List UInt8) (s:Eight) (n:Nat):St:=⟨ofL [(2,.w (.c (.pa 1 1))),(4,.w (.c (.pa 2 1))),(5,.w (.c (.pa 3 1))),(6,.w (.c (.d (wD s.a)))),(7,.w (.c (.d (wD s.b)))),(8,.w (.c (.d (wD s.c)))),(9,.w (.c (.d (wD s.d)))),(10,.w (.c (.d (wD s.e)))),(11,.w (.c (.d (wD s.f)))),(12,.w (.c (.d (wD s.g)))),(13,.w (.c (.d (wD s.h)))),(37,.w (.c (.d (.int .i64 (n:Int)))))],
  hL [(1,.row 1 (h.map wD)),(2,.row 1 ((List.replicate 8 (0:UInt32)).map wD)),(3,.row 1 ((sched b).map wD))],uL [1,2,3]⟩
def blR1 (h:List UInt32) (b:List UInt8) (n:Nat):St:=blSt1 h b ((Eight.of h).rounds constK (sched b) n) n
def sumTo (s:Eight) (h:List UInt32) (k:Nat):List UInt32:=(s.sum h).take k++h.drop k
def blSt2 (h:List UInt32) (s:Eight) (n:Nat):St:=⟨ofL [(2,.w (.c (.pa 1 1))),(4,.w (.c (.pa 2 1))),(108,.w (.c (.d (.agg (s.list.map wD))))),(109,.w (.c (.d (.int .i64 (n:Int)))))],
  hL [(1,.row 1 ((sumTo s h n).map wD)),(2,.row 1 ((List.replicate 8 (0:UInt32)).map wD))],uL [1,2]⟩
def lp_block_0:SCode :=
 .seq (.reg [oO 38 (.bin .lss (.t 37) (kI 64))])
 (.seq (.cond (.t 38) (.skip)
 (.exit 0))
 (.seq (.block 1 (.seq (.reg [oM 39 37,
 oM 14 39])
 (.seq (.reg [oM 40 13,
 oM 41 10,
 oO 42 (.call 88 [(.t 41),(kI 6)] none),
 oM 43 10,
 oO 44 (.call 88 [(.t 43),(kI 11)] none),
 oO 45 (.bin .xor (.t 42) (.t 44)),
 oM 46 10,
 oO 47 (.call 88 [(.t 46),(kI 25)] none),
 oO 48 (.bin .xor (.t 45) (.t 47)),
 oO 49 (.bin .add (.t 40) (.t 48)),
 oM 50 10,
 oM 51 11,
 oO 52 (.bin .and (.t 50) (.t 51)),
 oM 53 10,
 oO 54 (.un .xor (.t 53)),
 oM 55 12,
 oO 56 (.bin .and (.t 54) (.t 55)),
 oO 57 (.bin .xor (.t 52) (.t 56)),
 oO 58 (.bin .add (.t 49) (.t 57)),
 oM 59 14,
 oO 60 (.idxPa 1 64 (.g 1) (.t 59)),
 oO 61 (.load .sc (.t 60)),
 oO 62 (.bin .add (.t 58) (.t 61)),
 oM 63 14,
 oO 64 (.idxPa 1 64 (.t 5) (.t 63)),
 oO 65 (.load .sc (.t 64)),
 oO 66 (.bin .add (.t 62) (.t 65)),
 oM 15 66])
 (.seq (.reg [oM 67 6,
 oO 68 (.call 88 [(.t 67),(kI 2)] none),
 oM 69 6,
 oO 70 (.call 88 [(.t 69),(kI 13)] none),
 oO 71 (.bin .xor (.t 68) (.t 70)),
 oM 72 6,
 oO 73 (.call 88 [(.t 72),(kI 22)] none),
 oO 74 (.bin .xor (.t 71) (.t 73)),
 oM 75 6,
 oM 76 7,
 oO 77 (.bin .and (.t 75) (.t 76)),
 oM 78 6,
 oM 79 8,
 oO 80 (.bin .and (.t 78) (.t 79)),
 oO 81 (.bin .xor (.t 77) (.t 80)),
 oM 82 7,
 oM 83 8,
 oO 84 (.bin .and (.t 82) (.t 83)),
 oO 85 (.bin .xor (.t 81) (.t 84)),
 oO 86 (.bin .add (.t 74) (.t 85)),
 oM 16 86])
 (.reg [oM 87 12,
 oM 88 11,
 oM 89 10,
 oM 90 9,
 oM 91 15,
 oO 92 (.bin .add (.t 90) (.t 91)),
 oM 93 8,
 oM 94 7,
 oM 95 6,
 oM 96 15,
 oM 97 16,
 oO 98 (.bin .add (.t 96) (.t 97)),
 oM 13 87,
 oM 12 88,
 oM 11 89,
 oM 10 92,
 oM 9 93,
 oM 8 94,
 oM 7 95,
 oM 6 98])))))
 (.reg [oO 99 (.bin .add (.t 37) (kI 1)),
 oM 37 99])))
def lp_block_1:SCode :=
 .seq (.reg [oO 110 (.bin .lss (.t 109) (kI 8))])
 (.seq (.cond (.t 110) (.skip)
 (.exit 2))
 (.seq (.block 3 (.seq (.reg [oM 111 109,
 oO 112 (.idxArr 1 8 .sc (.t 108) (.t 109)),
 oM 17 111,
 oM 18 112])
 (.reg [oM 113 17,
 oO 114 (.idxPa 1 8 (.t 2) (.t 113)),
 oO 115 (.load .sc (.t 114)),
 oM 116 18,
 oO 117 (.bin .add (.t 115) (.t 116)),
 oO 118 (.idxPa 1 8 (.t 2) (.t 113)),
 oN (.store .sc (.t 118) (.t 117))])))
 (.reg [oO 119 (.bin .add (.t 109) (kI 1)),
 oM 109 119])))
def sf_block:SFn:=⟨2,121,
 .seq (.reg [oO 2 (.box .ownArr (.t 0)),
 oO 4 (.allocArr [(.int .u32 0),(.int .u32 0),(.int .u32 0),(.int .u32 0),(.int .u32 0),(.int .u32 0),(.int .u32 0),(.int .u32 0)])])
 (.seq (.reg [oM 19 1,
 oO 20 (.call 87 [(.t 19)] none),
 oO 5 (.allocArr [(.int .u32 0),(.int .u32 0),(.int .u32 0),(.int .u32 0),(.int .u32 0),(.int .u32 0),(.int .u32 0),(.int .u32 0),(.int .u32 0),(.int .u32 0),(.int .u32 0),(.int .u32 0),(.int .u32 0),(.int .u32 0),(.int .u32 0),(.int .u32 0),(.int .u32 0),(.int .u32 0),(.int .u32 0),(.int .u32 0),(.int .u32 0),(.int .u32 0),(.int .u32 0),(.int .u32 0),(.int .u32 0),(.int .u32 0),(.int .u32 0),(.int .u32 0),(.int .u32 0),(.int .u32 0),(.int .u32 0),(.int .u32 0),(.int .u32 0),(.int .u32 0),(.int .u32 0),(.int .u32 0),(.int .u32 0),(.int .u32 0),(.int .u32 0),(.int .u32 0),(.int .u32 0),(.int .u32 0),(.int .u32 0),(.int .u32 0),(.int .u32 0),(.int .u32 0),(.int .u32 0),(.int .u32 0),(.int .u32 0),(.int .u32 0),(.int .u32 0),(.int .u32 0),(.int .u32 0),(.int .u32 0),(.int .u32 0),(.int .u32 0),(.int .u32 0),(.int .u32 0),(.int .u32 0),(.int .u32 0),(.int .u32 0),(.int .u32 0),(.int .u32 0),(.int .u32 0)]),
 oN (.store (.ag 64) (.t 5) (.t 20))])
 (.seq (.reg [oO 21 (.idxPa 1 8 (.t 2) (kI 0)),
 oO 22 (.load .sc (.t 21)),
 oO 23 (.idxPa 1 8 (.t 2) (kI 1)),
 oO 24 (.load .sc (.t 23)),
 oO 25 (.idxPa 1 8 (.t 2) (kI 2)),
 oO 26 (.load .sc (.t 25)),
 oO 27 (.idxPa 1 8 (.t 2) (kI 3)),
 oO 28 (.load .sc (.t 27)),
 oO 29 (.idxPa 1 8 (.t 2) (kI 4)),
 oO 30 (.load .sc (.t 29)),
 oO 31 (.idxPa 1 8 (.t 2) (kI 5)),
 oO 32 (.load .sc (.t 31)),
 oO 33 (.idxPa 1 8 (.t 2) (kI 6)),
 oO 34 (.load .sc (.t 33)),
 oO 35 (.idxPa 1 8 (.t 2) (kI 7)),
 oO 36 (.load .sc (.t 35)),
 oM 6 22,
 oM 7 24,
 oM 8 26,
 oM 9 28,
 oM 10 30,
 oM 11 32,
 oM 12 34,
 oM 13 36])
 (.seq (.seq (.reg [oO 37 (.mv (kI 0))])
 (.block 0 (.loop lp_block_0)))
 (.seq (.seq (.reg [oM 100 6,
 oM 101 7,
 oM 102 8,
 oM 103 9,
 oM 104 10,
 oM 105 11,
 oM 106 12,
 oM 107 13,
 oO 108 (.build [(.d (.int .u32 0)),(.d (.int .u32 0)),(.d (.int .u32 0)),(.d (.int .u32 0)),(.d (.int .u32 0)),(.d (.int .u32 0)),(.d (.int .u32 0)),(.d (.int .u32 0))] [(0,1,(.t 100)),(1,1,(.t 101)),(2,1,(.t 102)),(3,1,(.t 103)),(4,1,(.t 104)),(5,1,(.t 105)),(6,1,(.t 106)),(7,1,(.t 107))]),
 oO 109 (.mv (kI 0))])
 (.block 2 (.loop lp_block_1)))
 (.seq (.reg [oO 120 (.load (.ag 8) (.t 2)),
 oN (.store (.ag 8) (.t 4) (.t 120))])
 (.ret)))))),
 [(4,(some (.ag 8)))]⟩
theorem cf_block:compFn Tryz.prog { own:=[2],comp:=[],frz:=[],nils:=[] } Tryz.f74=some sf_block:=by kernel_rfl
theorem block_c (G:Glob) (hG:G.at 1=some (.ra (constK.map wD))) (h:List UInt32) (b:List UInt8) (hh:h.length=8) (hb:b.length=64):Den Tryz.prog G 74 [.agg (h.map wD),.sl (b.map bD)] (.w (.c (.d (.agg ((blockK h b).map wD))))):=by
  refine den_walk Tryz.func74 cf_block rfl rfl ?_
  have hsl:(sched b).length=64:=schedN_len b 48
  have eg:=@ev_g G 1 _ hG
  have hcl:constK.length=64:=constK_len
  obtain⟨h0,h1,h2,h3,h4,h5,h6,h7,rfl⟩:=eight hh
  simp only[sf_block,putAll,wx,stV,seval,iteOmega,toNatUp,reduceCtorEq]
  refine st_call (spread_c G b hb) rfl (.inl rfl) ?_
  simp only[wx,stV,seval,iteOmega,toNatUp,reduceCtorEq,hsl]
  refine loop_st (blR1 [h0,h1,h2,h3,h4,h5,h6,h7] b) (fun n=>64-n) (fun n=>n≤64) 0 (Nat.zero_le _) ?_ ?_
  ·refine ent_l (fun i=>match i with | 1=>16 | 2=>32 | _=>40) ?_ ?_ rfl rfl <;> simp only[blR1,blSt1,wx,wex,stV,seval,iteOmega,toNatUp,reduceCtorEq]
   ·exact⟨rfl,rfl,rfl,rfl,rfl,rfl,rfl,rfl⟩
   ·rfl
  ·intro n hn
   by_cases hlt:n<64
   ·have e1:IntKind.i64.wrap ((n:Int)+1)=((n+1:Nat):Int):=by rw[IntWalk.i64_in _ (by omega)]; rfl
    have g1:(constK.map wD)[n]?=some (wD (constK.getD n 0)):=by rw[get_map,getD_some (by omega)]; rfl
    have g2:((sched b).map wD)[n]?=some (wD ((sched b).getD n 0)):=by rw[get_map,getD_some (by omega)]; rfl
    have hr:(Eight.of [h0,h1,h2,h3,h4,h5,h6,h7]).rounds constK (sched b) (n+1)=((Eight.of [h0,h1,h2,h3,h4,h5,h6,h7]).rounds constK (sched b) n).step (constK.getD n 0) ((sched b).getD n 0):=rfl
    generalize hs:(Eight.of [h0,h1,h2,h3,h4,h5,h6,h7]).rounds constK (sched b) n=s at hr
    simp only[lp_block_0,blR1,blSt1,hs,wx,stV,seval,iteOmega,toNatUp,reduceCtorEq,eg,g1,g2,e1]
    refine st_call (turn_c G _ 6 (by decide) (by decide)) rfl (.inr rfl) ?_
    simp only[wx,stV,seval,iteOmega,toNatUp,reduceCtorEq]
    refine st_call (turn_c G _ 11 (by decide) (by decide)) rfl (.inr rfl) ?_
    simp only[wx,stV,seval,iteOmega,toNatUp,reduceCtorEq]
    refine st_call (turn_c G _ 25 (by decide) (by decide)) rfl (.inr rfl) ?_
    simp only[wx,stV,seval,iteOmega,toNatUp,reduceCtorEq,eg,g1,g2,hcl]
    refine st_call (turn_c G _ 2 (by decide) (by decide)) rfl (.inr rfl) ?_
    simp only[wx,stV,seval,iteOmega,toNatUp,reduceCtorEq]
    refine st_call (turn_c G _ 13 (by decide) (by decide)) rfl (.inr rfl) ?_
    simp only[wx,stV,seval,iteOmega,toNatUp,reduceCtorEq]
    refine st_call (turn_c G _ 22 (by decide) (by decide)) rfl (.inr rfl) ?_
    simp only[wx,stV,seval,iteOmega,toNatUp,reduceCtorEq,e1]
    refine lop_next (n+1) (by omega) (by omega) ?_
    rw[blR1,hr]
    refine (ent_l id ?_ ?_ rfl rfl) <;> simp only[wx,wex,stV,seval,iteOmega,toNatUp,reduceCtorEq,step_a,step_b,step_c,step_d,step_e,step_f,step_g,step_h]
    exact⟨rfl,rfl⟩
   ·obtain rfl:n=64:=by omega
    have hK:blockK [h0,h1,h2,h3,h4,h5,h6,h7] b=((Eight.of [h0,h1,h2,h3,h4,h5,h6,h7]).rounds constK (sched b) 64).sum [h0,h1,h2,h3,h4,h5,h6,h7]:=rfl
    rw[hK]
    simp only[blR1]
    generalize (Eight.of [h0,h1,h2,h3,h4,h5,h6,h7]).rounds constK (sched b) 64=s
    simp only[lp_block_0,blSt1,wx,stV,seval,iteOmega,toNatUp,reduceCtorEq]
    refine loop_st (blSt2 [h0,h1,h2,h3,h4,h5,h6,h7] s) (fun n=>8-n) (fun n=>n≤8) 0 (Nat.zero_le _) ?_ ?_
    ·refine ent_l id ?_ ?_ rfl rfl <;> simp only[wx,wex,stV,seval,iteOmega,toNatUp,reduceCtorEq,blSt2]
     ·rfl
     ·rfl
    ·have e8:s.sum [h0,h1,h2,h3,h4,h5,h6,h7]=[addW h0 s.a,addW h1 s.b,addW h2 s.c,addW h3 s.d,addW h4 s.e,addW h5 s.f,addW h6 s.g,addW h7 s.h]:=rfl
     intro n hn
     have hc:n=8∨n=0∨n=1∨n=2∨n=3∨n=4∨n=5∨n=6∨n=7:=by omega
     rcases hc with rfl | rfl | rfl | rfl | rfl | rfl | rfl | rfl | rfl
     ·simp only[lp_block_1,blSt2,sumTo,e8,Eight.list,wx,stV,seval,iteOmega,toNatUp,reduceCtorEq]
      exact ret_d (by simp only[wx,stV,seval,iteOmega,toNatUp,reduceCtorEq])
     all_goals
       simp only[lp_block_1,blSt2,sumTo,e8,Eight.list,wx,wy,stV,seval,iteOmega,toNatUp,reduceCtorEq]
       first | refine lop_next 1 (by decide) (by decide) ?_ | refine lop_next 2 (by decide) (by decide) ?_ | refine lop_next 3 (by decide) (by decide) ?_ | refine lop_next 4 (by decide) (by decide) ?_ | refine lop_next 5 (by decide) (by decide) ?_ | refine lop_next 6 (by decide) (by decide) ?_ | refine lop_next 7 (by decide) (by decide) ?_ | refine lop_next 8 (by decide) (by decide) ?_
       refine ent_l id ?_ ?_ rfl rfl <;> simp only[wx,wex,stV,seval,iteOmega,toNatUp,reduceCtorEq,sumTo,e8,Eight.list] <;> rfl
theorem getD_someB {l:List UInt8} {i:Nat} (h:i<l.length):l[i]?=some (l.getD i 0):=by simp[h]
def rbSt1 (h k:List UInt32) (b:List UInt8) (t:Nat):St:=⟨ofL [(0,.w (.c (.d (.sl (h.map wD))))),(1,.w (.c (.d (.sl (k.map wD))))),(2,.w (.c (.d (.sl (b.map bD))))),(7,.w (.c (.pa 1 1))),(8,.w (.c (.d (.int .i64 (t:Int)))))],
  hL [(1,.row 1 ((sched16 b t++List.replicate (64-t) 0).map wD))],uL [1]⟩
def rbSt2 (h k:List UInt32) (b:List UInt8) (n:Nat):St:=⟨ofL [(0,.w (.c (.d (.sl (h.map wD))))),(1,.w (.c (.d (.sl (k.map wD))))),(7,.w (.c (.pa 1 1))),(9,.w (.c (.d (.int .i64 ((16+n:Nat):Int)))))],
  hL [(1,.row 1 ((schedN b n++List.replicate (48-n) 0).map wD))],uL [1]⟩
def rbSt3 (h:List UInt32) (b:List UInt8) (s:Eight) (n:Nat):St:=⟨ofL [(0,.w (.c (.d (.sl (h.map wD))))),(1,.w (.c (.d (.sl (constK.map wD))))),(7,.w (.c (.pa 1 1))),(12,.w (.c (.d (wD s.a)))),(13,.w (.c (.d (wD s.b)))),(14,.w (.c (.d (wD s.c)))),(15,.w (.c (.d (wD s.d)))),(16,.w (.c (.d (wD s.e)))),(17,.w (.c (.d (wD s.f)))),(18,.w (.c (.d (wD s.g)))),(19,.w (.c (.d (wD s.h)))),(20,.w (.c (.d (.int .i64 (n:Int)))))],
  hL [(1,.row 1 ((sched b).map wD))],uL [1]⟩
def rbR3 (h:List UInt32) (b:List UInt8) (n:Nat):St:=rbSt3 h b ((Eight.of h).rounds constK (sched b) n) n
def lp_rblock_0:SCode :=
 .seq (.seq (.reg [oM 23 8,
 oO 24 (.bin .lss (.t 23) (kI 16))])
 (.cond (.t 24) (.skip)
 (.exit 0)))
 (.seq (.block 1 (.reg [oM 27 8,
 oM 28 2,
 oM 29 8,
 oO 30 (.bin .mul (kI 4) (.t 29)),
 oO 31 (.idxSl 1 (.t 28) (.t 30)),
 oO 32 (.load .sc (.t 31)),
 oO 33 (.conv .u32 (.t 32)),
 oO 34 (.bin .shl (.t 33) (.k (.c (.d (.int .u64 24))))),
 oM 35 2,
 oM 36 8,
 oO 37 (.bin .mul (kI 4) (.t 36)),
 oO 38 (.bin .add (.t 37) (kI 1)),
 oO 39 (.idxSl 1 (.t 35) (.t 38)),
 oO 40 (.load .sc (.t 39)),
 oO 41 (.conv .u32 (.t 40)),
 oO 42 (.bin .shl (.t 41) (.k (.c (.d (.int .u64 16))))),
 oO 43 (.bin .or (.t 34) (.t 42)),
 oM 44 2,
 oM 45 8,
 oO 46 (.bin .mul (kI 4) (.t 45)),
 oO 47 (.bin .add (.t 46) (kI 2)),
 oO 48 (.idxSl 1 (.t 44) (.t 47)),
 oO 49 (.load .sc (.t 48)),
 oO 50 (.conv .u32 (.t 49)),
 oO 51 (.bin .shl (.t 50) (.k (.c (.d (.int .u64 8))))),
 oO 52 (.bin .or (.t 43) (.t 51)),
 oM 53 2,
 oM 54 8,
 oO 55 (.bin .mul (kI 4) (.t 54)),
 oO 56 (.bin .add (.t 55) (kI 3)),
 oO 57 (.idxSl 1 (.t 53) (.t 56)),
 oO 58 (.load .sc (.t 57)),
 oO 59 (.conv .u32 (.t 58)),
 oO 60 (.bin .or (.t 52) (.t 59)),
 oO 61 (.idxPa 1 64 (.t 7) (.t 27)),
 oN (.store .sc (.t 61) (.t 60))]))
 (.reg [oM 25 8,
 oO 26 (.bin .add (.t 25) (kI 1)),
 oM 8 26]))
def lp_rblock_1:SCode :=
 .seq (.seq (.reg [oM 62 9,
 oO 63 (.bin .lss (.t 62) (kI 64))])
 (.cond (.t 63) (.skip)
 (.exit 2)))
 (.seq (.block 3 (.seq (.reg [oM 66 9,
 oO 67 (.bin .sub (.t 66) (kI 15)),
 oO 68 (.idxPa 1 64 (.t 7) (.t 67)),
 oO 69 (.load .sc (.t 68)),
 oM 70 9,
 oO 71 (.bin .sub (.t 70) (kI 2)),
 oO 72 (.idxPa 1 64 (.t 7) (.t 71)),
 oO 73 (.load .sc (.t 72)),
 oM 10 69,
 oM 11 73])
 (.reg [oM 74 9,
 oM 75 11,
 oO 76 (.call 76 [(.t 75),(kI 17)] none),
 oM 77 11,
 oO 78 (.call 76 [(.t 77),(kI 19)] none),
 oO 79 (.bin .xor (.t 76) (.t 78)),
 oM 80 11,
 oO 81 (.bin .shr (.t 80) (.k (.c (.d (.int .u64 10))))),
 oO 82 (.bin .xor (.t 79) (.t 81)),
 oM 83 9,
 oO 84 (.bin .sub (.t 83) (kI 7)),
 oO 85 (.idxPa 1 64 (.t 7) (.t 84)),
 oO 86 (.load .sc (.t 85)),
 oO 87 (.bin .add (.t 82) (.t 86)),
 oM 88 10,
 oO 89 (.call 76 [(.t 88),(kI 7)] none),
 oM 90 10,
 oO 91 (.call 76 [(.t 90),(kI 18)] none),
 oO 92 (.bin .xor (.t 89) (.t 91)),
 oM 93 10,
 oO 94 (.bin .shr (.t 93) (.k (.c (.d (.int .u64 3))))),
 oO 95 (.bin .xor (.t 92) (.t 94)),
 oO 96 (.bin .add (.t 87) (.t 95)),
 oM 97 9,
 oO 98 (.bin .sub (.t 97) (kI 16)),
 oO 99 (.idxPa 1 64 (.t 7) (.t 98)),
 oO 100 (.load .sc (.t 99)),
 oO 101 (.bin .add (.t 96) (.t 100)),
 oO 102 (.idxPa 1 64 (.t 7) (.t 74)),
 oN (.store .sc (.t 102) (.t 101))])))
 (.reg [oM 64 9,
 oO 65 (.bin .add (.t 64) (kI 1)),
 oM 9 65]))
def lp_rblock_2:SCode :=
 .seq (.seq (.reg [oM 127 20,
 oO 128 (.bin .lss (.t 127) (kI 64))])
 (.cond (.t 128) (.skip)
 (.exit 4)))
 (.seq (.block 5 (.seq (.reg [oM 131 19,
 oM 132 16,
 oO 133 (.call 76 [(.t 132),(kI 6)] none),
 oM 134 16,
 oO 135 (.call 76 [(.t 134),(kI 11)] none),
 oO 136 (.bin .xor (.t 133) (.t 135)),
 oM 137 16,
 oO 138 (.call 76 [(.t 137),(kI 25)] none),
 oO 139 (.bin .xor (.t 136) (.t 138)),
 oO 140 (.bin .add (.t 131) (.t 139)),
 oM 141 16,
 oM 142 17,
 oO 143 (.bin .and (.t 141) (.t 142)),
 oM 144 16,
 oO 145 (.un .xor (.t 144)),
 oM 146 18,
 oO 147 (.bin .and (.t 145) (.t 146)),
 oO 148 (.bin .xor (.t 143) (.t 147)),
 oO 149 (.bin .add (.t 140) (.t 148)),
 oM 150 1,
 oM 151 20,
 oO 152 (.idxSl 1 (.t 150) (.t 151)),
 oO 153 (.load .sc (.t 152)),
 oO 154 (.bin .add (.t 149) (.t 153)),
 oM 155 20,
 oO 156 (.idxPa 1 64 (.t 7) (.t 155)),
 oO 157 (.load .sc (.t 156)),
 oO 158 (.bin .add (.t 154) (.t 157)),
 oM 21 158])
 (.seq (.reg [oM 159 12,
 oO 160 (.call 76 [(.t 159),(kI 2)] none),
 oM 161 12,
 oO 162 (.call 76 [(.t 161),(kI 13)] none),
 oO 163 (.bin .xor (.t 160) (.t 162)),
 oM 164 12,
 oO 165 (.call 76 [(.t 164),(kI 22)] none),
 oO 166 (.bin .xor (.t 163) (.t 165)),
 oM 167 12,
 oM 168 13,
 oO 169 (.bin .and (.t 167) (.t 168)),
 oM 170 12,
 oM 171 14,
 oO 172 (.bin .and (.t 170) (.t 171)),
 oO 173 (.bin .xor (.t 169) (.t 172)),
 oM 174 13,
 oM 175 14,
 oO 176 (.bin .and (.t 174) (.t 175)),
 oO 177 (.bin .xor (.t 173) (.t 176)),
 oO 178 (.bin .add (.t 166) (.t 177)),
 oM 22 178])
 (.reg [oM 179 21,
 oM 180 22,
 oO 181 (.bin .add (.t 179) (.t 180)),
 oM 182 12,
 oM 183 13,
 oM 184 14,
 oM 185 15,
 oM 186 21,
 oO 187 (.bin .add (.t 185) (.t 186)),
 oM 188 16,
 oM 189 17,
 oM 190 18,
 oM 12 181,
 oM 13 182,
 oM 14 183,
 oM 15 184,
 oM 16 187,
 oM 17 188,
 oM 18 189,
 oM 19 190]))))
 (.reg [oM 129 20,
 oO 130 (.bin .add (.t 129) (kI 1)),
 oM 20 130]))
def sf_rblock:SFn:=⟨3,232,
 .seq (.reg [oO 6 (.mv (.k (.c .nil)))])
 (.seq (.reg [oO 7 (.allocArr [(.int .u32 0),(.int .u32 0),(.int .u32 0),(.int .u32 0),(.int .u32 0),(.int .u32 0),(.int .u32 0),(.int .u32 0),(.int .u32 0),(.int .u32 0),(.int .u32 0),(.int .u32 0),(.int .u32 0),(.int .u32 0),(.int .u32 0),(.int .u32 0),(.int .u32 0),(.int .u32 0),(.int .u32 0),(.int .u32 0),(.int .u32 0),(.int .u32 0),(.int .u32 0),(.int .u32 0),(.int .u32 0),(.int .u32 0),(.int .u32 0),(.int .u32 0),(.int .u32 0),(.int .u32 0),(.int .u32 0),(.int .u32 0),(.int .u32 0),(.int .u32 0),(.int .u32 0),(.int .u32 0),(.int .u32 0),(.int .u32 0),(.int .u32 0),(.int .u32 0),(.int .u32 0),(.int .u32 0),(.int .u32 0),(.int .u32 0),(.int .u32 0),(.int .u32 0),(.int .u32 0),(.int .u32 0),(.int .u32 0),(.int .u32 0),(.int .u32 0),(.int .u32 0),(.int .u32 0),(.int .u32 0),(.int .u32 0),(.int .u32 0),(.int .u32 0),(.int .u32 0),(.int .u32 0),(.int .u32 0),(.int .u32 0),(.int .u32 0),(.int .u32 0),(.int .u32 0)])])
 (.seq (.seq (.reg [oO 8 (.mv (kI 0))])
 (.block 0 (.loop lp_rblock_0)))
 (.seq (.seq (.reg [oO 9 (.mv (kI 16))])
 (.block 2 (.loop lp_rblock_1)))
 (.seq (.reg [oM 103 0,
 oO 104 (.idxSl 1 (.t 103) (kI 0)),
 oO 105 (.load .sc (.t 104)),
 oM 106 0,
 oO 107 (.idxSl 1 (.t 106) (kI 1)),
 oO 108 (.load .sc (.t 107)),
 oM 109 0,
 oO 110 (.idxSl 1 (.t 109) (kI 2)),
 oO 111 (.load .sc (.t 110)),
 oM 112 0,
 oO 113 (.idxSl 1 (.t 112) (kI 3)),
 oO 114 (.load .sc (.t 113)),
 oM 115 0,
 oO 116 (.idxSl 1 (.t 115) (kI 4)),
 oO 117 (.load .sc (.t 116)),
 oM 118 0,
 oO 119 (.idxSl 1 (.t 118) (kI 5)),
 oO 120 (.load .sc (.t 119)),
 oM 121 0,
 oO 122 (.idxSl 1 (.t 121) (kI 6)),
 oO 123 (.load .sc (.t 122)),
 oM 124 0,
 oO 125 (.idxSl 1 (.t 124) (kI 7)),
 oO 126 (.load .sc (.t 125)),
 oM 12 105,
 oM 13 108,
 oM 14 111,
 oM 15 114,
 oM 16 117,
 oM 17 120,
 oM 18 123,
 oM 19 126])
 (.seq (.seq (.reg [oO 20 (.mv (kI 0))])
 (.block 4 (.loop lp_rblock_2)))
 (.seq (.reg [oM 191 0,
 oO 192 (.idxSl 1 (.t 191) (kI 0)),
 oO 193 (.load .sc (.t 192)),
 oM 194 12,
 oO 195 (.bin .add (.t 193) (.t 194)),
 oM 196 0,
 oO 197 (.idxSl 1 (.t 196) (kI 1)),
 oO 198 (.load .sc (.t 197)),
 oM 199 13,
 oO 200 (.bin .add (.t 198) (.t 199)),
 oM 201 0,
 oO 202 (.idxSl 1 (.t 201) (kI 2)),
 oO 203 (.load .sc (.t 202)),
 oM 204 14,
 oO 205 (.bin .add (.t 203) (.t 204)),
 oM 206 0,
 oO 207 (.idxSl 1 (.t 206) (kI 3)),
 oO 208 (.load .sc (.t 207)),
 oM 209 15,
 oO 210 (.bin .add (.t 208) (.t 209)),
 oM 211 0,
 oO 212 (.idxSl 1 (.t 211) (kI 4)),
 oO 213 (.load .sc (.t 212)),
 oM 214 16,
 oO 215 (.bin .add (.t 213) (.t 214)),
 oM 216 0,
 oO 217 (.idxSl 1 (.t 216) (kI 5)),
 oO 218 (.load .sc (.t 217)),
 oM 219 17,
 oO 220 (.bin .add (.t 218) (.t 219)),
 oM 221 0,
 oO 222 (.idxSl 1 (.t 221) (kI 6)),
 oO 223 (.load .sc (.t 222)),
 oM 224 18,
 oO 225 (.bin .add (.t 223) (.t 224)),
 oM 226 0,
 oO 227 (.idxSl 1 (.t 226) (kI 7)),
 oO 228 (.load .sc (.t 227)),
 oM 229 19,
 oO 230 (.bin .add (.t 228) (.t 229)),
 oO 231 (.bldSl true 8 1 (.int .u32 0) [(0,(.t 195)),(1,(.t 200)),(2,(.t 205)),(3,(.t 210)),(4,(.t 215)),(5,(.t 220)),(6,(.t 225)),(7,(.t 230))]),
 oM 6 231])
 (.ret))))))),
 [(6,none)]⟩
theorem cf_rblock:compFn Tryz.prog { own:=[231],comp:=[],frz:=[],nils:=[] } Tryz.f60=some sf_rblock:=by kernel_rfl
theorem rblock_c (G:Glob) (h:List UInt32) (b:List UInt8) (hh:h.length=8) (hb:b.length=64):Den Tryz.prog G 60 [.sl (h.map wD),.sl (constK.map wD),.sl (b.map bD)] (.w (.c (.fr 1 ((blockK h b).map wD)))):=by
  refine den_walk Tryz.func60 cf_rblock rfl rfl ?_
  have hsl:(sched b).length=64:=schedN_len b 48
  have hcl:constK.length=64:=constK_len
  simp only[sf_rblock,putAll,wx,stV,seval,iteOmega,toNatUp,reduceCtorEq]
  refine loop_st (rbSt1 h constK b) (fun t=>16-t) (fun t=>t≤16) 0 (Nat.zero_le _) ?_ ?_
  ·refine ent_l (fun _=>56) ?_ ?_ rfl rfl <;> simp only[wx,wex,stV,seval,iteOmega,toNatUp,reduceCtorEq]
   rfl
  ·intro t ht
   by_cases hlt:t<16
   ·have e0:IntKind.i64.wrap (4*(t:Int))=((4*t:Nat):Int):=by rw[IntWalk.i64_in _ (by omega)]; omega
    have e1:IntKind.i64.wrap (((4*t:Nat):Int)+1)=((4*t+1:Nat):Int):=by rw[IntWalk.i64_in _ (by omega)]; omega
    have e2:IntKind.i64.wrap (((4*t:Nat):Int)+2)=((4*t+2:Nat):Int):=by rw[IntWalk.i64_in _ (by omega)]; omega
    have e3:IntKind.i64.wrap (((4*t:Nat):Int)+3)=((4*t+3:Nat):Int):=by rw[IntWalk.i64_in _ (by omega)]; omega
    have e4:IntKind.i64.wrap ((t:Int)+1)=((t+1:Nat):Int):=by rw[IntWalk.i64_in _ (by omega)]; omega
    have g:∀ k,k<64→(b.map bD)[k]?=some (bD (b.getD k 0)):=fun k hk=>by rw[get_map,getD_someB (by omega)]; rfl
    have g0:=g (4*t) (by omega)
    have g1:=g (4*t+1) (by omega)
    have g2:=g (4*t+2) (by omega)
    have g3:=g (4*t+3) (by omega)
    have h1:t<(sched16 b t++List.replicate (64-t) 0).length:=by rw[List.length_append,sched16_len,List.length_replicate]; omega
    have h2:=set_next (sched16 b t) 0 (wordAt b t) (64-t) (by omega)
    rw[sched16_len] at h2
    have h3:sched16 b t++[wordAt b t]=sched16 b (t+1):=by simp[sched16,List.range_succ]
    have h4:64-t-1=64-(t+1):=by omega
    rw[h3,h4] at h2
    simp only[wordAt] at h2
    have m24:min (24:Int).toNat 32=24:=by decide
    have m16:min (16:Int).toNat 32=16:=by decide
    have m8:min (8:Int).toNat 32=8:=by decide
    simp only[lp_rblock_0,rbSt1,wx,stV,seval,iteOmega,toNatUp,reduceCtorEq,e0,e1,e2,e3,e4,g0,g1,g2,g3,Nat.zero_add,stO_ws h1 (one_w _),set_ws,h2]
    refine lop_next (t+1) (by omega) (by omega) (ent_l id ?_ ?_ rfl rfl) <;> simp only[wx,wex,stV,seval,iteOmega,toNatUp,reduceCtorEq]
   ·obtain rfl:t=16:=by omega
    simp only[lp_rblock_0,rbSt1,wx,stV,seval,iteOmega,toNatUp,reduceCtorEq]
    refine loop_st (rbSt2 h constK b) (fun n=>48-n) (fun n=>n≤48) 0 (Nat.zero_le _) ?_ ?_
    ·have h0:sched16 b 16=schedN b 0:=rfl
     refine ent_l id ?_ ?_ rfl rfl <;> simp only[wx,wex,stV,seval,iteOmega,toNatUp,reduceCtorEq,h0]
    ·intro n hn
     by_cases hlt:n<48
     ·have hl:=schedN_len b n
      have w1:∀ k:Nat,k≤16→IntKind.i64.wrap (((16+n:Nat):Int)-(k:Int))=((16+n-k:Nat):Int):=fun k hk=>by rw[IntWalk.i64_in _ (by omega)]; omega
      have e15:IntKind.i64.wrap (((16+n:Nat):Int)-15)=((16+n-15:Nat):Int):=w1 15 (by decide)
      have e2:IntKind.i64.wrap (((16+n:Nat):Int)-2)=((16+n-2:Nat):Int):=w1 2 (by decide)
      have e7:IntKind.i64.wrap (((16+n:Nat):Int)-7)=((16+n-7:Nat):Int):=w1 7 (by decide)
      have e16:IntKind.i64.wrap (((16+n:Nat):Int)-16)=((16+n-16:Nat):Int):=w1 16 (by decide)
      have e0:IntKind.i64.wrap (((16+n:Nat):Int)+1)=((16+(n+1):Nat):Int):=by rw[IntWalk.i64_in _ (by omega)]; omega
      have g:∀ k,k<16+n→((schedN b n++List.replicate (48-n) 0).map wD)[k]?=some (wD ((schedN b n).getD k 0)):=fun k hk=>by
        rw[List.getElem?_map,get_of (by omega)]; rfl
      have g15:=g (16+n-15) (by omega)
      have g2:=g (16+n-2) (by omega)
      have g7:=g (16+n-7) (by omega)
      have g16:=g (16+n-16) (by omega)
      simp only[lp_rblock_1,rbSt2,wx,stV,seval,iteOmega,toNatUp,reduceCtorEq,e15,e2,e7,e16,e0,g15,g2,g7,g16]
      refine st_call (rturn_c G _ 17 (by decide) (by decide)) rfl (.inr rfl) ?_
      simp only[wx,stV,seval,iteOmega,toNatUp,reduceCtorEq]
      refine st_call (rturn_c G _ 19 (by decide) (by decide)) rfl (.inr rfl) ?_
      simp only[wx,stV,seval,iteOmega,toNatUp,reduceCtorEq,e15,e2,e7,e16,e0,g15,g2,g7,g16]
      refine st_call (rturn_c G _ 7 (by decide) (by decide)) rfl (.inr rfl) ?_
      simp only[wx,stV,seval,iteOmega,toNatUp,reduceCtorEq]
      refine st_call (rturn_c G _ 18 (by decide) (by decide)) rfl (.inr rfl) ?_
      have h1:16+n<(schedN b n++List.replicate (48-n) 0).length:=by rw[List.length_append,hl,List.length_replicate]; omega
      have h2:=set_next (schedN b n) 0 (nextW (schedN b n) (16+n)) (48-n) (by omega)
      rw[hl] at h2
      have h4:48-n-1=48-(n+1):=by omega
      have h3:schedN b n++[nextW (schedN b n) (16+n)]=schedN b (n+1):=rfl
      rw[h3,h4] at h2
      simp only[nextW,smallA,smallB] at h2
      simp only[wx,stV,seval,iteOmega,toNatUp,reduceCtorEq,e15,e2,e7,e16,e0,g15,g2,g7,g16,stO_ws h1 (one_w _),set_ws,h2]
      refine lop_next (n+1) (by omega) (by omega) (ent_l id ?_ ?_ rfl rfl) <;> simp only[wx,wex,stV,seval,iteOmega,toNatUp,reduceCtorEq]
     ·have hn48:n=48:=by omega
      have h0:48-n=0:=by omega
      obtain⟨h0',h1,h2,h3,h4,h5,h6,h7,rfl⟩:=eight hh
      simp only[lp_rblock_1,rbSt2,wx,stV,seval,iteOmega,toNatUp,reduceCtorEq,h0,List.append_nil,List.replicate_zero,← sched_at b n hn48]
      refine loop_st (rbR3 [h0',h1,h2,h3,h4,h5,h6,h7] b) (fun n=>64-n) (fun n=>n≤64) 0 (Nat.zero_le _) ?_ ?_
      ·refine ent_l id ?_ ?_ rfl rfl <;> simp only[rbR3,rbSt3,wx,wex,stV,seval,iteOmega,toNatUp,reduceCtorEq]
       exact⟨rfl,rfl,rfl,rfl,rfl,rfl,rfl,rfl⟩
      ·clear hn hlt hn48 h0
       intro n hn
       by_cases hlt:n<64
       ·have e1:IntKind.i64.wrap ((n:Int)+1)=((n+1:Nat):Int):=by rw[IntWalk.i64_in _ (by omega)]; rfl
        have g1:(constK.map wD)[n]?=some (wD (constK.getD n 0)):=by rw[get_map,getD_some (by omega)]; rfl
        have g2:((sched b).map wD)[n]?=some (wD ((sched b).getD n 0)):=by rw[get_map,getD_some (by omega)]; rfl
        have hr:(Eight.of [h0',h1,h2,h3,h4,h5,h6,h7]).rounds constK (sched b) (n+1)=((Eight.of [h0',h1,h2,h3,h4,h5,h6,h7]).rounds constK (sched b) n).step (constK.getD n 0) ((sched b).getD n 0):=rfl
        generalize hs:(Eight.of [h0',h1,h2,h3,h4,h5,h6,h7]).rounds constK (sched b) n=s at hr
        simp only[lp_rblock_2,rbR3,rbSt3,hs,wx,stV,seval,iteOmega,toNatUp,reduceCtorEq,hcl,hsl,g1,g2,e1]
        refine st_call (rturn_c G _ 6 (by decide) (by decide)) rfl (.inr rfl) ?_
        simp only[wx,stV,seval,iteOmega,toNatUp,reduceCtorEq]
        refine st_call (rturn_c G _ 11 (by decide) (by decide)) rfl (.inr rfl) ?_
        simp only[wx,stV,seval,iteOmega,toNatUp,reduceCtorEq]
        refine st_call (rturn_c G _ 25 (by decide) (by decide)) rfl (.inr rfl) ?_
        simp only[wx,stV,seval,iteOmega,toNatUp,reduceCtorEq,g1,g2,hcl,hsl]
        refine st_call (rturn_c G _ 2 (by decide) (by decide)) rfl (.inr rfl) ?_
        simp only[wx,stV,seval,iteOmega,toNatUp,reduceCtorEq]
        refine st_call (rturn_c G _ 13 (by decide) (by decide)) rfl (.inr rfl) ?_
        simp only[wx,stV,seval,iteOmega,toNatUp,reduceCtorEq]
        refine st_call (rturn_c G _ 22 (by decide) (by decide)) rfl (.inr rfl) ?_
        simp only[wx,stV,seval,iteOmega,toNatUp,reduceCtorEq,e1]
        refine lop_next (n+1) (by omega) (by omega) ?_
        rw[rbR3,hr]
        refine (ent_l id ?_ ?_ rfl rfl) <;> simp only[wx,wex,stV,seval,iteOmega,toNatUp,reduceCtorEq,step_a,step_b,step_c,step_d,step_e,step_f,step_g,step_h]
        exact⟨rfl,rfl⟩
       ·obtain rfl:n=64:=by omega
        have hK:blockK [h0',h1,h2,h3,h4,h5,h6,h7] b=((Eight.of [h0',h1,h2,h3,h4,h5,h6,h7]).rounds constK (sched b) 64).sum [h0',h1,h2,h3,h4,h5,h6,h7]:=rfl
        rw[hK]
        simp only[rbR3]
        generalize (Eight.of [h0',h1,h2,h3,h4,h5,h6,h7]).rounds constK (sched b) 64=s
        have e8:s.sum [h0',h1,h2,h3,h4,h5,h6,h7]=[addW h0' s.a,addW h1 s.b,addW h2 s.c,addW h3 s.d,addW h4 s.e,addW h5 s.f,addW h6 s.g,addW h7 s.h]:=rfl
        simp only[lp_rblock_2,rbSt3,e8,wx,stV,seval,iteOmega,toNatUp,reduceCtorEq]
        exact ret_own (id:=1848) (n:=8) (s:=1) (by simp only[wx,stV,seval,iteOmega,toNatUp,reduceCtorEq]) (by simp only[wx,stV,seval,iteOmega,toNatUp,reduceCtorEq] <;> rfl) rfl
def foldB (h:List UInt32) (b:List UInt8):Nat→List UInt32
  | 0=>h
  | n+1=>blockK (foldB h b n) ((b.drop (64*n)).take 64)
theorem foldB_len {h:List UInt32} (hh:h.length=8) (b:List UInt8):∀ n,(foldB h b n).length=8
  | 0=>hh
  | n+1=>blockK_len _ _
def padK (rest:List UInt8) (count:Nat):List UInt8:=rest++[128]++List.replicate ((119-rest.length)%64) 0++putL (count*8) 8
def wordsB (ws:List UInt32):List UInt8:=ws.flatMap fun w=>putL w.toNat 4
def finK (s:List UInt32) (rest:List UInt8) (count:Nat):List UInt8:=wordsB (foldB s (padK rest count) ((padK rest count).length / 64))
def sumK (b:List UInt8):List UInt8:=finK (foldB firstK b (b.length / 64)) (b.drop (64*(b.length / 64))) b.length
theorem wordsB_len:∀ ws:List UInt32,(wordsB ws).length=4*ws.length
  | []=>rfl
  | w::ws=>by
    have:wordsB (w::ws)=putL w.toNat 4++wordsB ws:=rfl
    rw[this,List.length_append,putL_length,wordsB_len ws,List.length_cons]; omega
theorem finK_len {s:List UInt32} (hs:s.length=8) (rest:List UInt8) (count:Nat):(finK s rest count).length=32:=by
  unfold finK
  rw[wordsB_len,foldB_len hs]
theorem sumK_len (b:List UInt8):(sumK b).length=32:=finK_len (foldB_len firstK_len _ _) _ _
theorem putL_zero (n:Nat):putL 0 n=List.replicate n 0:=by
  unfold putL
  apply List.ext_getElem?
  intro i
  simp only[List.getElem?_map,List.getElem?_replicate,List.getElem?_range]
  by_cases h:i<n
  ·simp[h,List.getElem?_range]
  ·simp[h,List.getElem?_range]
theorem padK_len (rest:List UInt8) (count:Nat) (h:rest.length<64):(padK rest count).length=rest.length+9+(119-rest.length)%64∧(padK rest count).length%64=0:=by
  have:(padK rest count).length=rest.length+9+(119-rest.length)%64:=by simp[padK,putL_length]; omega
  exact⟨this,by omega⟩
theorem wordsB_take (ws:List UInt32) (k:Nat) (h:k<ws.length):wordsB (ws.take k)++putL (ws.getD k 0).toNat 4=wordsB (ws.take (k+1)):=by
  rw[List.take_succ_eq_append_getElem h]
  unfold wordsB
  rw[List.flatMap_append]
  simp[h]
theorem get_words {ws:List UInt32} {k:Nat} (h:k<ws.length):((ws.map wD).map C.d)[k]?=some (.d (wD (ws.getD k 0))):=by
  simp[h]
theorem drop_take_drop (b:List UInt8) (n:Nat):(b.drop (64*n)).drop 64=b.drop (64*(n+1)):=by rw[List.drop_drop,Nat.mul_succ]
def bksSt (s:List UInt32) (b:List UInt8) (n:Nat):St:=⟨ofL [(1,.w (.c (.d (.sl ((b.drop (64*n)).map bD))))),(2,.w (.c (.pa 1 1))),(4,.w (.c (.pa 2 1))),(5,.w (.c .nil))],hL [(1,.row 1 ((foldB s b n).map wD)),(2,.row 1 ((List.replicate 8 (0:UInt32)).map wD))],uL [1,2]⟩
def lp_blocks_0:SCode :=
 .seq (.seq (.reg [oM 6 1,
 oO 7 (.len (.t 6)),
 oO 8 (.bin .geq (.t 7) (kI 64))])
 (.cond (.t 8) (.skip)
 (.exit 0)))
 (.block 1 (.seq (.reg [oO 9 (.load (.ag 8) (.t 2)),
 oM 10 1,
 oO 11 (.slice 1 (.t 10) none (some (kI 64)) none),
 oO 12 (.call 74 [(.t 9),(.t 11)] none),
 oN (.store (.ag 8) (.t 2) (.t 12))])
 (.reg [oM 13 1,
 oO 14 (.slice 1 (.t 13) (some (kI 64)) none none),
 oM 1 14])))
def sf_blocks:SFn:=⟨2,17,
 .seq (.reg [oO 2 (.box .ownArr (.t 0)),
 oO 4 (.allocArr [(.int .u32 0),(.int .u32 0),(.int .u32 0),(.int .u32 0),(.int .u32 0),(.int .u32 0),(.int .u32 0),(.int .u32 0)]),
 oO 5 (.mv (.k (.c .nil)))])
 (.seq (.block 0 (.loop lp_blocks_0))
 (.seq (.reg [oO 15 (.load (.ag 8) (.t 2)),
 oM 16 1,
 oN (.store (.ag 8) (.t 4) (.t 15)),
 oM 5 16])
 (.ret))),
 [(4,(some (.ag 8))),(5,none)]⟩
theorem cf_blocks:compFn Tryz.prog { own:=[2],comp:=[],frz:=[],nils:=[] } Tryz.f55=some sf_blocks:=by kernel_rfl
theorem blocks_c (G:Glob) (hG:G.at 1=some (.ra (constK.map wD))) (s:List UInt32) (b:List UInt8) (hs:s.length=8) (hb:b.length≤140737488355328):Den Tryz.prog G 55 [.agg (s.map wD),.sl (b.map bD)] (.tup [.c (.d (.agg ((foldB s b (b.length / 64)).map wD))),.c (.d (.sl ((b.drop (64*(b.length / 64))).map bD)))]):=by
  refine den_walk Tryz.func55 cf_blocks rfl rfl ?_
  simp only[sf_blocks,putAll,wx,stV,seval,iteOmega,toNatUp,reduceCtorEq]
  refine loop_st (bksSt s b) (fun n=>b.length / 64-n) (fun n=>n≤b.length / 64) 0 (Nat.zero_le _) ?_ ?_
  ·refine ent_l (fun i=>match i with | 1=>16 | _=>32) ?_ ?_ rfl rfl <;> simp only[wx,wex,stV,seval,iteOmega,toNatUp,reduceCtorEq,bksSt,foldB]
   rfl
  ·intro n hn
   have hl:=foldB_len hs b n
   by_cases hlt:n<b.length / 64
   ·have h1:(64:Int)≤((b.drop (64*n)).length:Int):=by rw[List.length_drop]; omega
    have h2:((b.drop (64*n)).take 64).length=64:=by rw[List.length_take,List.length_drop]; omega
    have e1:=drop_take_drop b n
    simp only[lp_blocks_0,bksSt,wx,stV,seval,iteOmega,toNatUp,reduceCtorEq,hl,h1]
    refine st_call (block_c G hG (foldB s b n) ((b.drop (64*n)).take 64) hl h2) rfl (.inl rfl) ?_
    have e2:(blockK (foldB s b n) ((b.drop (64*n)).take 64)).length=8:=blockK_len _ _
    have e3:(b.drop (64*n)).length-64=((b.drop (64*(n+1)))).length:=by rw[List.length_drop,List.length_drop]; omega
    simp only[wx,stV,seval,iteOmega,toNatUp,reduceCtorEq,hl,e2,e1,e3]
    refine lop_next (n+1) (by omega) (by omega) (ent_l id ?_ ?_ rfl rfl) <;> simp only[wx,wex,stV,seval,iteOmega,toNatUp,reduceCtorEq,foldB]
   ·obtain rfl:n=b.length / 64:=by omega
    have h1:¬ (64:Int)≤((b.drop (64*(b.length / 64))).length:Int):=by rw[List.length_drop]; omega
    simp only[lp_blocks_0,bksSt,wx,stV,seval,iteOmega,toNatUp,reduceCtorEq,hl,h1]
    exact ret_d2 (by simp only[wx,stV,seval,iteOmega,toNatUp,reduceCtorEq,hl]) (by simp only[wx,stV,seval,iteOmega,toNatUp,reduceCtorEq])
def finSt (ws:List UInt32) (k:Nat):St:=⟨ofL [(9,.w (.c (.own 1 1 0 (wordsB (ws.take k)).length))),(36,.w (.c (.d (.agg (ws.map wD))))),(37,.w (.c (.d (.int .i64 (k:Int)))))],hL [(1,.row 1 ((wordsB (ws.take k)).map bD))],uL [1]⟩
def lp_fin_0:SCode :=
 .seq (.reg [oO 38 (.bin .lss (.t 37) (kI 8))])
 (.seq (.cond (.t 38) (.skip)
 (.exit 0))
 (.seq (.block 1 (.seq (.reg [oO 39 (.idxArr 1 8 .sc (.t 36) (.t 37)),
 oM 11 39])
 (.reg [oM 40 9,
 oM 41 11,
 oO 42 (.conv .u64 (.t 41)),
 oO 43 (.call 32 [(.t 42),(kI 4)] none),
 oO 44 (.app false 1 1 (.t 40) (.t 43)),
 oM 9 44])))
 (.reg [oO 45 (.bin .add (.t 37) (kI 1)),
 oM 37 45])))
def sf_fin:SFn:=⟨3,47,
 .seq (.reg [oO 3 (.box .ownArr (.t 0)),
 oO 6 (.mv (.k (.c .nil)))])
 (.seq (.reg [oO 12 (.bldSl false 1 1 (.int .u8 0) [(0,(.k (.c (.d (.int .u8 128)))))]),
 oM 7 12])
 (.seq (.reg [oM 13 7,
 oO 14 (.len (.t 13)),
 oO 15 (.bin .sub (kI 120) (.t 14)),
 oM 16 1,
 oO 17 (.len (.t 16)),
 oO 18 (.bin .sub (.t 15) (.t 17)),
 oO 19 (.bin .rem (.t 18) (kI 64)),
 oM 8 19])
 (.seq (.reg [oO 21 (.load (.ag 8) (.t 3)),
 oM 22 1,
 oM 23 7,
 oM 24 8,
 oO 25 (.call 32 [(.k (.c (.d (.int .u64 0)))),(.t 24)] none),
 oM 26 2,
 oO 27 (.conv .u64 (.t 26)),
 oO 28 (.bin .mul (.t 27) (.k (.c (.d (.int .u64 8))))),
 oO 29 (.call 32 [(.t 28),(kI 8)] none),
 oO 30 (.bldSl false 4 1 (.sl []) [(0,(.t 22)),(1,(.t 23)),(2,(.t 25)),(3,(.t 29))]),
 oO 31 (.call 31 [(.t 30)] none),
 oO 32 (.call 55 [(.t 21),(.t 31)] none),
 oM 20 32,
 oO 33 (.extract (.t 20) 0),
 oO 34 (.extract (.t 20) 1),
 oN (.store (.ag 8) (.t 3) (.t 33))])
 (.seq (.reg [oO 35 (.make true 1 1 (.int .u8 0) (kI 0) (kI 32)),
 oM 9 35])
 (.seq (.seq (.reg [oO 36 (.load (.ag 8) (.t 3)),
 oO 37 (.mv (kI 0))])
 (.block 0 (.loop lp_fin_0)))
 (.seq (.reg [oM 46 9,
 oM 6 46])
 (.ret))))))),
 [(6,none)]⟩
theorem cf_fin:compFn Tryz.prog { own:=[3],comp:=[],frz:=[],nils:=[] } Tryz.f56=some sf_fin:=by kernel_rfl
theorem fin_c (G:Glob) (hG:G.at 1=some (.ra (constK.map wD))) (s:List UInt32) (rest:List UInt8) (count:Nat) (hs:s.length=8) (hr:rest.length<64) (hc:count≤140737488355328):Den Tryz.prog G 56 [.agg (s.map wD),.sl (rest.map bD),.int .i64 (count:Int)] (.w (.c (.fr 1 ((finK s rest count).map bD)))):=by
  refine den_walk Tryz.func56 cf_fin rfl rfl ?_
  have e3:(119-(rest.length:Int)).tmod 64=(((119-rest.length)%64:Nat):Int):=by
    rw[show (119-(rest.length:Int))=((119-rest.length:Nat):Int) by omega]; rfl
  simp only[sf_fin,putAll,wal,stV,seval,iteOmega,toNatUp,reduceCtorEq,hs,e3]
  have hz:(119-rest.length)%64≤64:=by omega
  refine st_call (put_in G 0 ((119-rest.length)%64) hz) rfl (.inl rfl) ?_
  simp only[wal,stV,seval,iteOmega,toNatUp,reduceCtorEq]
  refine st_call (put_in G (count*8) 8 (by decide)) ?_ (.inl rfl) ?_
  ·simp only[wal,stV,seval,iteOmega,toNatUp,reduceCtorEq]
  obtain⟨hp1,hp2⟩:=padK_len rest count hr
  have hp:[rest,[128],putL 0 ((119-rest.length)%64),putL (count*8) 8].flatten=padK rest count:=by
    rw[putL_zero]; simp[padK]
  have hj:=join_c G [rest,[128],putL 0 ((119-rest.length)%64),putL (count*8) 8] (by simp) (by rw[hp,hp1]; omega)
  rw[hp] at hj
  simp only[wal,stV,seval,iteOmega,toNatUp,reduceCtorEq]
  refine st_call hj rfl (.inl rfl) ?_
  simp only[wal,stV,seval,iteOmega,toNatUp,reduceCtorEq]
  refine st_call (blocks_c G hG s (padK rest count) hs (by rw[hp1]; omega)) rfl (.inl rfl) ?_
  have hw:(foldB s (padK rest count) ((padK rest count).length / 64)).length=8:=foldB_len hs _ _
  have hf:finK s rest count=wordsB (foldB s (padK rest count) ((padK rest count).length / 64)):=rfl
  rw[hf]
  generalize foldB s (padK rest count) ((padK rest count).length / 64)=ws at hw
  simp only[wal,stV,seval,iteOmega,toNatUp,reduceCtorEq,hs,hw]
  refine loop_st (finSt ws) (fun k=>8-k) (fun k=>k≤8) 0 (Nat.zero_le _) ?_ ?_
  ·refine ent_l (fun _=>280) ?_ ?_ rfl rfl <;> simp only[wx,wex,wez,stV,seval,iteOmega,toNatUp,reduceCtorEq,wordsB]
  ·intro k hk
   by_cases hlt:k<8
   ·have hw1:(ws.getD k 0).toNat<4294967296:=word_lt _
    have hwl:=wordsB_len (ws.take k)
    rw[List.length_take] at hwl
    simp only[lp_fin_0,finSt,wal,stV,seval,iteOmega,toNatUp,reduceCtorEq,get_words (show k<ws.length by omega)]
    refine st_call (put_in G (ws.getD k 0).toNat 4 (by decide)) ?_ (.inl rfl) ?_
    ·simp only[wal,stV,seval,iteOmega,toNatUp,reduceCtorEq]
    simp only[wal,stV,seval,iteOmega,toNatUp,reduceCtorEq,srcV,wordsB_take ws k (by omega),putL_length]
    refine lop_next (k+1) (by omega) (by omega) (ent_l (fun _=>352) ?_ ?_ rfl rfl) <;> simp only[wx,wex,wez,stV,seval,iteOmega,toNatUp,reduceCtorEq]
   ·obtain rfl:k=8:=by omega
    have:ws.take 8=ws:=List.take_of_length_le (by omega)
    simp only[lp_fin_0,finSt,wal,stV,seval,iteOmega,toNatUp,reduceCtorEq,this]
    exact ret_own (id:=1) (n:=(wordsB ws).length) (s:=1) (by simp only[wx,stV,seval,iteOmega,toNatUp,reduceCtorEq]) (by simp only[wx,stV,seval,iteOmega,toNatUp,reduceCtorEq]) (by rw[List.length_map])
def sf_sum:SFn:=⟨1,16,
 .seq (.reg [oO 2 (.mv (.k (.c .nil)))])
 (.seq (.reg [oO 6 (.load (.ag 8) (.g 0)),
 oM 7 0,
 oO 8 (.call 55 [(.t 6),(.t 7)] none),
 oM 5 8,
 oO 9 (.extract (.t 5) 0),
 oO 10 (.extract (.t 5) 1),
 oO 3 (.allocArr [(.int .u32 0),(.int .u32 0),(.int .u32 0),(.int .u32 0),(.int .u32 0),(.int .u32 0),(.int .u32 0),(.int .u32 0)]),
 oN (.store (.ag 8) (.t 3) (.t 9)),
 oM 4 10])
 (.seq (.reg [oO 11 (.load (.ag 8) (.t 3)),
 oM 12 4,
 oM 13 0,
 oO 14 (.len (.t 13)),
 oO 15 (.call 56 [(.t 11),(.t 12),(.t 14)] (some (0,1))),
 oM 2 15])
 (.ret))),
 [(2,none)]⟩
theorem cf_sum:compFn Tryz.prog { own:=[15],comp:=[],frz:=[],nils:=[] } Tryz.f27=some sf_sum:=by kernel_rfl
theorem sum_c (G:Glob) (hF:G.at 0=some (.ra (firstK.map wD))) (hG:G.at 1=some (.ra (constK.map wD))) (b:List UInt8) (hb:b.length≤140737488355328):Den Tryz.prog G 27 [.sl (b.map bD)] (.w (.c (.fr 1 ((sumK b).map bD)))):=by
  refine den_walk Tryz.func27 cf_sum rfl rfl ?_
  have eg:=@ev_g G 0 _ hF
  have hl:(foldB firstK b (b.length / 64)).length=8:=foldB_len firstK_len _ _
  have h8:firstK.length=8:=firstK_len
  simp only[sf_sum,putAll,wal,stV,seval,iteOmega,toNatUp,reduceCtorEq,eg,h8]
  refine st_call (blocks_c G hG firstK b firstK_len hb) rfl (.inl rfl) ?_
  simp only[wal,stV,seval,iteOmega,toNatUp,reduceCtorEq,hl]
  refine st_call (fin_c G hG _ (b.drop (64*(b.length / 64))) b.length hl (by rw[List.length_drop]; omega) hb) ?_ (.inl rfl) ?_
  ·simp only[wal,stV,seval,iteOmega,toNatUp,reduceCtorEq]
  simp only[wal,stV,seval,iteOmega,toNatUp,reduceCtorEq]
  exact ret_own (id:=120) (n:=(finK (foldB firstK b (b.length / 64)) (b.drop (64*(b.length / 64))) b.length).length) (s:=1) (by simp only[wx,stV,seval,iteOmega,toNatUp,reduceCtorEq]) (by simp only[wx,stV,seval,iteOmega,toNatUp,reduceCtorEq] <;> rfl) (by rw[List.length_map]; rfl)
theorem rep_snoc {α:Type} (a:α) (j:Nat):List.replicate j a++[a]=List.replicate (j+1) a:=by rw[List.replicate_succ']
def rf1St (h:List UInt32) (rest:List UInt8) (count:Nat) (j:Nat):St:=⟨ofL [(0,.w (.c (.d (.sl (h.map wD))))),(2,.w (.c (.d (.int .i64 (count:Int))))),(7,.w (.c (.d (.sl (constK.map wD))))),(8,.w (.c (.own 1 1 0 (rest++[128]++List.replicate j 0).length)))],hL [(1,.row 1 ((rest++[128]++List.replicate j 0).map bD))],uL [1]⟩
def rf2St (h:List UInt32) (p:List UInt8) (n:Nat):St:=⟨ofL [(0,.w (.c (.d (.sl ((foldB h p n).map wD))))),(7,.w (.c (.d (.sl (constK.map wD))))),(8,.w (.c (.own 1 1 0 p.length))),(9,.w (.c (.d (.int .i64 ((64*n:Nat):Int)))))],hL [(1,.row 1 (p.map bD))],uL [1]⟩
def rf3St (ws:List UInt32) (k:Nat):St:=⟨ofL [(0,.w (.c (.d (.sl (ws.map wD))))),(10,.w (.c (.own 1 1 0 (wordsB (ws.take k)).length))),(11,.w (.c (.d (.int .i64 (k:Int)))))],hL [(1,.row 1 ((wordsB (ws.take k)).map bD))],uL [1]⟩
theorem get_ws {ws:List UInt32} {k:Nat} (h:k<ws.length):(ws.map wD)[k]?=some (wD (ws.getD k 0)):=by
  simp[h]
theorem b0_is:D.int .u8 0=bD 0:=rfl
theorem b128_is:D.int .u8 128=bD 128:=rfl
theorem app_c (l:List UInt8) (a:UInt8):l.map bD++[bD a]=(l++[a]).map bD:=by simp
def lp_rfin_0:SCode :=
 .seq (.seq (.reg [oM 18 8,
 oO 19 (.len (.t 18)),
 oO 20 (.bin .rem (.t 19) (kI 64)),
 oO 21 (.bin .neq (.t 20) (kI 56))])
 (.cond (.t 21) (.skip)
 (.exit 0)))
 (.block 1 (.reg [oM 22 8,
 oO 23 (.bldSl false 1 1 (.int .u8 0) [(0,(.k (.c (.d (.int .u8 0)))))]),
 oO 24 (.app false 1 1 (.t 22) (.t 23)),
 oM 8 24]))
def lp_rfin_1:SCode :=
 .seq (.seq (.reg [oM 31 9,
 oM 32 8,
 oO 33 (.len (.t 32)),
 oO 34 (.bin .lss (.t 31) (.t 33))])
 (.cond (.t 34) (.skip)
 (.exit 2)))
 (.seq (.block 3 (.reg [oM 37 0,
 oM 38 7,
 oM 39 8,
 oM 40 9,
 oM 41 9,
 oO 42 (.bin .add (.t 41) (kI 64)),
 oO 43 (.slice 1 (.t 39) (some (.t 40)) (some (.t 42)) none),
 oO 44 (.call 60 [(.t 37),(.t 38),(.t 43)] none),
 oM 0 44]))
 (.reg [oM 35 9,
 oO 36 (.bin .add (.t 35) (kI 64)),
 oM 9 36]))
def lp_rfin_2:SCode :=
 .seq (.seq (.reg [oM 46 11,
 oO 47 (.bin .lss (.t 46) (kI 8))])
 (.cond (.t 47) (.skip)
 (.exit 4)))
 (.seq (.block 5 (.reg [oM 50 10,
 oM 51 0,
 oM 52 11,
 oO 53 (.idxSl 1 (.t 51) (.t 52)),
 oO 54 (.load .sc (.t 53)),
 oO 55 (.conv .u64 (.t 54)),
 oO 56 (.call 37 [(.t 55),(kI 4)] none),
 oO 57 (.app false 1 1 (.t 50) (.t 56)),
 oM 10 57]))
 (.reg [oM 48 11,
 oO 49 (.bin .add (.t 48) (kI 1)),
 oM 11 49]))
def sf_rfin:SFn:=⟨3,59,
 .seq (.reg [oO 6 (.mv (.k (.c .nil)))])
 (.seq (.reg [oO 12 (.call 59 [] none),
 oM 7 12])
 (.seq (.reg [oM 13 1,
 oO 14 (.bldSl false 1 1 (.sl []) [(0,(.t 13))]),
 oO 15 (.call 36 [(.t 14)] (some (0,1))),
 oO 16 (.bldSl false 1 1 (.int .u8 0) [(0,(.k (.c (.d (.int .u8 128)))))]),
 oO 17 (.app false 1 1 (.t 15) (.t 16)),
 oM 8 17])
 (.seq (.block 0 (.loop lp_rfin_0))
 (.seq (.reg [oM 25 8,
 oM 26 2,
 oO 27 (.conv .u64 (.t 26)),
 oO 28 (.bin .mul (.t 27) (.k (.c (.d (.int .u64 8))))),
 oO 29 (.call 37 [(.t 28),(kI 8)] none),
 oO 30 (.app false 1 1 (.t 25) (.t 29)),
 oM 8 30])
 (.seq (.seq (.reg [oO 9 (.mv (kI 0))])
 (.block 2 (.loop lp_rfin_1)))
 (.seq (.reg [oO 45 (.bldSl true 0 1 (.int .u8 0) []),
 oM 10 45])
 (.seq (.seq (.reg [oO 11 (.mv (kI 0))])
 (.block 4 (.loop lp_rfin_2)))
 (.seq (.reg [oM 58 10,
 oM 6 58])
 (.ret))))))))),
 [(6,none)]⟩
theorem cf_rfin:compFn Tryz.prog { own:=[15,45],comp:=[],frz:=[],nils:=[] } Tryz.f61=some sf_rfin:=by kernel_rfl
theorem rfin_c (G:Glob) (s:List UInt32) (rest:List UInt8) (count:Nat) (hs:s.length=8) (hr:rest.length<64) (hc:count≤140737488355328):Den Tryz.prog G 61 [.sl (s.map wD),.sl (rest.map bD),.int .i64 (count:Int)] (.w (.c (.fr 1 ((finK s rest count).map bD)))):=by
  refine den_walk Tryz.func61 cf_rfin rfl rfl ?_
  have hj:=rjoin_c G [rest] (by simp) (by simp; omega)
  have hf:[rest].flatten=rest:=by simp
  rw[hf] at hj
  obtain⟨hp1,hp2⟩:=padK_len rest count hr
  simp only[sf_rfin,putAll,wal,stV,seval,iteOmega,toNatUp,reduceCtorEq]
  refine st_call (rcon_c G) rfl (.inl rfl) ?_
  simp only[wal,stV,seval,iteOmega,toNatUp,reduceCtorEq]
  refine st_call hj rfl (.inl rfl) ?_
  simp only[wal,stV,seval,iteOmega,toNatUp,reduceCtorEq,srcV,b128_is,app_c]
  refine loop_st (rf1St s rest count) (fun j=>(119-rest.length)%64-j) (fun j=>j≤(119-rest.length)%64) 0 (Nat.zero_le _) ?_ ?_
  ·refine ent_l (fun _=>136) ?_ ?_ rfl rfl <;> simp only[wx,wex,wez,stV,seval,iteOmega,toNatUp,reduceCtorEq]
  ·intro j hj
   have hl:(rest++[128]++List.replicate j 0).length=rest.length+1+j:=by simp; omega
   have ht:((rest++[128]++List.replicate j 0).length:Int).tmod 64=(((rest.length+1+j)%64:Nat):Int):=by rw[hl]; rfl
   by_cases hlt:j<(119-rest.length)%64
   ·have e1:rest++[128]++List.replicate j 0++[0]=rest++[128]++List.replicate (j+1) 0:=by
      rw[List.append_assoc,rep_snoc]
    generalize hx:rest++[128]++List.replicate j 0=x at *
    simp only[lp_rfin_0,rf1St,hx,wal,stV,seval,iteOmega,toNatUp,reduceCtorEq,ht,srcV,b0_is,app_c,e1]
    refine lop_next (j+1) (by omega) (by omega) (ent_l (fun _=>192) ?_ ?_ rfl rfl) <;> simp only[wx,wex,wez,stV,seval,iteOmega,toNatUp,reduceCtorEq]
   ·obtain rfl:j=(119-rest.length)%64:=by omega
    generalize hx:rest++[128]++List.replicate ((119-rest.length)%64) 0=x at *
    simp only[lp_rfin_0,rf1St,hx,wal,stV,seval,iteOmega,toNatUp,reduceCtorEq,ht]
    refine st_call (rput_in G (count*8) 8 (by decide)) ?_ (.inl rfl) ?_
    ·simp only[wal,stV,seval,iteOmega,toNatUp,reduceCtorEq]
    have hx2:x++putL (count*8) 8=padK rest count:=by rw[← hx]; rfl
    simp only[wal,stV,seval,iteOmega,toNatUp,reduceCtorEq,srcV,app_map,hx2,putL_length]
    refine loop_st (rf2St s (padK rest count)) (fun n=>(padK rest count).length / 64-n) (fun n=>n≤(padK rest count).length / 64) 0 (Nat.zero_le _) ?_ ?_
    ·refine ent_l (fun _=>240) ?_ ?_ rfl rfl <;> simp only[wx,wex,wez,stV,seval,iteOmega,toNatUp,reduceCtorEq,foldB]
    ·generalize hpk:padK rest count=p at *
     intro n hn
     have hl8:=foldB_len hs p n
     by_cases hlt:n<p.length / 64
     ·have h2:((p.drop (64*n)).take 64).length=64:=by rw[List.length_take,List.length_drop]; omega
      have e1:64*n+64-64*n=64:=by omega
      simp only[lp_rfin_1,rf2St,wal,stV,seval,iteOmega,toNatUp,reduceCtorEq]
      refine st_call (rblock_c G (foldB s p n) ((p.drop (64*n)).take 64) hl8 h2) ?_ (.inr (fl_w _ _)) ?_
      ·simp only[wal,stV,seval,iteOmega,toNatUp,reduceCtorEq,obSl,e1]
      simp only[wal,stV,seval,iteOmega,toNatUp,reduceCtorEq]
      have e2:64*(n:Int)+64=64*((n:Int)+1):=by omega
      refine lop_next (n+1) (by omega) (by omega) (ent_l id ?_ ?_ rfl rfl) <;> simp only[wx,wex,wez,stV,seval,iteOmega,toNatUp,reduceCtorEq,foldB,e2]
     ·obtain rfl:n=p.length / 64:=by omega
      have hfk:finK s rest count=wordsB (foldB s p (p.length / 64)):=by unfold finK; rw[hpk]
      rw[hfk]
      simp only[rf2St]
      generalize foldB s p (p.length / 64)=ws at hl8
      have h64:¬ ((64*(p.length / 64):Nat):Int)<(p.length:Int):=by omega
      simp only[lp_rfin_1,wal,stV,seval,iteOmega,toNatUp,reduceCtorEq,h64]
      refine loop_st (rf3St ws) (fun k=>8-k) (fun k=>k≤8) 0 (Nat.zero_le _) ?_ ?_
      ·refine ent_l (fun _=>360) ?_ ?_ rfl rfl <;> simp only[wx,wex,wez,stV,seval,iteOmega,toNatUp,reduceCtorEq,wordsB]
      ·intro k hk
       by_cases hlt:k<8
       ·have hw1:(ws.getD k 0).toNat<4294967296:=word_lt _
        have hwl:=wordsB_len (ws.take k)
        rw[List.length_take] at hwl
        simp only[lp_rfin_2,rf3St,wal,stV,seval,iteOmega,toNatUp,reduceCtorEq,get_ws (show k<ws.length by omega)]
        refine st_call (rput_in G (ws.getD k 0).toNat 4 (by decide)) ?_ (.inl rfl) ?_
        ·simp only[wal,stV,seval,iteOmega,toNatUp,reduceCtorEq]
        simp only[wal,stV,seval,iteOmega,toNatUp,reduceCtorEq,srcV,wordsB_take ws k (by omega),putL_length]
        refine lop_next (k+1) (by omega) (by omega) (ent_l (fun _=>456) ?_ ?_ rfl rfl) <;> simp only[wx,wex,wez,stV,seval,iteOmega,toNatUp,reduceCtorEq]
       ·obtain rfl:k=8:=by omega
        have:ws.take 8=ws:=List.take_of_length_le (by omega)
        simp only[lp_rfin_2,rf3St,wal,stV,seval,iteOmega,toNatUp,reduceCtorEq,this]
        exact ret_own (id:=1) (n:=(wordsB ws).length) (s:=1) (by simp only[wx,stV,seval,iteOmega,toNatUp,reduceCtorEq]) (by simp only[wx,stV,seval,iteOmega,toNatUp,reduceCtorEq]) (by rw[List.length_map])
def rsSt (b:List UInt8) (n:Nat):St:=⟨ofL [(0,.w (.c (.d (.sl (b.map bD))))),(3,.w (.c (.d (.sl ((foldB firstK b n).map wD))))),(4,.w (.c (.d (.sl (constK.map wD))))),(5,.w (.c (.d (.int .i64 ((64*(b.length / 64):Nat):Int))))),(6,.w (.c (.d (.int .i64 ((64*n:Nat):Int)))))],hL [],uL []⟩
def lp_rsum_0:SCode :=
 .seq (.seq (.reg [oM 13 6,
 oM 14 5,
 oO 15 (.bin .lss (.t 13) (.t 14))])
 (.cond (.t 15) (.skip)
 (.exit 0)))
 (.seq (.block 1 (.reg [oM 18 3,
 oM 19 4,
 oM 20 0,
 oM 21 6,
 oM 22 6,
 oO 23 (.bin .add (.t 22) (kI 64)),
 oO 24 (.slice 1 (.t 20) (some (.t 21)) (some (.t 23)) none),
 oO 25 (.call 60 [(.t 18),(.t 19),(.t 24)] none),
 oM 3 25]))
 (.reg [oM 16 6,
 oO 17 (.bin .add (.t 16) (kI 64)),
 oM 6 17]))
def sf_rsum:SFn:=⟨1,33,
 .seq (.reg [oO 2 (.mv (.k (.c .nil)))])
 (.seq (.reg [oO 7 (.call 58 [] none),
 oO 8 (.call 59 [] none),
 oM 3 7,
 oM 4 8])
 (.seq (.reg [oM 9 0,
 oO 10 (.len (.t 9)),
 oO 11 (.bin .quo (.t 10) (kI 64)),
 oO 12 (.bin .mul (.t 11) (kI 64)),
 oM 5 12])
 (.seq (.seq (.reg [oO 6 (.mv (kI 0))])
 (.block 0 (.loop lp_rsum_0)))
 (.seq (.reg [oM 26 3,
 oM 27 0,
 oM 28 5,
 oO 29 (.slice 1 (.t 27) (some (.t 28)) none none),
 oM 30 0,
 oO 31 (.len (.t 30)),
 oO 32 (.call 61 [(.t 26),(.t 29),(.t 31)] (some (0,1))),
 oM 2 32])
 (.ret))))),
 [(2,none)]⟩
theorem cf_rsum:compFn Tryz.prog { own:=[32],comp:=[],frz:=[],nils:=[] } Tryz.f30=some sf_rsum:=by kernel_rfl
theorem rsum_c (G:Glob) (b:List UInt8) (hb:b.length≤140737488355328):Den Tryz.prog G 30 [.sl (b.map bD)] (.w (.c (.fr 1 ((sumK b).map bD)))):=by
  refine den_walk Tryz.func30 cf_rsum rfl rfl ?_
  have e1:(b.length:Int).tdiv 64=((b.length / 64:Nat):Int):=rfl
  have e2:((b.length / 64:Nat):Int)*64=((64*(b.length / 64):Nat):Int):=by omega
  have e3:IntKind.i64.wrap ((64*(b.length / 64):Nat):Int)=((64*(b.length / 64):Nat):Int):=IntWalk.i64_in _ (by omega)
  have e4:IntKind.i64.wrap ((b.length / 64:Nat):Int)=((b.length / 64:Nat):Int):=IntWalk.i64_in _ (by omega)
  simp only[sf_rsum,putAll,wx,wy,stV,seval,iteOmega,toNatUp,reduceCtorEq]
  refine st_call (rfst_c G) rfl (.inl rfl) ?_
  simp only[wx,wy,stV,seval,iteOmega,toNatUp,reduceCtorEq]
  refine st_call (rcon_c G) rfl (.inl rfl) ?_
  simp only[wx,wy,stV,seval,iteOmega,toNatUp,reduceCtorEq,e1,e2,e3,e4]
  refine loop_st (rsSt b) (fun n=>b.length / 64-n) (fun n=>n≤b.length / 64) 0 (Nat.zero_le _) ?_ ?_
  ·refine ent_l id ?_ ?_ rfl rfl <;> simp only[wx,wex,stV,seval,iteOmega,toNatUp,reduceCtorEq,foldB]
  ·intro n hn
   have hl8:=foldB_len firstK_len b n
   by_cases hlt:n<b.length / 64
   ·have h2:((b.drop (64*n)).take 64).length=64:=by rw[List.length_take,List.length_drop]; omega
    have e1:64*n+64-64*n=64:=by omega
    have e5:IntKind.i64.wrap (((64*n:Nat):Int)+64)=((64*(n+1):Nat):Int):=by rw[IntWalk.i64_in _ (by omega)]; omega
    have e6:64*(n+1)-64*n=64:=by omega
    simp only[lp_rsum_0,rsSt,wx,wy,stV,seval,iteOmega,toNatUp,reduceCtorEq,e1,e5,e6]
    refine st_call (rblock_c G (foldB firstK b n) ((b.drop (64*n)).take 64) hl8 h2) ?_ (.inl rfl) ?_
    ·simp only[wx,wy,stV,seval,iteOmega,toNatUp,reduceCtorEq]
    simp only[wx,wy,stV,seval,iteOmega,toNatUp,reduceCtorEq,e5]
    refine lop_next (n+1) (by omega) (by omega) (ent_l id ?_ ?_ rfl rfl) <;> simp only[wx,wex,stV,seval,iteOmega,toNatUp,reduceCtorEq,foldB]
   ·obtain rfl:n=b.length / 64:=by omega
    have e1:List.take (b.length-64*(b.length / 64)) (b.drop (64*(b.length / 64)))=b.drop (64*(b.length / 64)):=List.take_of_length_le (by rw[List.length_drop]; exact Nat.le_refl _)
    simp only[lp_rsum_0,rsSt,wx,wy,stV,seval,iteOmega,toNatUp,reduceCtorEq,e1]
    refine st_call (rfin_c G (foldB firstK b (b.length / 64)) (b.drop (64*(b.length / 64))) b.length hl8 (by rw[List.length_drop]; omega) hb) ?_ (.inl rfl) ?_
    ·simp only[wx,wy,stV,seval,iteOmega,toNatUp,reduceCtorEq]
    simp only[wx,wy,stV,seval,iteOmega,toNatUp,reduceCtorEq]
    exact ret_own (id:=256) (n:=(finK (foldB firstK b (b.length / 64)) (b.drop (64*(b.length / 64))) b.length).length) (s:=1) (by simp only[wx,stV,seval,iteOmega,toNatUp,reduceCtorEq]) (by simp only[wx,stV,seval,iteOmega,toNatUp,reduceCtorEq] <;> rfl) (by rw[List.length_map]; rfl)

def withinN (v m:Int):Int:=if m<1 then 0 else v%m
theorem withinN_range (v m:Int) (h:1≤m):0≤withinN v m∧withinN v m<m:=by
  unfold withinN
  rw[if_neg (by omega)]
  exact⟨Int.emod_nonneg _ (by omega),Int.emod_lt_of_pos _ (by omega)⟩
theorem tmod_neg {v m:Int} (hm:0<m) (h:v.tmod m<0):v.tmod m+m=v%m:=by
  have h1:=Int.emod_add_mul_ediv v m
  have h2:=Int.tmod_add_mul_tdiv v m
  have h3:=Int.emod_nonneg v (show m≠0 by omega)
  have h4:=Int.emod_lt_of_pos v hm
  have h5:=Int.lt_tmod_of_pos v hm
  have e:m*(v.tdiv m-v / m)=v%m-v.tmod m:=by rw[Int.mul_sub]; omega
  have k1:v.tdiv m-v / m=1:=by
    rcases Int.lt_trichotomy (v.tdiv m-v / m) 1 with hlt | heq | hgt
    ·exfalso
     have:v.tdiv m-v / m≤0:=by omega
     have:=Int.mul_le_mul_of_nonneg_left this (show 0≤m by omega)
     omega
    ·exact heq
    ·exfalso
     have:2≤v.tdiv m-v / m:=by omega
     have:=Int.mul_le_mul_of_nonneg_left this (show 0≤m by omega)
     omega
  rw[k1] at e
  omega
theorem tmod_pos {v m:Int} (hm:0<m) (h:0≤v.tmod m):v.tmod m=v%m:=by
  have h1:=Int.emod_add_mul_ediv v m
  have h2:=Int.tmod_add_mul_tdiv v m
  have h3:=Int.emod_nonneg v (show m≠0 by omega)
  have h4:=Int.emod_lt_of_pos v hm
  have h5:=Int.tmod_lt_of_pos v hm
  have e:m*(v.tdiv m-v / m)=v%m-v.tmod m:=by rw[Int.mul_sub]; omega
  have k1:v.tdiv m-v / m=0:=by
    rcases Int.lt_trichotomy (v.tdiv m-v / m) 0 with hlt | heq | hgt
    ·exfalso
     have:v.tdiv m-v / m ≤ -1:=by omega
     have:=Int.mul_le_mul_of_nonneg_left this (show 0≤m by omega)
     omega
    ·exact heq
    ·exfalso
     have:1≤v.tdiv m-v / m:=by omega
     have:=Int.mul_le_mul_of_nonneg_left this (show 0≤m by omega)
     omega
  rw[k1] at e
  omega
def sf_within:SFn:=⟨2,16,
 .seq (.reg [oO 4 (.mv (kI 0))])
 (.seq (.seq (.reg [oM 5 1,
 oO 6 (.bin .lss (.t 5) (kI 1))])
 (.cond (.t 6) (.seq (.reg [oO 4 (.mv (kI 0))])
 (.ret))
 (.skip)))
 (.seq (.reg [oM 7 0,
 oM 8 1,
 oO 9 (.bin .rem (.t 7) (.t 8)),
 oM 0 9])
 (.seq (.seq (.reg [oM 10 0,
 oO 11 (.bin .lss (.t 10) (kI 0))])
 (.cond (.t 11) (.reg [oM 12 0,
 oM 13 1,
 oO 14 (.bin .add (.t 12) (.t 13)),
 oM 0 14])
 (.skip)))
 (.seq (.reg [oM 15 0,
 oM 4 15])
 (.ret))))),
 [(4,none)]⟩
theorem cf_within:compFn Tryz.prog { own:=[],comp:=[],frz:=[],nils:=[] } Tryz.f22=some sf_within:=by kernel_rfl
theorem within_c (G:Glob) (v m:Int) (hm:m≤9223372036854775807):Den Tryz.prog G 22 [.int .i64 v,.int .i64 m] (.w (.c (.d (.int .i64 (withinN v m))))):=by
  refine den_walk Tryz.func22 cf_within rfl rfl ?_
  unfold withinN
  by_cases h:m<1
  ·rw[if_pos h]
   simp only[sf_within,putAll,wal,stV,seval,iteOmega,toNatUp,reduceCtorEq]
   exact qd1
  ·rw[if_neg h]
   have hne:¬ m=0:=by omega
   have h4:=Int.tmod_lt_of_pos v (show 0<m by omega)
   by_cases hn:v.tmod m<0
   ·have e:=tmod_neg (by omega) hn
    have h3:=Int.emod_lt_of_pos v (show 0<m by omega)
    have h5:=Int.emod_nonneg v (show m≠0 by omega)
    simp only[sf_within,putAll,wal,stV,seval,iteOmega,toNatUp,reduceCtorEq,hne]
    exact ret_d1 (by simp only[wal,stV,seval,iteOmega,toNatUp,reduceCtorEq,e])
   ·have e:=tmod_pos (v:=v) (show 0<m by omega) (by omega)
    simp only[sf_within,putAll,wal,stV,seval,iteOmega,toNatUp,reduceCtorEq,hne]
    exact ret_d1 (by simp only[wal,stV,seval,iteOmega,toNatUp,reduceCtorEq,e])
def hashAt (s i:Nat):List UInt8:=sumK (putL s 8++putL i 4)
def bytesN (s:Nat) (k:Nat):List UInt8:=((List.range k).map (hashAt s)).flatten
theorem bytesN_succ (s k:Nat):bytesN s k++hashAt s k=bytesN s (k+1):=by simp[bytesN,List.range_succ]
theorem bytesN_len (s:Nat):∀ k,(bytesN s k).length=32*k
  | 0=>rfl
  | k+1=>by rw[← bytesN_succ,List.length_append,bytesN_len s k]; unfold hashAt; rw[sumK_len]; omega
def bytesK (seed n:Int):List UInt8:=(bytesN (seed%18446744073709551616).toNat ((n.toNat+31) / 32)).take n.toNat
theorem bytesK_len (seed n:Int):(bytesK seed n).length=n.toNat:=by
  unfold bytesK; rw[List.length_take,bytesN_len]; omega
def byLSt (seed n:Int) (s:Nat) (k:Nat):St:=⟨ofL [(0,.w (.c (.d (.int .i64 seed)))),(1,.w (.c (.d (.int .i64 n)))),(5,.w (.c (.own 1 1 0 (bytesN s k).length))),(6,.w (.c (.d (.int .i64 (k:Int)))))],hL [(1,.row 1 ((bytesN s k).map bD))],uL [1]⟩
def lp_wbytes_0:SCode :=
 .seq (.seq (.reg [oM 8 5,
 oO 9 (.len (.t 8)),
 oM 10 1,
 oO 11 (.bin .lss (.t 9) (.t 10))])
 (.cond (.t 11) (.skip)
 (.exit 0)))
 (.seq (.block 1 (.reg [oM 14 5,
 oM 15 0,
 oO 16 (.conv .u64 (.t 15)),
 oO 17 (.call 37 [(.t 16),(kI 8)] none),
 oM 18 6,
 oO 19 (.conv .u64 (.t 18)),
 oO 20 (.call 37 [(.t 19),(kI 4)] none),
 oO 21 (.bldSl false 2 1 (.sl []) [(0,(.t 17)),(1,(.t 20))]),
 oO 22 (.call 36 [(.t 21)] none),
 oO 23 (.call 30 [(.t 22)] none),
 oO 24 (.app false 1 1 (.t 14) (.t 23)),
 oM 5 24]))
 (.reg [oM 12 6,
 oO 13 (.bin .add (.t 12) (kI 1)),
 oM 6 13]))
def sf_wbytes:SFn:=⟨2,29,
 .seq (.reg [oO 4 (.mv (.k (.c .nil)))])
 (.seq (.reg [oO 7 (.bldSl true 0 1 (.int .u8 0) []),
 oM 5 7])
 (.seq (.seq (.reg [oO 6 (.mv (kI 0))])
 (.block 0 (.loop lp_wbytes_0)))
 (.seq (.reg [oM 25 5,
 oM 26 1,
 oO 27 (.max [(.t 26),(kI 0)]),
 oO 28 (.slice 1 (.t 25) none (some (.t 27)) none),
 oM 4 28])
 (.ret)))),
 [(4,none)]⟩
theorem cf_wbytes:compFn Tryz.prog { own:=[7],comp:=[],frz:=[],nils:=[] } Tryz.f53=some sf_wbytes:=by kernel_rfl
set_option maxHeartbeats 1600000 in
theorem wbytes_f (G:Glob) (seed n:Int) (hn:n≤1099511627776):Den Tryz.prog G 53 [.int .i64 seed,.int .i64 n] (.w (.c (.fr 1 ((bytesK seed n).map bD)))):=by
  refine den_walk Tryz.func53 cf_wbytes rfl rfl ?_
  obtain⟨s,hs⟩:∃ s:Nat,(seed%18446744073709551616).toNat=s:=⟨_,rfl⟩
  have hw:IntKind.u64.wrap seed=(s:Int):=by rw[IntKind.wrap_u64,← hs]; omega
  have hs2:s<18446744073709551616:=by omega
  have hK:bytesK seed n=(bytesN s ((n.toNat+31) / 32)).take n.toNat:=by unfold bytesK; rw[hs]
  rw[hK]
  simp only[sf_wbytes,putAll,wal,stV,seval,iteOmega,toNatUp,reduceCtorEq]
  refine loop_st (byLSt seed n s) (fun k=>(n.toNat+31) / 32-k) (fun k=>k≤(n.toNat+31) / 32) 0 (Nat.zero_le _) ?_ ?_
  ·refine ent_l (fun _=>56) ?_ ?_ rfl rfl <;> simp only[wx,wex,wez,stV,seval,iteOmega,toNatUp,reduceCtorEq] <;> rfl
  ·intro k hk
   have hl:=bytesN_len s k
   by_cases hlt:k<(n.toNat+31) / 32
   ·have hc:((bytesN s k).length:Int)<n:=by omega
    have hj:=rjoin_c G [putL s 8,putL k 4] (by simp) (by simp[putL_length])
    have hf:[putL s 8,putL k 4].flatten=putL s 8++putL k 4:=by simp
    rw[hf] at hj
    have hb:=bytesN_succ s k
    have hk2:IntKind.u64.wrap (k:Int)=(k:Int):=u64_in _ (by omega) (by omega)
    simp only[lp_wbytes_0,byLSt,wx,wy,stV,seval,iteOmega,toNatUp,reduceCtorEq,hw,hk2]
    refine st_call (rput_in G s 8 (by decide)) rfl (.inl rfl) ?_
    simp only[wx,wy,stV,seval,iteOmega,toNatUp,reduceCtorEq,hw,hk2]
    refine st_call (rput_in G k 4 (by decide)) rfl (.inl rfl) ?_
    simp only[wx,wy,stV,seval,iteOmega,toNatUp,reduceCtorEq]
    refine st_call hj rfl (.inl rfl) ?_
    simp only[wx,wy,stV,seval,iteOmega,toNatUp,reduceCtorEq]
    refine st_call (rsum_c G (putL s 8++putL k 4) (by simp[putL_length])) rfl (.inl rfl) ?_
    have hh:(sumK (putL s 8++putL k 4)).length=32:=sumK_len _
    have hb':bytesN s k++sumK (putL s 8++putL k 4)=bytesN s (k+1):=hb
    simp only[wal,stV,seval,iteOmega,toNatUp,reduceCtorEq,srcV,app_map,hb',hh]
    refine lop_next (k+1) (by omega) (by omega) (ent_l (fun _=>192) ?_ ?_ rfl rfl) <;> simp only[wx,wex,wez,stV,seval,iteOmega,toNatUp,reduceCtorEq]
   ·obtain rfl:k=(n.toNat+31) / 32:=by omega
    have hc:¬ ((bytesN s ((n.toNat+31) / 32)).length:Int)<n:=by omega
    by_cases h0:n<0
    ·have e0:n.toNat=0:=by omega
     simp only[lp_wbytes_0,byLSt,wal,stV,seval,iteOmega,toNatUp,reduceCtorEq,hc,List.foldl_cons,List.foldl_nil]
     rw[e0,List.map_take]
     exact ret_ownN (id:=1) (s:=1) (by simp only[wx,stV,seval,iteOmega,toNatUp,reduceCtorEq]) (by simp only[wx,stV,seval,iteOmega,toNatUp,reduceCtorEq]) (Nat.zero_le _)
    ·simp only[lp_wbytes_0,byLSt,wal,stV,seval,iteOmega,toNatUp,reduceCtorEq,hc,List.foldl_cons,List.foldl_nil]
     rw[List.map_take]
     exact ret_ownN (id:=1) (s:=1) (by simp only[wx,stV,seval,iteOmega,toNatUp,reduceCtorEq]) (by simp only[wx,stV,seval,iteOmega,toNatUp,reduceCtorEq]) (by rw[List.length_map,bytesN_len]; omega)
theorem wbytes_c (G:Glob) (seed n:Int) (hn:n≤1099511627776):Den Tryz.prog G 53 [.int .i64 seed,.int .i64 n] (.w (.c (.d (.sl ((bytesK seed n).map bD))))):=den_ro (wbytes_f G seed n hn)
def keyK (key:List UInt8):List UInt8:=if 64<key.length then sumK key else key
def fillK (k:List UInt8):List UInt8:=k++List.replicate (64-k.length) 0
def blkK (key:List UInt8):List UInt8:=fillK (keyK key)
def mixK (key:List UInt8) (x:UInt8):List UInt8:=(blkK key).map fun b=>xorB b x
def macK (key b:List UInt8):List UInt8:=sumK (mixK key 92++sumK (mixK key 54++b))
def partK (key info:List UInt8):Nat→List UInt8
  | 0=>[]
  | i+1=>macK key (partK key info i++info++[UInt8.ofNat (i+1)])
def allK (key info:List UInt8):Nat→List UInt8
  | 0=>[]
  | i+1=>allK key info i++partK key info (i+1)
def expK (key info:List UInt8) (n:Nat):List UInt8:=(allK key info ((n+31) / 32)).take n
theorem keyK_len (key:List UInt8):(keyK key).length≤64:=by
  unfold keyK; split
  ·rw[sumK_len]; decide
  ·omega
theorem fillK_len {k:List UInt8} (h:k.length≤64):(fillK k).length=64:=by
  simp[fillK]; omega
theorem blkK_len (key:List UInt8):(blkK key).length=64:=fillK_len (keyK_len key)
theorem mixK_len (key:List UInt8) (x:UInt8):(mixK key x).length=64:=by
  rw[mixK,List.length_map,blkK_len]
theorem macK_len (key b:List UInt8):(macK key b).length=32:=sumK_len _
theorem partK_len (key info:List UInt8):∀ i,(partK key info i).length≤32
  | 0=>by simp[partK]
  | i+1=>by rw[partK,macK_len]; exact Nat.le_refl _
theorem allK_len (key info:List UInt8):∀ i,(allK key info i).length=32*i
  | 0=>rfl
  | i+1=>by rw[allK,List.length_append,allK_len key info i,partK,macK_len]; omega
theorem expK_len (key info:List UInt8) (n:Nat):(expK key info n).length=n:=by
  rw[expK,List.length_take,allK_len]; omega
theorem app_fill {k:List UInt8} (l:List D) (hl:l=List.replicate 64 (D.int .u8 0)):k.map bD++l.drop k.length=(fillK k).map bD:=by
  subst hl
  unfold fillK
  rw[List.drop_replicate,List.map_append,rep_b]
theorem len_fill {k:List UInt8} (hk:k.length≤64) (l:List D) (hl:l=List.replicate 64 (D.int .u8 0)):k.length+(l.drop k.length).length=64:=by
  subst hl
  rw[List.drop_replicate,List.length_replicate]; omega
def sf_blkof:SFn:=⟨1,13,
 .seq (.reg [oO 2 (.allocArr [(.int .u8 0),(.int .u8 0),(.int .u8 0),(.int .u8 0),(.int .u8 0),(.int .u8 0),(.int .u8 0),(.int .u8 0),(.int .u8 0),(.int .u8 0),(.int .u8 0),(.int .u8 0),(.int .u8 0),(.int .u8 0),(.int .u8 0),(.int .u8 0),(.int .u8 0),(.int .u8 0),(.int .u8 0),(.int .u8 0),(.int .u8 0),(.int .u8 0),(.int .u8 0),(.int .u8 0),(.int .u8 0),(.int .u8 0),(.int .u8 0),(.int .u8 0),(.int .u8 0),(.int .u8 0),(.int .u8 0),(.int .u8 0),(.int .u8 0),(.int .u8 0),(.int .u8 0),(.int .u8 0),(.int .u8 0),(.int .u8 0),(.int .u8 0),(.int .u8 0),(.int .u8 0),(.int .u8 0),(.int .u8 0),(.int .u8 0),(.int .u8 0),(.int .u8 0),(.int .u8 0),(.int .u8 0),(.int .u8 0),(.int .u8 0),(.int .u8 0),(.int .u8 0),(.int .u8 0),(.int .u8 0),(.int .u8 0),(.int .u8 0),(.int .u8 0),(.int .u8 0),(.int .u8 0),(.int .u8 0),(.int .u8 0),(.int .u8 0),(.int .u8 0),(.int .u8 0)])])
 (.seq (.seq (.reg [oM 4 0,
 oO 5 (.len (.t 4)),
 oO 6 (.bin .gtr (.t 5) (kI 64))])
 (.cond (.t 6) (.reg [oM 7 0,
 oO 8 (.call 27 [(.t 7)] none),
 oM 0 8])
 (.skip)))
 (.seq (.reg [oO 3 (.allocArr [(.int .u8 0),(.int .u8 0),(.int .u8 0),(.int .u8 0),(.int .u8 0),(.int .u8 0),(.int .u8 0),(.int .u8 0),(.int .u8 0),(.int .u8 0),(.int .u8 0),(.int .u8 0),(.int .u8 0),(.int .u8 0),(.int .u8 0),(.int .u8 0),(.int .u8 0),(.int .u8 0),(.int .u8 0),(.int .u8 0),(.int .u8 0),(.int .u8 0),(.int .u8 0),(.int .u8 0),(.int .u8 0),(.int .u8 0),(.int .u8 0),(.int .u8 0),(.int .u8 0),(.int .u8 0),(.int .u8 0),(.int .u8 0),(.int .u8 0),(.int .u8 0),(.int .u8 0),(.int .u8 0),(.int .u8 0),(.int .u8 0),(.int .u8 0),(.int .u8 0),(.int .u8 0),(.int .u8 0),(.int .u8 0),(.int .u8 0),(.int .u8 0),(.int .u8 0),(.int .u8 0),(.int .u8 0),(.int .u8 0),(.int .u8 0),(.int .u8 0),(.int .u8 0),(.int .u8 0),(.int .u8 0),(.int .u8 0),(.int .u8 0),(.int .u8 0),(.int .u8 0),(.int .u8 0),(.int .u8 0),(.int .u8 0),(.int .u8 0),(.int .u8 0),(.int .u8 0)])])
 (.seq (.reg [oO 9 (.sliceArr 1 64 (.t 3) none none),
 oM 10 0,
 oO 11 (.copy 1 (.t 9) (.t 10))])
 (.seq (.reg [oO 12 (.load (.ag 64) (.t 3)),
 oN (.store (.ag 64) (.t 2) (.t 12))])
 (.ret))))),
 [(2,(some (.ag 64)))]⟩
theorem cf_blkof:compFn Tryz.prog { own:=[],comp:=[],frz:=[],nils:=[] } Tryz.f72=some sf_blkof:=by kernel_rfl
theorem blkof_c (G:Glob) (hF:G.at 0=some (.ra (firstK.map wD))) (hG:G.at 1=some (.ra (constK.map wD))) (key:List UInt8) (hb:key.length≤140737488355328):Den Tryz.prog G 72 [.sl (key.map bD)] (.w (.c (.d (.agg ((blkK key).map bD))))):=by
  refine den_walk Tryz.func72 cf_blkof rfl rfl ?_
  by_cases h:64<key.length
  ·have e:blkK key=fillK (sumK key):=by unfold blkK keyK; rw[if_pos h]
   have hl:=sumK_len key
   rw[e]
   simp only[sf_blkof,putAll,wal,stV,seval,iteOmega,toNatUp,reduceCtorEq]
   refine sD (sum_c G hF hG key hb) ?_
   generalize sumK key=s at *
   have z:=app_fill (k:=s)
   have z2:=len_fill (k:=s) (by omega)
   have ht:s.take 64=s:=List.take_of_length_le (by omega)
   have hf:(fillK s).length=64:=fillK_len (by omega)
   simp only[wal,stV,seval,iteOmega,toNatUp,reduceCtorEq,ht,z,z2,hf]
   exact ret_d1 (by simp only[wal,stV,seval,iteOmega,toNatUp,reduceCtorEq,hf])
  ·have e:blkK key=fillK key:=by unfold blkK keyK; rw[if_neg h]
   rw[e]
   have z:=app_fill (k:=key)
   have z2:=len_fill (k:=key) (by omega)
   have ht:key.take 64=key:=List.take_of_length_le (by omega)
   have hf:(fillK key).length=64:=fillK_len (by omega)
   simp only[sf_blkof,putAll,wal,stV,seval,iteOmega,toNatUp,reduceCtorEq,ht,z,z2,hf]
   exact ret_d1 (by simp only[wal,stV,seval,iteOmega,toNatUp,reduceCtorEq,hf])
def maskL (l:List UInt8) (m:UInt8) (i:Nat):List UInt8:=(l.take i).map (fun b=>xorB b m)++l.drop i
theorem maskL_len (l:List UInt8) (m:UInt8) (i:Nat):(maskL l m i).length=l.length:=by
  unfold maskL; rw[List.length_append,List.length_map,← List.length_append,List.take_append_drop]
theorem maskL_get (l:List UInt8) (m:UInt8) (i:Nat) (h:i<l.length):(maskL l m i)[i]?=some l[i]:=by
  unfold maskL
  rw[List.getElem?_append_right (by rw[List.length_map,List.length_take]; omega),List.getElem?_drop,List.length_map,List.length_take]
  rw[show i+(i-min i l.length)=i by omega,List.getElem?_eq_getElem h]
theorem maskL_step (l:List UInt8) (m:UInt8) (i:Nat) (h:i<l.length):(maskL l m i).set i (xorB l[i] m)=maskL l m (i+1):=by
  unfold maskL
  rw[List.set_append_right _ _ (by rw[List.length_map,List.length_take]; omega),List.length_map,List.length_take,show i-min i l.length=0 by omega,List.drop_eq_getElem_cons h,List.set_cons_zero,List.take_succ_eq_append_getElem h,List.map_append,List.append_assoc]
  rfl
theorem maskL_zero (l:List UInt8) (m:UInt8):maskL l m 0=l:=by simp[maskL]
theorem maskL_full (l:List UInt8) (m:UInt8) (i:Nat) (h:l.length≤i):maskL l m i=l.map fun b=>xorB b m:=by
  unfold maskL
  rw[List.take_of_length_le h,List.drop_eq_nil_of_le h,List.append_nil]
def maskSt (l:List UInt8) (m:UInt8) (i:Nat):St:=⟨ofL [(1,.w (.c (.d (bD m)))),(2,.w (.c (.pa 1 1))),(6,.w (.c (.d (.int .i64 (i:Int)))))],hL [(1,.row 1 ((maskL l m i).map bD))],uL [1]⟩
def lp_masked_0:SCode :=
 .seq (.reg [oO 7 (.bin .lss (.t 6) (kI 64))])
 (.seq (.cond (.t 7) (.skip)
 (.exit 0))
 (.seq (.block 1 (.seq (.reg [oM 8 6,
 oM 5 8])
 (.reg [oM 9 5,
 oO 10 (.idxPa 1 64 (.t 2) (.t 9)),
 oO 11 (.load .sc (.t 10)),
 oM 12 1,
 oO 13 (.bin .xor (.t 11) (.t 12)),
 oO 14 (.idxPa 1 64 (.t 2) (.t 9)),
 oN (.store .sc (.t 14) (.t 13))])))
 (.reg [oO 15 (.bin .add (.t 6) (kI 1)),
 oM 6 15])))
def sf_masked:SFn:=⟨2,17,
 .seq (.reg [oO 2 (.box .ownArr (.t 0)),
 oO 4 (.mv (.k (.c .nil)))])
 (.seq (.seq (.reg [oO 6 (.mv (kI 0))])
 (.block 0 (.loop lp_masked_0)))
 (.seq (.reg [oO 16 (.sliceArr 1 64 (.t 2) none none),
 oM 4 16])
 (.ret))),
 [(4,none)]⟩
theorem cf_masked:compFn Tryz.prog { own:=[2],comp:=[],frz:=[],nils:=[] } Tryz.f73=some sf_masked:=by kernel_rfl
theorem masked_c (G:Glob) (l:List UInt8) (hl:l.length=64) (m:UInt8):Den Tryz.prog G 73 [.agg (l.map bD),bD m] (.w (.c (.fr 1 ((l.map fun b=>xorB b m).map bD)))):=by
  refine den_walk Tryz.func73 cf_masked rfl rfl ?_
  simp only[sf_masked,putAll,wal,stV,seval,iteOmega,toNatUp,reduceCtorEq]
  refine loop_st (maskSt l m) (fun i=>64-i) (fun i=>i≤64) 0 (Nat.zero_le _) ?_ ?_
  ·refine ent_l (fun _=>16) ?_ ?_ rfl rfl <;> simp only[wx,wex,wez,stV,seval,iteOmega,toNatUp,reduceCtorEq,maskL_zero]
  ·intro i hi
   have hm:=maskL_len l m i
   by_cases hlt:i<64
   ·have h1:=maskL_get l m i (by omega)
    have h2:=maskL_step l m i (by omega)
    have h3:i<(maskL l m i).length:=by omega
    simp only[lp_masked_0,maskSt,wal,stV,seval,iteOmega,toNatUp,reduceCtorEq,get_map,h1,binV_xorB,stO_bs h3 (one_b _),set_bs,h2]
    refine lop_next (i+1) (by omega) (by omega) (ent_l (fun _=>1) ?_ ?_ rfl rfl) <;> simp only[wx,wex,wez,stV,seval,iteOmega,toNatUp,reduceCtorEq]
   ·obtain rfl:i=64:=by omega
    have h1:=maskL_full l m 64 (by omega)
    simp only[lp_masked_0,maskSt,wal,stV,seval,iteOmega,toNatUp,reduceCtorEq,h1,hl]
    exact ret_own (id:=1) (n:=64) (s:=1) (by simp only[wx,stV,seval,iteOmega,toNatUp,reduceCtorEq]) (by simp only[wx,stV,seval,iteOmega,toNatUp,reduceCtorEq]) (by simp[hl])
def sf_mac:SFn:=⟨2,21,
 .seq (.reg [oO 4 (.mv (.k (.c .nil)))])
 (.seq (.reg [oM 7 0,
 oO 8 (.call 72 [(.t 7)] none),
 oO 5 (.allocArr [(.int .u8 0),(.int .u8 0),(.int .u8 0),(.int .u8 0),(.int .u8 0),(.int .u8 0),(.int .u8 0),(.int .u8 0),(.int .u8 0),(.int .u8 0),(.int .u8 0),(.int .u8 0),(.int .u8 0),(.int .u8 0),(.int .u8 0),(.int .u8 0),(.int .u8 0),(.int .u8 0),(.int .u8 0),(.int .u8 0),(.int .u8 0),(.int .u8 0),(.int .u8 0),(.int .u8 0),(.int .u8 0),(.int .u8 0),(.int .u8 0),(.int .u8 0),(.int .u8 0),(.int .u8 0),(.int .u8 0),(.int .u8 0),(.int .u8 0),(.int .u8 0),(.int .u8 0),(.int .u8 0),(.int .u8 0),(.int .u8 0),(.int .u8 0),(.int .u8 0),(.int .u8 0),(.int .u8 0),(.int .u8 0),(.int .u8 0),(.int .u8 0),(.int .u8 0),(.int .u8 0),(.int .u8 0),(.int .u8 0),(.int .u8 0),(.int .u8 0),(.int .u8 0),(.int .u8 0),(.int .u8 0),(.int .u8 0),(.int .u8 0),(.int .u8 0),(.int .u8 0),(.int .u8 0),(.int .u8 0),(.int .u8 0),(.int .u8 0),(.int .u8 0),(.int .u8 0)]),
 oN (.store (.ag 64) (.t 5) (.t 8))])
 (.seq (.reg [oO 9 (.load (.ag 64) (.t 5)),
 oO 10 (.call 73 [(.t 9),(.k (.c (.d (.int .u8 54))))] none),
 oM 11 1,
 oO 12 (.bldSl false 2 1 (.sl []) [(0,(.t 10)),(1,(.t 11))]),
 oO 13 (.call 31 [(.t 12)] none),
 oO 14 (.call 27 [(.t 13)] none),
 oM 6 14])
 (.seq (.reg [oO 15 (.load (.ag 64) (.t 5)),
 oO 16 (.call 73 [(.t 15),(.k (.c (.d (.int .u8 92))))] none),
 oM 17 6,
 oO 18 (.bldSl false 2 1 (.sl []) [(0,(.t 16)),(1,(.t 17))]),
 oO 19 (.call 31 [(.t 18)] none),
 oO 20 (.call 27 [(.t 19)] (some (0,1))),
 oM 4 20])
 (.ret)))),
 [(4,none)]⟩
theorem cf_mac:compFn Tryz.prog { own:=[20],comp:=[],frz:=[],nils:=[] } Tryz.f54=some sf_mac:=by kernel_rfl
theorem mac_c (G:Glob) (hF:G.at 0=some (.ra (firstK.map wD))) (hG:G.at 1=some (.ra (constK.map wD))) (key b:List UInt8) (hk:key.length≤140737488355328) (hb:b.length≤70368744177664):Den Tryz.prog G 54 [.sl (key.map bD),.sl (b.map bD)] (.w (.c (.fr 1 ((macK key b).map bD)))):=by
  refine den_walk Tryz.func54 cf_mac rfl rfl ?_
  have h1:=join_c G [mixK key 54,b] (by simp) (by simp[mixK_len]; omega)
  have h2:=join_c G [mixK key 92,sumK (mixK key 54++b)] (by simp) (by simp[mixK_len,sumK_len])
  have f1:[mixK key 54,b].flatten=mixK key 54++b:=by simp
  have f2:[mixK key 92,sumK (mixK key 54++b)].flatten=mixK key 92++sumK (mixK key 54++b):=by simp
  rw[f1] at h1
  rw[f2] at h2
  have hl:=blkK_len key
  have hm1:(mixK key 54++b).length≤140737488355328:=by rw[List.length_append,mixK_len]; omega
  have hm2:(mixK key 92++sumK (mixK key 54++b)).length≤140737488355328:=by rw[List.length_append,mixK_len,sumK_len]; decide
  have hs:=sumK_len (mixK key 92++sumK (mixK key 54++b))
  have hmac:macK key b=sumK (mixK key 92++sumK (mixK key 54++b)):=rfl
  rw[hmac]
  simp only[sf_mac,putAll,wal,stV,seval,iteOmega,toNatUp,reduceCtorEq]
  refine sD (blkof_c G hF hG key hk) ?_
  refine sD (masked_c G (blkK key) hl 54) ?_
  refine sD (h1) ?_
  refine sD (sum_c G hF hG _ hm1) ?_
  refine sD (masked_c G (blkK key) hl 92) ?_
  refine sD (h2) ?_
  refine sD (sum_c G hF hG _ hm2) ?_
  exact qf1
def mixS (k:List UInt8) (x:UInt8) (i:Nat):List UInt8:=((fillK k).take i).map (fun b=>xorB b x)++List.replicate (64-i) 0
theorem mixS_len {k:List UInt8} (hk:k.length≤64) (x:UInt8) (i:Nat) (hi:i≤64):(mixS k x i).length=64:=by
  unfold mixS
  rw[List.length_append,List.length_map,List.length_take,fillK_len hk,List.length_replicate]; omega
theorem mixS_get {k:List UInt8} (hk:k.length≤64) (x:UInt8) (i:Nat) (hi:i<64):(mixS k x i)[i]?=some 0:=by
  unfold mixS
  rw[List.getElem?_append_right (by rw[List.length_map,List.length_take]; omega),List.length_map,List.length_take,fillK_len hk,List.getElem?_replicate,if_pos (by omega)]
theorem mixS_step {k:List UInt8} (hk:k.length≤64) (x a:UInt8) (i:Nat) (hi:i<64) (ha:(fillK k)[i]?=some a):(mixS k x i).set i (xorB a x)=mixS k x (i+1):=by
  have h:=set_next (((fillK k).take i).map (fun b=>xorB b x)) 0 (xorB a x) (64-i) (by omega)
  have hl:(((fillK k).take i).map (fun b=>xorB b x)).length=i:=by rw[List.length_map,List.length_take,fillK_len hk]; omega
  rw[hl] at h
  unfold mixS
  rw[h,List.take_add_one,ha,List.map_append]
  rfl
theorem fill_lo (k:List UInt8) (i:Nat) (h:i<k.length):(fillK k)[i]?=some k[i]:=by
  unfold fillK
  rw[List.getElem?_append_left h,List.getElem?_eq_getElem h]
theorem fill_hi (k:List UInt8) (i:Nat) (h:k.length≤i) (h2:i<64):(fillK k)[i]?=some 0:=by
  unfold fillK
  rw[List.getElem?_append_right h,List.getElem?_replicate,if_pos (by omega)]
theorem mixS_zero (k:List UInt8) (x:UInt8):mixS k x 0=List.replicate 64 0:=by simp[mixS]
theorem mixS_full {k:List UInt8} (hk:k.length≤64) (x:UInt8):mixS k x 64=(fillK k).map fun b=>xorB b x:=by
  unfold mixS
  rw[List.take_of_length_le (by rw[fillK_len hk]; exact Nat.le_refl _),Nat.sub_self,List.replicate_zero,List.append_nil]
def mixSt (k:List UInt8) (x:UInt8) (i:Nat):St:=⟨ofL [(0,.w (.c (.d (.sl (k.map bD))))),(1,.w (.c (.d (bD x)))),(5,.w (.c (.own 1 1 0 64))),(6,.w (.c (.d (.int .i64 (i:Int)))))],hL [(1,.row 1 ((mixS k x i).map bD))],uL [1]⟩
def lp_mixed_0:SCode :=
 .seq (.seq (.reg [oM 13 6,
 oO 14 (.bin .lss (.t 13) (kI 64))])
 (.cond (.t 14) (.skip)
 (.exit 0)))
 (.seq (.block 1 (.seq (.seq (.reg [oM 17 6,
 oM 18 0,
 oO 19 (.len (.t 18)),
 oO 20 (.bin .lss (.t 17) (.t 19))])
 (.cond (.t 20) (.reg [oM 21 5,
 oM 22 6,
 oM 23 0,
 oM 24 6,
 oO 25 (.idxSl 1 (.t 23) (.t 24)),
 oO 26 (.load .sc (.t 25)),
 oO 27 (.idxSl 1 (.t 21) (.t 22)),
 oN (.store .sc (.t 27) (.t 26))])
 (.skip)))
 (.reg [oM 28 5,
 oM 29 6,
 oM 30 5,
 oM 31 6,
 oO 32 (.idxSl 1 (.t 30) (.t 31)),
 oO 33 (.load .sc (.t 32)),
 oM 34 1,
 oO 35 (.bin .xor (.t 33) (.t 34)),
 oO 36 (.idxSl 1 (.t 28) (.t 29)),
 oN (.store .sc (.t 36) (.t 35))])))
 (.reg [oM 15 6,
 oO 16 (.bin .add (.t 15) (kI 1)),
 oM 6 16]))
def sf_mixed:SFn:=⟨2,38,
 .seq (.reg [oO 4 (.mv (.k (.c .nil)))])
 (.seq (.seq (.reg [oM 7 0,
 oO 8 (.len (.t 7)),
 oO 9 (.bin .gtr (.t 8) (kI 64))])
 (.cond (.t 9) (.reg [oM 10 0,
 oO 11 (.call 30 [(.t 10)] none),
 oM 0 11])
 (.skip)))
 (.seq (.reg [oO 12 (.make true 1 1 (.int .u8 0) (kI 64) (kI 64)),
 oM 5 12])
 (.seq (.seq (.reg [oO 6 (.mv (kI 0))])
 (.block 0 (.loop lp_mixed_0)))
 (.seq (.reg [oM 37 5,
 oM 4 37])
 (.ret))))),
 [(4,none)]⟩
theorem cf_mixed:compFn Tryz.prog { own:=[],comp:=[],frz:=[],nils:=[] } Tryz.f75=some sf_mixed:=by kernel_rfl
theorem mixed_l (G:Glob) (k:List UInt8) (hk:k.length≤64) (x:UInt8) (Q:AX→St→Prop) (σ:St) (he:Ent σ (mixSt k x 0)) (hq:∀ f,f 5=.w (.c (.own 1 1 0 64))→Q (.ex 0) ⟨f,hL [(1,.row 1 (((fillK k).map fun b=>xorB b x).map bD))],uL [1]⟩):awp Tryz.prog G (.loop lp_mixed_0) Q σ:=by
  refine loop_st (mixSt k x) (fun i=>64-i) (fun i=>i≤64) 0 (Nat.zero_le _) he ?_
  intro i hi
  have hl:=mixS_len hk x i hi
  by_cases hlt:i<64
  ·have h1:=mixS_get hk x i hlt
   have h3:i<(mixS k x i).length:=by omega
   by_cases hkl:i<k.length
   ·have h2:=mixS_step hk x k[i] i hlt (fill_lo k i hkl)
    have e2:k[i]?=some k[i]:=List.getElem?_eq_getElem hkl
    have h4:((mixS k x i).set i k[i])[i]?=some k[i]:=by rw[List.getElem?_set_self h3]
    have h5:i<((mixS k x i).set i k[i]).length:=by rw[List.length_set]; exact h3
    simp only[lp_mixed_0,mixSt,wal,stV,seval,iteOmega,toNatUp,reduceCtorEq,get_map,h1,e2,stO_bs h3 (one_b _),set_bs,h4,stO_bs h5 (one_b _),List.set_set,h2]
    refine lop_next (i+1) (by omega) (by omega) (ent_l (fun _=>1) ?_ ?_ rfl rfl) <;> simp only[wx,wex,wez,stV,seval,iteOmega,toNatUp,reduceCtorEq]
   ·have h2:=mixS_step hk x 0 i hlt (fill_hi k i (by omega) hlt)
    simp only[lp_mixed_0,mixSt,wal,stV,seval,iteOmega,toNatUp,reduceCtorEq,get_map,h1,stO_bs h3 (one_b _),set_bs,h2]
    refine lop_next (i+1) (by omega) (by omega) (ent_l (fun _=>1) ?_ ?_ rfl rfl) <;> simp only[wx,wex,wez,stV,seval,iteOmega,toNatUp,reduceCtorEq]
  ·obtain rfl:i=64:=by omega
   simp only[lp_mixed_0,mixSt,wal,stV,seval,iteOmega,toNatUp,reduceCtorEq,mixS_full hk x]
   exact hq _ (by simp only[wal,stV,seval,iteOmega,toNatUp,reduceCtorEq])
theorem mixed_c (G:Glob) (key:List UInt8) (hb:key.length≤140737488355328) (x:UInt8):Den Tryz.prog G 75 [.sl (key.map bD),bD x] (.w (.c (.fr 1 ((mixK key x).map bD)))):=by
  refine den_walk Tryz.func75 cf_mixed rfl rfl ?_
  by_cases h:64<key.length
  ·have e:mixK key x=(fillK (sumK key)).map fun b=>xorB b x:=by unfold mixK blkK keyK; rw[if_pos h]
   have hl:=sumK_len key
   rw[e]
   simp only[sf_mixed,putAll,wal,stV,seval,iteOmega,toNatUp,reduceCtorEq]
   refine sD (rsum_c G key hb) ?_
   generalize sumK key=s at *
   refine mixed_l G s (by omega) x _ _ (ent_l (fun _=>96) ?_ ?_ rfl rfl) fun f hf=>?_
   ·simp only[wx,wex,wez,stV,seval,iteOmega,toNatUp,reduceCtorEq]
   ·simp only[wx,wex,wez,stV,seval,iteOmega,toNatUp,reduceCtorEq,mixS_zero]
    rfl
   ·simp only[wal,stV,seval,iteOmega,toNatUp,reduceCtorEq,hf]
    exact ret_own (id:=1) (n:=64) (s:=1) (by simp only[wx,stV,seval,iteOmega,toNatUp,reduceCtorEq,hf]) (by simp only[wx,stV,seval,iteOmega,toNatUp,reduceCtorEq]) (by rw[List.length_map,List.length_map,fillK_len (by omega)])
  ·have e:mixK key x=(fillK key).map fun b=>xorB b x:=by unfold mixK blkK keyK; rw[if_neg h]
   rw[e]
   simp only[sf_mixed,putAll,wal,stV,seval,iteOmega,toNatUp,reduceCtorEq]
   refine mixed_l G key (by omega) x _ _ (ent_l (fun _=>96) ?_ ?_ rfl rfl) fun f hf=>?_
   ·simp only[wx,wex,wez,stV,seval,iteOmega,toNatUp,reduceCtorEq]
   ·simp only[wx,wex,wez,stV,seval,iteOmega,toNatUp,reduceCtorEq,mixS_zero]
    rfl
   ·simp only[wal,stV,seval,iteOmega,toNatUp,reduceCtorEq,hf]
    exact ret_own (id:=1) (n:=64) (s:=1) (by simp only[wx,stV,seval,iteOmega,toNatUp,reduceCtorEq,hf]) (by simp only[wx,stV,seval,iteOmega,toNatUp,reduceCtorEq]) (by rw[List.length_map,List.length_map,fillK_len (by omega)])
def sf_rmac:SFn:=⟨2,16,
 .seq (.reg [oO 4 (.mv (.k (.c .nil)))])
 (.seq (.reg [oM 5 0,
 oO 6 (.call 75 [(.t 5),(.k (.c (.d (.int .u8 92))))] none),
 oM 7 0,
 oO 8 (.call 75 [(.t 7),(.k (.c (.d (.int .u8 54))))] none),
 oM 9 1,
 oO 10 (.bldSl false 2 1 (.sl []) [(0,(.t 8)),(1,(.t 9))]),
 oO 11 (.call 36 [(.t 10)] none),
 oO 12 (.call 30 [(.t 11)] none),
 oO 13 (.bldSl false 2 1 (.sl []) [(0,(.t 6)),(1,(.t 12))]),
 oO 14 (.call 36 [(.t 13)] none),
 oO 15 (.call 30 [(.t 14)] (some (0,1))),
 oM 4 15])
 (.ret)),
 [(4,none)]⟩
theorem cf_rmac:compFn Tryz.prog { own:=[15],comp:=[],frz:=[],nils:=[] } Tryz.f57=some sf_rmac:=by kernel_rfl
theorem rmac_c (G:Glob) (key b:List UInt8) (hk:key.length≤140737488355328) (hb:b.length≤70368744177664):Den Tryz.prog G 57 [.sl (key.map bD),.sl (b.map bD)] (.w (.c (.fr 1 ((macK key b).map bD)))):=by
  refine den_walk Tryz.func57 cf_rmac rfl rfl ?_
  have h1:=rjoin_c G [mixK key 54,b] (by simp) (by simp[mixK_len]; omega)
  have h2:=rjoin_c G [mixK key 92,sumK (mixK key 54++b)] (by simp) (by simp[mixK_len,sumK_len])
  have f1:[mixK key 54,b].flatten=mixK key 54++b:=by simp
  have f2:[mixK key 92,sumK (mixK key 54++b)].flatten=mixK key 92++sumK (mixK key 54++b):=by simp
  rw[f1] at h1
  rw[f2] at h2
  have hm1:(mixK key 54++b).length≤140737488355328:=by rw[List.length_append,mixK_len]; omega
  have hm2:(mixK key 92++sumK (mixK key 54++b)).length≤140737488355328:=by rw[List.length_append,mixK_len,sumK_len]; decide
  have hs:=sumK_len (mixK key 92++sumK (mixK key 54++b))
  have hmac:macK key b=sumK (mixK key 92++sumK (mixK key 54++b)):=rfl
  rw[hmac]
  simp only[sf_rmac,putAll,wal,stV,seval,iteOmega,toNatUp,reduceCtorEq]
  refine sD (mixed_c G key hk 92) ?_
  refine sD (mixed_c G key hk 54) ?_
  refine sD (h1) ?_
  refine sD (rsum_c G _ hm1) ?_
  refine sD (h2) ?_
  refine sD (rsum_c G _ hm2) ?_
  exact qf1
def sf_ext:SFn:=⟨2,8,
 .seq (.reg [oO 4 (.mv (.k (.c .nil)))])
 (.seq (.reg [oM 5 0,
 oM 6 1,
 oO 7 (.call 54 [(.t 5),(.t 6)] (some (0,1))),
 oM 4 7])
 (.ret)),
 [(4,none)]⟩
theorem cf_ext:compFn Tryz.prog { own:=[7],comp:=[],frz:=[],nils:=[] } Tryz.f26=some sf_ext:=by kernel_rfl
theorem ext_c (G:Glob) (hF:G.at 0=some (.ra (firstK.map wD))) (hG:G.at 1=some (.ra (constK.map wD))) (key b:List UInt8) (hk:key.length≤140737488355328) (hb:b.length≤70368744177664):Den Tryz.prog G 26 [.sl (key.map bD),.sl (b.map bD)] (.w (.c (.fr 1 ((macK key b).map bD)))):=by
  refine den_walk Tryz.func26 cf_ext rfl rfl ?_
  simp only[sf_ext,putAll,wal,stV,seval,iteOmega,toNatUp,reduceCtorEq]
  refine sD (mac_c G hF hG key b hk hb) ?_
  exact qf1
def sf_rext:SFn:=⟨2,8,
 .seq (.reg [oO 4 (.mv (.k (.c .nil)))])
 (.seq (.reg [oM 5 0,
 oM 6 1,
 oO 7 (.call 57 [(.t 5),(.t 6)] (some (0,1))),
 oM 4 7])
 (.ret)),
 [(4,none)]⟩
theorem cf_rext:compFn Tryz.prog { own:=[7],comp:=[],frz:=[],nils:=[] } Tryz.f29=some sf_rext:=by kernel_rfl
theorem rext_c (G:Glob) (key b:List UInt8) (hk:key.length≤140737488355328) (hb:b.length≤70368744177664):Den Tryz.prog G 29 [.sl (key.map bD),.sl (b.map bD)] (.w (.c (.fr 1 ((macK key b).map bD)))):=by
  refine den_walk Tryz.func29 cf_rext rfl rfl ?_
  simp only[sf_rext,putAll,wal,stV,seval,iteOmega,toNatUp,reduceCtorEq]
  refine sD (rmac_c G key b hk hb) ?_
  exact qf1
def expE (n:Int):Int:=if 0≤n∧n≤8160 then 0 else 4
def expL (key info:List UInt8) (n:Int):List UInt8:=if 0≤n∧n≤8160 then expK key info n.toNat else []
theorem expE_in {n:Int} (h:0≤n∧n≤8160):expE n=0:=if_pos h
theorem expL_in (key info:List UInt8) {n:Int} (h:0≤n∧n≤8160):expL key info n=expK key info n.toNat:=if_pos h
theorem expE_out {n:Int} (h:¬ (0≤n∧n≤8160)):expE n=4:=if_neg h
theorem expL_out (key info:List UInt8) {n:Int} (h:¬ (0≤n∧n≤8160)):expL key info n=[]:=if_neg h
def cutA (key info:List UInt8) (n i:Nat):List UInt8:=(allK key info i).take n
theorem cutA_len (key info:List UInt8) (n i:Nat):(cutA key info n i).length=min n (32*i):=by
  unfold cutA; rw[List.length_take,allK_len]
theorem cutA_step (key info:List UInt8) (n i:Nat) (h:32*i≤n):cutA key info n i++(partK key info (i+1)).take (n-32*i)=cutA key info n (i+1):=by
  unfold cutA
  rw[allK,List.take_append,allK_len]
theorem part_next (key info:List UInt8) (i:Nat):macK key (partK key info i++info++[UInt8.ofNat (i+1)])=partK key info (i+1):=rfl
theorem put1 (v:Nat):putL v 1=[UInt8.ofNat v]:=by simp[putL]
def partV (key info:List UInt8):Nat→V
  | 0=>.w (.c .nil)
  | i+1=>.w (.c (.d (.sl ((partK key info (i+1)).map bD))))
theorem min_two (a b:Nat):List.foldl (fun x y:Int=>if y<x then y else x) (a:Int) [(b:Int)]=((min a b:Nat):Int):=by
  simp only[List.foldl_cons,List.foldl_nil]
  split <;> omega
def expSt (key info:List UInt8) (n i:Nat):St:=⟨ofL [(0,.w (.c (.d (.sl (key.map bD))))),(1,.w (.c (.d (.sl (info.map bD))))),(2,.w (.c (.d (.int .i64 (n:Int))))),(8,.w (.c (.own 1 1 0 (cutA key info n i).length))),(9,partV key info i),(10,.w (.c (.d (.int .u64 ((i+1:Nat):Int)))))],hL [(1,.row 1 ((cutA key info n i).map bD))],uL [1]⟩
def lp_exp_0:SCode :=
 .seq (.seq (.reg [oM 19 8,
 oO 20 (.len (.t 19)),
 oM 21 2,
 oO 22 (.bin .lss (.t 20) (.t 21))])
 (.cond (.t 22) (.skip)
 (.exit 0)))
 (.seq (.block 1 (.seq (.reg [oM 25 0,
 oM 26 9,
 oM 27 1,
 oM 28 10,
 oO 29 (.call 32 [(.t 28),(kI 1)] none),
 oO 30 (.bldSl false 3 1 (.sl []) [(0,(.t 26)),(1,(.t 27)),(2,(.t 29))]),
 oO 31 (.call 31 [(.t 30)] none),
 oO 32 (.call 54 [(.t 25),(.t 31)] none),
 oM 9 32])
 (.reg [oM 33 8,
 oM 34 9,
 oM 35 9,
 oO 36 (.len (.t 35)),
 oM 37 2,
 oM 38 8,
 oO 39 (.len (.t 38)),
 oO 40 (.bin .sub (.t 37) (.t 39)),
 oO 41 (.min [(.t 36),(.t 40)]),
 oO 42 (.slice 1 (.t 34) none (some (.t 41)) none),
 oO 43 (.app false 1 1 (.t 33) (.t 42)),
 oM 8 43])))
 (.reg [oM 23 10,
 oO 24 (.bin .add (.t 23) (.k (.c (.d (.int .u64 1))))),
 oM 10 24]))
def sf_exp:SFn:=⟨3,45,
 .seq (.reg [oO 6 (.mv (.k (.c .nil))),
 oO 7 (.mv (kI 0))])
 (.seq (.seq (.reg [oM 11 2,
 oO 12 (.bin .lss (.t 11) (kI 0)),
 oM 13 12,
 oG 14 (.mv (.t 2)) 13 false,
 oG 15 (.bin .gtr (.t 14) (kI 8160)) 13 false,
 oO 16 (.pick (.t 13) (.k (.c (.d (.bool true)))) (.t 15))])
 (.cond (.t 16) (.seq (.reg [oO 6 (.mv (.k (.c .nil))),
 oO 7 (.mv (kI 4))])
 (.ret))
 (.skip)))
 (.seq (.reg [oM 17 2,
 oO 18 (.make true 1 1 (.int .u8 0) (kI 0) (.t 17)),
 oM 8 18])
 (.seq (.reg [oO 9 (.mv (.k (.c .nil)))])
 (.seq (.seq (.reg [oO 10 (.mv (.k (.c (.d (.int .u64 1)))))])
 (.block 0 (.loop lp_exp_0)))
 (.seq (.reg [oM 44 8,
 oM 6 44,
 oO 7 (.mv (kI 0))])
 (.ret)))))),
 [(6,none),(7,none)]⟩
theorem cf_exp:compFn Tryz.prog { own:=[],comp:=[],frz:=[],nils:=[] } Tryz.f45=some sf_exp:=by kernel_rfl
theorem exp_c (G:Glob) (hF:G.at 0=some (.ra (firstK.map wD))) (hG:G.at 1=some (.ra (constK.map wD))) (key info:List UInt8) (hk:key.length≤140737488355328) (hb:info.length≤35184372088832) (n:Int) (hn1:-9223372036854775808≤n) (hn2:n≤9223372036854775807):Den Tryz.prog G 45 [.sl (key.map bD),.sl (info.map bD),.int .i64 n] (.tup [.c (.d (.sl ((expL key info n).map bD))),.c (.d (.int .i64 (expE n)))]):=by
  refine den_walk Tryz.func45 cf_exp rfl rfl ?_
  by_cases h0:n<0
  ·have hc:¬ (0≤n∧n≤8160):=by omega
   rw[expE_out hc,expL_out key info hc]
   simp only[sf_exp,putAll,wal,stV,seval,iteOmega,toNatUp,reduceCtorEq]
   exact qd2
  ·by_cases h1:8160<n
   ·have hc:¬ (0≤n∧n≤8160):=by omega
    rw[expE_out hc,expL_out key info hc]
    simp only[sf_exp,putAll,wal,stV,seval,iteOmega,toNatUp,reduceCtorEq]
    exact qd2
   ·have hc:0≤n∧n≤8160:=by omega
    rw[expE_in hc,expL_in key info hc]
    obtain⟨m,rfl⟩:=Int.eq_ofNat_of_zero_le hc.1
    rw[Int.toNat_natCast]
    simp only[sf_exp,putAll,wal,stV,seval,iteOmega,toNatUp,reduceCtorEq]
    refine loop_st (expSt key info m) (fun i=>(m+31) / 32-i) (fun i=>i≤(m+31) / 32) 0 (Nat.zero_le _) ?_ ?_
    ·refine ent_l (fun _=>144) ?_ ?_ rfl rfl <;> simp only[wx,wex,wez,stV,seval,iteOmega,toNatUp,reduceCtorEq,cutA,allK,partV]
    ·intro i hi
     have hl:=cutA_len key info m i
     have hp:=partK_len key info i
     by_cases hlt:i<(m+31) / 32
     ·have h32:32*i≤m:=by omega
      have hl:(cutA key info m i).length=32*i:=by omega
      have hj:=join_c G [partK key info i,info,putL (i+1) 1] (by simp) (by simp[putL_length]; omega)
      have hf:[partK key info i,info,putL (i+1) 1].flatten=partK key info i++info++[UInt8.ofNat (i+1)]:=by simp[put1]
      rw[hf] at hj
      have hm:=mac_c G hF hG key (partK key info i++info++[UInt8.ofNat (i+1)]) hk (by simp; omega)
      rw[part_next] at hm
      have hl2:(partK key info (i+1)).length=32:=macK_len _ _
      have hs:=cutA_step key info m i h32
      have hs2:=cutA_len key info m (i+1)
      have hmin:=min_two 32 (m-32*i)
      rw[show ((m-32*i:Nat):Int)=(m:Int)-32*(i:Int) by omega] at hmin
      have hs':cutA key info m i++(partK key info (i+1)).take (min 32 (m-32*i))=cutA key info m (i+1):=by
        rw[← hs]; congr 1
        rw[Nat.min_comm,← List.take_take,List.take_of_length_le (l:=partK key info (i+1)) (by omega)]
      have hlt2:((cutA key info m i).length:Int)<(m:Int):=by omega
      have hmm:min 32 (m-32*i)≤32:=by omega
      have hml:((partK key info (i+1)).take (min 32 (m-32*i))).length=min 32 (m-32*i):=by rw[List.length_take,hl2]; omega
      have hcl:(cutA key info m (i+1)).length=32*i+min 32 (m-32*i):=by omega
      generalize hq:min 32 (m-32*i)=q at *
      rcases i with _ | i
      ·simp only[Int.cast_ofNat_Int,Int.natCast_add,Int.natCast_one,Int.natCast_zero,Int.mul_zero,Int.sub_zero,Nat.mul_zero,Nat.zero_add] at hmin hl hl2 hs' hml hcl
       simp only[lp_exp_0,expSt,partV,wal,stV,seval,iteOmega,toNatUp,reduceCtorEq]
       refine sD (put_in G (0+1) 1 (by decide)) ?_
       refine sD (hj) ?_
       refine sD (hm) ?_
       simp only[wal,stV,seval,iteOmega,toNatUp,reduceCtorEq,hl2,hl,hmin,hml,hs',srcV,Int.sub_zero]
       refine lop_next (0+1) (by omega) (by omega) (ent_l (fun _=>344) ?_ ?_ rfl rfl) <;> simp only[wx,wex,wez,stV,seval,iteOmega,toNatUp,reduceCtorEq,partV,hcl]
      ·simp only[Int.cast_ofNat_Int,Int.natCast_add,Int.natCast_one,Int.natCast_zero] at hmin
       simp only[lp_exp_0,expSt,partV,wal,stV,seval,iteOmega,toNatUp,reduceCtorEq]
       refine sD (put_in G (i+1+1) 1 (by decide)) ?_
       refine sD (hj) ?_
       refine sD (hm) ?_
       simp only[wal,stV,seval,iteOmega,toNatUp,reduceCtorEq,hl2,hl,hmin,hml,hs',srcV]
       refine lop_next (i+1+1) (by omega) (by omega) (ent_l (fun _=>344) ?_ ?_ rfl rfl) <;> simp only[wx,wex,wez,stV,seval,iteOmega,toNatUp,reduceCtorEq,partV,hcl]
     ·obtain rfl:i=(m+31) / 32:=by omega
      have hlt2:¬ ((cutA key info m ((m+31) / 32)).length:Int)<(m:Int):=by omega
      have he:cutA key info m ((m+31) / 32)=expK key info m:=rfl
      rw[he] at hlt2
      simp only[lp_exp_0,expSt,wal,stV,seval,iteOmega,toNatUp,reduceCtorEq,he]
      exact qd2
def rexpSt (key info:List UInt8) (n i:Nat):St:=⟨ofL [(0,.w (.c (.d (.sl (key.map bD))))),(1,.w (.c (.d (.sl (info.map bD))))),(2,.w (.c (.d (.int .i64 (n:Int))))),(8,.w (.c (.own 1 1 0 (allK key info i).length))),(9,partV key info i),(10,.w (.c (.d (.int .i64 ((i+1:Nat):Int)))))],hL [(1,.row 1 ((allK key info i).map bD))],uL [1]⟩
def lp_rexp_0:SCode :=
 .seq (.seq (.reg [oM 19 8,
 oO 20 (.len (.t 19)),
 oM 21 2,
 oO 22 (.bin .lss (.t 20) (.t 21))])
 (.cond (.t 22) (.skip)
 (.exit 0)))
 (.seq (.block 1 (.seq (.reg [oM 25 0,
 oM 26 9,
 oM 27 1,
 oM 28 10,
 oO 29 (.conv .u8 (.t 28)),
 oO 30 (.bldSl false 1 1 (.int .u8 0) [(0,(.t 29))]),
 oO 31 (.bldSl false 3 1 (.sl []) [(0,(.t 26)),(1,(.t 27)),(2,(.t 30))]),
 oO 32 (.call 36 [(.t 31)] none),
 oO 33 (.call 57 [(.t 25),(.t 32)] none),
 oM 9 33])
 (.reg [oM 34 8,
 oM 35 9,
 oO 36 (.app false 1 1 (.t 34) (.t 35)),
 oM 8 36])))
 (.reg [oM 23 10,
 oO 24 (.bin .add (.t 23) (kI 1)),
 oM 10 24]))
def sf_rexp:SFn:=⟨3,40,
 .seq (.reg [oO 6 (.mv (.k (.c .nil))),
 oO 7 (.mv (kI 0))])
 (.seq (.seq (.reg [oM 11 2,
 oO 12 (.bin .lss (.t 11) (kI 0)),
 oM 13 12,
 oG 14 (.mv (.t 2)) 13 false,
 oG 15 (.bin .gtr (.t 14) (kI 8160)) 13 false,
 oO 16 (.pick (.t 13) (.k (.c (.d (.bool true)))) (.t 15))])
 (.cond (.t 16) (.seq (.reg [oO 6 (.mv (.k (.c .nil))),
 oO 7 (.mv (kI 4))])
 (.ret))
 (.skip)))
 (.seq (.reg [oO 17 (.bldSl true 0 1 (.int .u8 0) []),
 oO 18 (.bldSl false 0 1 (.int .u8 0) []),
 oM 8 17,
 oM 9 18])
 (.seq (.seq (.reg [oO 10 (.mv (kI 1))])
 (.block 0 (.loop lp_rexp_0)))
 (.seq (.reg [oM 37 8,
 oM 38 2,
 oO 39 (.slice 1 (.t 37) none (some (.t 38)) none),
 oM 6 39,
 oO 7 (.mv (kI 0))])
 (.ret))))),
 [(6,none),(7,none)]⟩
theorem cf_rexp:compFn Tryz.prog { own:=[17],comp:=[],frz:=[],nils:=[] } Tryz.f47=some sf_rexp:=by kernel_rfl
theorem rexp_c (G:Glob) (key info:List UInt8) (hk:key.length≤140737488355328) (hb:info.length≤35184372088832) (n:Int) (hn1:-9223372036854775808≤n) (hn2:n≤9223372036854775807):Den Tryz.prog G 47 [.sl (key.map bD),.sl (info.map bD),.int .i64 n] (.tup [.c (.d (.sl ((expL key info n).map bD))),.c (.d (.int .i64 (expE n)))]):=by
  refine den_walk Tryz.func47 cf_rexp rfl rfl ?_
  by_cases h0:n<0
  ·have hc:¬ (0≤n∧n≤8160):=by omega
   rw[expE_out hc,expL_out key info hc]
   simp only[sf_rexp,putAll,wal,stV,seval,iteOmega,toNatUp,reduceCtorEq]
   exact qd2
  ·by_cases h1:8160<n
   ·have hc:¬ (0≤n∧n≤8160):=by omega
    rw[expE_out hc,expL_out key info hc]
    simp only[sf_rexp,putAll,wal,stV,seval,iteOmega,toNatUp,reduceCtorEq]
    exact qd2
   ·have hc:0≤n∧n≤8160:=by omega
    rw[expE_in hc,expL_in key info hc]
    obtain⟨m,rfl⟩:=Int.eq_ofNat_of_zero_le hc.1
    rw[Int.toNat_natCast]
    simp only[sf_rexp,putAll,wal,stV,seval,iteOmega,toNatUp,reduceCtorEq]
    refine loop_st (rexpSt key info m) (fun i=>(m+31) / 32-i) (fun i=>i≤(m+31) / 32) 0 (Nat.zero_le _) ?_ ?_
    ·refine ent_l (fun _=>136) ?_ ?_ rfl rfl <;> simp only[wx,wex,wez,stV,seval,iteOmega,toNatUp,reduceCtorEq,allK,partV]
    ·intro i hi
     have hl:=allK_len key info i
     have hp:=partK_len key info i
     by_cases hlt:i<(m+31) / 32
     ·have hj:=rjoin_c G [partK key info i,info,[UInt8.ofNat (i+1)]] (by simp) (by simp; omega)
      have hf:[partK key info i,info,[UInt8.ofNat (i+1)]].flatten=partK key info i++info++[UInt8.ofNat (i+1)]:=by simp
      rw[hf] at hj
      have hm:=rmac_c G key (partK key info i++info++[UInt8.ofNat (i+1)]) hk (by simp; omega)
      rw[part_next] at hm
      have hl2:(partK key info (i+1)).length=32:=macK_len _ _
      have hs':allK key info i++partK key info (i+1)=allK key info (i+1):=rfl
      have hcl:(allK key info (i+1)).length=32*i+32:=by rw[allK_len]; omega
      rcases i with _ | i
      ·simp only[Int.cast_ofNat_Int,Int.natCast_add,Int.natCast_one,Int.natCast_zero,Int.mul_zero,Int.sub_zero,Nat.mul_zero,Nat.zero_add] at hl hl2 hs' hcl
       simp only[lp_rexp_0,rexpSt,partV,wal,stV,seval,iteOmega,toNatUp,reduceCtorEq]
       refine sD (hj) ?_
       refine sD (hm) ?_
       simp only[wal,stV,seval,iteOmega,toNatUp,reduceCtorEq,hl2,hl,hs',srcV,Int.sub_zero]
       refine lop_next (0+1) (by omega) (by omega) (ent_l (fun _=>288) ?_ ?_ rfl rfl) <;> simp only[wx,wex,wez,stV,seval,iteOmega,toNatUp,reduceCtorEq,partV,hcl]
      ·have hby:D.int .u8 ((i:Int)+1+1)=bD (UInt8.ofNat (i+1+1)):=by rw[← byte_of,IntWalk.u8_in _ (by omega)]; rfl
       simp only[lp_rexp_0,rexpSt,partV,wal,stV,seval,iteOmega,toNatUp,reduceCtorEq,hby]
       refine sD (hj) ?_
       refine sD (hm) ?_
       simp only[wal,stV,seval,iteOmega,toNatUp,reduceCtorEq,hl2,hl,hs',srcV]
       refine lop_next (i+1+1) (by omega) (by omega) (ent_l (fun _=>288) ?_ ?_ rfl rfl) <;> simp only[wx,wex,wez,stV,seval,iteOmega,toNatUp,reduceCtorEq,partV,hcl]
     ·obtain rfl:i=(m+31) / 32:=by omega
      have he:(allK key info ((m+31) / 32)).take m=expK key info m:=rfl
      have hle:m≤(allK key info ((m+31) / 32)).length:=by omega
      simp only[lp_rexp_0,rexpSt,wal,stV,seval,iteOmega,toNatUp,reduceCtorEq]
      exact ret_d2 (by simp only[wal,stV,seval,iteOmega,toNatUp,reduceCtorEq,he]) (by simp only[wal,stV,seval,iteOmega,toNatUp,reduceCtorEq])
theorem putk_c (G:Glob) (v:Nat) (k:Int) (hk:0≤k∧k≤64):Den Tryz.prog G 32 [.int .u64 (v:Int),.int .i64 k] (.w (.c (.fr 1 ((putL v k.toNat).map bD)))):=by
  have c:=put_c G v k
  rw[show putN v k=putL v k.toNat from if_pos hk] at c
  exact c
theorem rputk_c (G:Glob) (v:Nat) (k:Int) (hk:0≤k∧k≤64):Den Tryz.prog G 37 [.int .u64 (v:Int),.int .i64 k] (.w (.c (.fr 1 ((putL v k.toNat).map bD)))):=by
  have c:=rput_c G v k
  rw[show putN v k=putL v k.toNat from if_pos hk] at c
  exact c
def sf_cut:SFn:=⟨2,25,
 .seq (.reg [oO 4 (.mv (.k (.c .nil))),
 oO 5 (.mv (.k (.c .nil))),
 oO 6 (.mv (.k (.c (.d (.bool false)))))])
 (.seq (.seq (.reg [oM 7 1,
 oO 8 (.bin .lss (.t 7) (kI 0)),
 oM 9 8,
 oG 10 (.mv (.t 1)) 9 false,
 oG 11 (.mv (.t 0)) 9 false,
 oG 12 (.len (.t 11)) 9 false,
 oG 13 (.bin .gtr (.t 10) (.t 12)) 9 false,
 oO 14 (.pick (.t 9) (.k (.c (.d (.bool true)))) (.t 13))])
 (.cond (.t 14) (.seq (.reg [oO 4 (.mv (.k (.c .nil))),
 oO 5 (.mv (.k (.c .nil))),
 oO 6 (.mv (.k (.c (.d (.bool false)))))])
 (.ret))
 (.skip)))
 (.seq (.reg [oM 15 0,
 oM 16 1,
 oO 17 (.slice 1 (.t 15) none (some (.t 16)) none),
 oO 18 (.bldSl false 1 1 (.sl []) [(0,(.t 17))]),
 oO 19 (.call 31 [(.t 18)] none),
 oM 20 0,
 oM 21 1,
 oO 22 (.slice 1 (.t 20) (some (.t 21)) none none),
 oO 23 (.bldSl false 1 1 (.sl []) [(0,(.t 22))]),
 oO 24 (.call 31 [(.t 23)] none),
 oM 4 19,
 oM 5 24,
 oO 6 (.mv (.k (.c (.d (.bool true)))))])
 (.ret))),
 [(4,none),(5,none),(6,none)]⟩
theorem cf_cut:compFn Tryz.prog { own:=[],comp:=[],frz:=[],nils:=[] } Tryz.f67=some sf_cut:=by kernel_rfl
set_option maxHeartbeats 800000 in
theorem cut_in (G:Glob) (b:List UInt8) (n:Nat) (h:n≤b.length) (hb:b.length≤1099511627776):Den Tryz.prog G 67 [.sl (b.map bD),.int .i64 (n:Int)] (.tup [.c (.d (.sl ((b.take n).map bD))),.c (.d (.sl ((b.drop n).map bD))),.c (.d (.bool true))]):=by
  refine den_walk Tryz.func67 cf_cut rfl rfl ?_
  have c1:=join_c G [b.take n] (by simp) (by simp; omega)
  have c2:=join_c G [b.drop n] (by simp) (by simp; omega)
  simp only[List.map_cons,List.map_nil,List.flatten_cons,List.flatten_nil,List.append_nil] at c1 c2
  have et:(b.drop n).take (b.length-n)=b.drop n:=List.take_of_length_le (by simp)
  have g:((n:Int)>(b.length:Int))=False:=eq_false (by omega)
  simp only[sf_cut,putAll,wal,stV,seval,iteOmega,toNatUp,reduceCtorEq,g]
  refine sC (c1) ?_
  simp only[et,wal,stV,seval,iteOmega,toNatUp,reduceCtorEq]
  refine sC (c2) ?_
  simp only[et,wal,stV,seval,iteOmega,toNatUp,reduceCtorEq]
  exact qd3
theorem cut_no (G:Glob) (b:List UInt8) (n:Int) (h:n<0∨(b.length:Int)<n):Den Tryz.prog G 67 [.sl (b.map bD),.int .i64 n] (.tup [.c (.d (.sl [])),.c (.d (.sl [])),.c (.d (.bool false))]):=by
  refine den_walk Tryz.func67 cf_cut rfl rfl ?_
  rcases Int.lt_or_le n 0 with h1 | h1
  ·simp only[sf_cut,putAll,wal,stV,seval,iteOmega,toNatUp,reduceCtorEq]
   exact ret_d3 (by simp only[wal,stV,seval,iteOmega,toNatUp,reduceCtorEq] <;> rfl) (by simp only[wal,stV,seval,iteOmega,toNatUp,reduceCtorEq] <;> rfl) (by simp only[wal,stV,seval,iteOmega,toNatUp,reduceCtorEq])
  ·have g:(n>(b.length:Int))=True:=eq_true (by omega)
   simp only[sf_cut,putAll,wal,stV,seval,iteOmega,toNatUp,reduceCtorEq,g]
   exact ret_d3 (by simp only[wal,stV,seval,iteOmega,toNatUp,reduceCtorEq] <;> rfl) (by simp only[wal,stV,seval,iteOmega,toNatUp,reduceCtorEq] <;> rfl) (by simp only[wal,stV,seval,iteOmega,toNatUp,reduceCtorEq])
def chgI (b:List UInt8) (at':Int):Nat:=(withinN at' b.length).toNat
def chgB (by':Int):UInt8:=UInt8.ofNat (1+(withinN by' 255).toNat)
def changedL (b:List UInt8) (at' by':Int):List UInt8:=b.set (chgI b at') (xorB (b.getD (chgI b at') 0) (chgB by'))
theorem changedL_len (b:List UInt8) (at' by':Int):(changedL b at' by').length=b.length:=List.length_set
theorem chgI_lt {b:List UInt8} (h:0<b.length) (at':Int):chgI b at'<b.length:=by
  have:=withinN_range at' b.length (by omega)
  unfold chgI; omega
def sf_chg:SFn:=⟨3,25,
 .seq (.reg [oO 6 (.mv (.k (.c .nil)))])
 (.seq (.reg [oM 8 0,
 oO 9 (.bldSl false 1 1 (.sl []) [(0,(.t 8))]),
 oO 10 (.call 36 [(.t 9)] (some (0,1))),
 oM 7 10])
 (.seq (.reg [oM 11 7,
 oM 12 1,
 oM 13 7,
 oO 14 (.len (.t 13)),
 oO 15 (.call 22 [(.t 12),(.t 14)] none),
 oO 16 (.idxSl 1 (.t 11) (.t 15)),
 oO 17 (.load .sc (.t 16)),
 oM 18 2,
 oO 19 (.call 22 [(.t 18),(kI 255)] none),
 oO 20 (.bin .add (kI 1) (.t 19)),
 oO 21 (.conv .u8 (.t 20)),
 oO 22 (.bin .xor (.t 17) (.t 21)),
 oO 23 (.idxSl 1 (.t 11) (.t 15)),
 oN (.store .sc (.t 23) (.t 22))])
 (.seq (.reg [oM 24 7,
 oM 6 24])
 (.ret)))),
 [(6,none)]⟩
theorem cf_chg:compFn Tryz.prog { own:=[10],comp:=[],frz:=[],nils:=[] } Tryz.f24=some sf_chg:=by kernel_rfl
set_option maxHeartbeats 1600000 in
theorem chg_c (G:Glob) (b:List UInt8) (at' by':Int) (h:0<b.length) (hb:b.length≤140737488355328):Den Tryz.prog G 24 [.sl (b.map bD),.int .i64 at',.int .i64 by'] (.w (.c (.fr 1 ((changedL b at' by').map bD)))):=by
  refine den_walk Tryz.func24 cf_chg rfl rfl ?_
  have hj:=rjoin_c G [b] (by simp) (by simp; omega)
  have hf:[b].flatten=b:=by simp
  rw[hf] at hj
  have hw:=withinN_range at' b.length (by omega)
  have hw2:=withinN_range by' 255 (by decide)
  have hi:=chgI_lt h at'
  have ei:((chgI b at':Nat):Int)=withinN at' b.length:=by unfold chgI; omega
  have eb:bD (chgB by')=.int .u8 (1+withinN by' 255):=by
    unfold chgB
    rw[bD_ofNat (by omega)]
    congr 1; omega
  have g1:b[chgI b at']?=some (b.getD (chgI b at') 0):=by rw[List.getD_eq_getElem?_getD,List.getElem?_eq_getElem hi]; rfl
  have x1:=binV_xorB (b.getD (chgI b at') 0) (chgB by')
  rw[eb] at x1
  have hs:b.set (chgI b at') (xorB (b.getD (chgI b at') 0) (chgB by'))=changedL b at' by':=rfl
  have e1:=within_c G at' b.length (by omega)
  have e2:=within_c G by' 255 (by decide)
  rw[← ei] at e1 hw
  generalize withinN by' 255=y at *
  generalize chgI b at'=i at *
  simp only[sf_chg,putAll,wal,stV,seval,iteOmega,toNatUp,reduceCtorEq]
  refine sD (hj) ?_
  refine sC (e1) ?_
  simp only[get_map,g1,wal,stV,seval,iteOmega,toNatUp,reduceCtorEq]
  refine sC (e2) ?_
  simp only[x1,stO_bs hi (one_b _),set_bs,hs,wal,stV,seval,iteOmega,toNatUp,reduceCtorEq]
  exact ret_own (id:=80) (n:=b.length) (s:=1) (by simp only[wx,stV,seval,iteOmega,toNatUp,reduceCtorEq]) (by simp only[wx,stV,seval,iteOmega,toNatUp,reduceCtorEq]) (by simp[changedL_len])
def sf_wkey:SFn:=⟨1,5,
 .seq (.reg [oO 2 (.mv (.k (.c .nil)))])
 (.seq (.reg [oM 3 0,
 oO 4 (.call 53 [(.t 3),(kI 32)] none),
 oM 2 4])
 (.ret)),
 [(2,none)]⟩
theorem cf_wkey:compFn Tryz.prog { own:=[],comp:=[],frz:=[],nils:=[] } Tryz.f52=some sf_wkey:=by kernel_rfl
theorem wkey_c (G:Glob) (seed:Int):Den Tryz.prog G 52 [.int .i64 seed] (.w (.c (.d (.sl ((bytesK seed 32).map bD))))):=by
  refine den_walk Tryz.func52 cf_wkey rfl rfl ?_
  simp only[sf_wkey,putAll,wal,stV,seval,iteOmega,toNatUp,reduceCtorEq]
  refine sD (wbytes_c G seed 32 (by decide)) ?_
  exact qd1
def rgetSt (l:List UInt8) (i:Nat):St:=⟨ofL [(0,.w (.c (.d (.sl (l.map bD))))),(3,.w (.c (.d (.int .u64 (getN (l.take i)))))),(4,.w (.c (.d (.int .i64 (i:Int)))))],hL [],uL []⟩
def lp_rget_0:SCode :=
 .seq (.seq (.reg [oM 5 4,
 oM 6 0,
 oO 7 (.len (.t 6)),
 oO 8 (.bin .lss (.t 5) (.t 7))])
 (.cond (.t 8) (.skip)
 (.exit 0)))
 (.seq (.block 1 (.reg [oM 11 3,
 oO 12 (.bin .shl (.t 11) (.k (.c (.d (.int .u64 8))))),
 oM 13 0,
 oM 14 4,
 oO 15 (.idxSl 1 (.t 13) (.t 14)),
 oO 16 (.load .sc (.t 15)),
 oO 17 (.conv .u64 (.t 16)),
 oO 18 (.bin .or (.t 12) (.t 17)),
 oM 3 18]))
 (.reg [oM 9 4,
 oO 10 (.bin .add (.t 9) (kI 1)),
 oM 4 10]))
def sf_rget:SFn:=⟨1,20,
 .seq (.reg [oO 2 (.mv (.k (.c (.d (.int .u64 0)))))])
 (.seq (.reg [oO 3 (.mv (.k (.c (.d (.int .u64 0)))))])
 (.seq (.seq (.reg [oO 4 (.mv (kI 0))])
 (.block 0 (.loop lp_rget_0)))
 (.seq (.reg [oM 19 3,
 oM 2 19])
 (.ret)))),
 [(2,none)]⟩
theorem cf_rget:compFn Tryz.prog { own:=[],comp:=[],frz:=[],nils:=[] } Tryz.f43=some sf_rget:=by kernel_rfl
set_option maxHeartbeats 400000 in
theorem rget_c (G:Glob) (l:List UInt8) (hl:l.length≤9223372036854775807):Den Tryz.prog G 43 [.sl (l.map bD)] (.w (.c (.d (.int .u64 (getN l))))):=by
  refine den_walk Tryz.func43 cf_rget rfl rfl ?_
  simp only[sf_rget,putAll,wal,stV,seval,iteOmega,toNatUp,reduceCtorEq]
  refine loop_st (rgetSt l) (fun i=>l.length-i) (fun i=>i≤l.length) 0 (Nat.zero_le _) ?_ ?_
  ·refine ent_l (fun i=>i) ?_ ?_ rfl rfl <;> simp only[wx,wex,wez,stV,seval,iteOmega,toNatUp,reduceCtorEq] <;> rfl
  ·intro i hi
   by_cases hlt:i<l.length
   ·have hb:=l[i].toNat_lt
    have e2:l[i]?=some l[i]:=List.getElem?_eq_getElem hlt
    have e3:IntKind.u64.wrap (l[i].toNat:Int)=(l[i].toNat:Int):=u64_in _ (by omega) (by omega)
    have e4:IntKind.i64.wrap ((i:Int)+1)=((i+1:Nat):Int):=by rw[IntWalk.i64_in _ (by omega)]; rfl
    have e5:=getN_take l i hlt
    simp only[lp_rget_0,rgetSt,wx,stV,seval,iteOmega,toNatUp,reduceCtorEq,get_map,e2,IntKind.bits,e3,e4]
    refine lop_next (i+1) (by omega) (by omega) (ent_l id ?_ ?_ rfl rfl) <;> simp only[wx,wex,stV,seval,iteOmega,toNatUp,reduceCtorEq,← e5]
   ·have:l.take i=l:=List.take_of_length_le (by omega)
    simp only[lp_rget_0,rgetSt,wx,stV,seval,iteOmega,toNatUp,reduceCtorEq,this]
    exact ret_d (by simp only[wx,stV,seval,iteOmega,toNatUp,reduceCtorEq])
end Go.Proofs.YtbkhllchjbjhgaaGreatDoor
