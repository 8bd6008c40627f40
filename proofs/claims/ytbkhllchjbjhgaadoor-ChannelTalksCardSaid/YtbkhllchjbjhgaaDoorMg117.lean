/- Texts of one's own, merged: from: The laws of layer 20: ChannelTalks. Own work. -/
import Derived.Test.YtbkhllchjbjhgaaDoorMg19
import Derived.Test.YtbkhllchjbjhgaaDoorMg113
import Derived.Test.YtbkhllchjbjhgaaDoorMg110
import Derived.Test.YtbkhllchjbjhgaaDoorMg116
set_option linter.unusedVariables false
set_option linter.unusedSimpArgs false
namespace Go.Proofs.YtbkhllchjbjhgaaDoor
open Go.RowKit IntWalk
structure Tk where
  K:List UInt8
  n:Int
  m:Int
def tkA (i:Nat) (w:Int) (t:Tk):Tk:=if w=0 then ⟨macK (bytesK (i:Int) 16) t.K,0,0⟩ else if w=1∨w=2 then ⟨t.K,t.n+1,t.m⟩ else ⟨t.K,t.n,t.m+1⟩
def tkS (l:List Fd) (K:List UInt8):Nat→Tk
  | 0=>⟨K,0,0⟩
  | i+1=>tkA i (withinN (l.getD i default).ty 5) (tkS l K i)
theorem tkS_ok (l:List Fd) {K:List UInt8} (h:K.length=32):∀ i,(tkS l K i).K.length=32∧(0≤(tkS l K i).n∧(tkS l K i).n≤(i:Int))∧(0≤(tkS l K i).m∧(tkS l K i).m≤(i:Int))
  | 0=>⟨h,⟨Int.le_refl _,Int.le_refl _⟩,⟨Int.le_refl _,Int.le_refl _⟩⟩
  | i+1=>by
    obtain⟨a,b,c⟩:=tkS_ok l h i
    show (tkA i _ (tkS l K i)).K.length=32∧(0≤(tkA i _ (tkS l K i)).n∧(tkA i _ (tkS l K i)).n≤((i+1:Nat):Int))∧(0≤(tkA i _ (tkS l K i)).m∧(tkA i _ (tkS l K i)).m≤((i+1:Nat):Int))
    unfold tkA
    split
    ·exact⟨macK_len _ _,⟨Int.le_refl _,by show (0:Int)≤_; omega⟩,⟨Int.le_refl _,by show (0:Int)≤_; omega⟩⟩
    ·split
     ·exact⟨a,⟨by show 0≤(tkS l K i).n+1; omega,by show (tkS l K i).n+1≤_; omega⟩,⟨c.1,by show (tkS l K i).m≤_; omega⟩⟩
     ·exact⟨a,⟨b.1,by show (tkS l K i).n≤_; omega⟩,⟨by show 0≤(tkS l K i).m+1; omega,by show (tkS l K i).m+1≤_; omega⟩⟩
def tkB (cl:Bool) (K:List UInt8) (n m:Int):Ob:=.box [.d (.bool cl),.d (.sl (K.map bD)),.d (.sl ((chS cl K).map bD)),.d (.sl ((chR cl K).map bD)),.d (.int .i64 n),.d (.int .i64 m)]
def tkSt (l:List Fd) (K:List UInt8) (i:Nat):St:=⟨ofL [(1,.w (.c (.d (.sl (l.map fdD))))),(5,.w (.c (.ptr 1 1 0 0))),(6,.w (.c (.ptr 2 1 0 0))),(7,.w (.c (.d (.int .i64 (i:Int)))))],
  hL [(1,tkB true (tkS l K i).K (tkS l K i).n (tkS l K i).m),(2,tkB false (tkS l K i).K (tkS l K i).m (tkS l K i).n)],uL [1,2]⟩
def lp_utlk_0:SCode :=
 .seq (.seq (.reg [oM 38 7,
 oM 39 1,
 oO 40 (.len (.t 39)),
 oO 41 (.bin .lss (.t 38) (.t 40))])
 (.cond (.t 41) (.skip)
 (.exit 0)))
 (.seq (.block 1 (.seq (.reg [oM 44 1,
 oM 45 7,
 oO 46 (.idxSl 2 (.t 44) (.t 45)),
 oO 47 (.fieldAddr 1 (.t 46)),
 oO 48 (.load .sc (.t 47)),
 oO 49 (.call 8 [(.t 48),(kI 60)] none),
 oM 8 49])
 (.seq (.reg [oM 50 1,
 oM 51 7,
 oO 52 (.idxSl 2 (.t 50) (.t 51)),
 oO 53 (.fieldAddr 0 (.t 52)),
 oO 54 (.load .sc (.t 53)),
 oO 55 (.call 7 [(.t 54),(kI 5)] none)])
 (.block 2 (.seq (.reg [oO 92 (.bin .eql (.t 55) (kI 0)),
 oM 91 92])
 (.cond (.t 91) (.seq (.reg [oM 93 7,
 oO 94 (.call 9 [(.t 93),(kI 16)] none),
 oM 9 94])
 (.seq (.reg [oO 96 (.load (.ag 6) (.t 5)),
 oM 97 9,
 oO 98 (.call 10 [(.t 96),(.t 97)] none),
 oM 95 98,
 oO 99 (.extract (.t 95) 0),
 oO 100 (.extract (.t 95) 1),
 oO 10 (.alloc [(.d (.bool false)),.nil,.nil,.nil,(.d (.int .i64 0)),(.d (.int .i64 0))]),
 oN (.store (.ag 6) (.t 10) (.t 99)),
 oM 11 100])
 (.seq (.reg [oO 102 (.load (.ag 6) (.t 6)),
 oM 103 9,
 oO 104 (.call 10 [(.t 102),(.t 103)] none),
 oM 101 104,
 oO 105 (.extract (.t 101) 0),
 oO 106 (.extract (.t 101) 1),
 oO 12 (.alloc [(.d (.bool false)),.nil,.nil,.nil,(.d (.int .i64 0)),(.d (.int .i64 0))]),
 oN (.store (.ag 6) (.t 12) (.t 105)),
 oM 13 106])
 (.seq (.seq (.reg [oM 107 11,
 oO 108 (.bin .neq (.t 107) (kI 0)),
 oM 109 108,
 oG 110 (.mv (.t 13)) 109 false,
 oG 111 (.bin .neq (.t 110) (kI 0)) 109 false,
 oO 112 (.pick (.t 109) (.k (.c (.d (.bool true)))) (.t 111))])
 (.cond (.t 112) (.seq (.reg [oO 4 (.mv (.k (.c (.d (.bool false)))))])
 (.ret))
 (.skip)))
 (.reg [oO 113 (.loadX (.ag 6) (.t 10) [(.t 5),(.t 6)]),
 oO 114 (.loadX (.ag 6) (.t 12) [(.t 5),(.t 6)]),
 oN (.store (.ag 6) (.t 5) (.t 113)),
 oN (.store (.ag 6) (.t 6) (.t 114))])))))
 (.seq (.seq (.reg [oO 116 (.bin .eql (.t 55) (kI 1)),
 oM 115 116])
 (.cond (.t 115) (.skip)
 (.reg [oO 117 (.bin .eql (.t 55) (kI 2)),
 oM 115 117])))
 (.cond (.t 115) (.seq (.reg [oO 119 (.load (.ag 6) (.t 5)),
 oM 120 7,
 oM 121 8,
 oO 122 (.call 11 [(.t 119),(.t 120),(.t 121)] none),
 oM 118 122,
 oO 123 (.extract (.t 118) 0),
 oO 124 (.extract (.t 118) 1),
 oO 125 (.extract (.t 118) 2),
 oO 14 (.alloc [(.d (.bool false)),.nil,.nil,.nil,(.d (.int .i64 0)),(.d (.int .i64 0))]),
 oN (.store (.ag 6) (.t 14) (.t 123)),
 oM 15 124,
 oM 16 125])
 (.seq (.reg [oO 127 (.load (.ag 6) (.t 6)),
 oM 128 15,
 oO 129 (.call 12 [(.t 127),(.t 128)] none),
 oM 126 129,
 oO 130 (.extract (.t 126) 0),
 oO 131 (.extract (.t 126) 1),
 oO 132 (.extract (.t 126) 2),
 oO 133 (.extract (.t 126) 3),
 oO 17 (.alloc [(.d (.bool false)),.nil,.nil,.nil,(.d (.int .i64 0)),(.d (.int .i64 0))]),
 oN (.store (.ag 6) (.t 17) (.t 130)),
 oM 18 131,
 oM 19 132,
 oM 20 133])
 (.seq (.seq (.reg [oM 134 16,
 oO 135 (.bin .neq (.t 134) (kI 0)),
 oM 136 135,
 oG 137 (.mv (.t 20)) 136 false,
 oG 138 (.bin .neq (.t 137) (kI 0)) 136 false,
 oO 139 (.pick (.t 136) (.k (.c (.d (.bool true)))) (.t 138)),
 oM 140 139,
 oG 141 (.mv (.t 18)) 140 false,
 oG 142 (.mv (.t 7)) 140 false,
 oG 143 (.bin .neq (.t 141) (.t 142)) 140 false,
 oO 144 (.pick (.t 140) (.k (.c (.d (.bool true)))) (.t 143)),
 oM 145 144,
 oG 146 (.mv (.t 8)) 145 false,
 oG 147 (.mv (.t 19)) 145 false,
 oG 148 (.call 13 [(.t 146),(.t 147)] none) 145 false,
 oG 149 (.un .not (.t 148)) 145 false,
 oO 150 (.pick (.t 145) (.k (.c (.d (.bool true)))) (.t 149)),
 oM 151 150,
 oG 152 (.fieldAddr 4 (.t 14)) 151 false,
 oG 153 (.load .sc (.t 152)) 151 false,
 oG 154 (.fieldAddr 4 (.t 5)) 151 false,
 oG 155 (.load .sc (.t 154)) 151 false,
 oG 156 (.bin .add (.t 155) (kI 1)) 151 false,
 oG 157 (.bin .neq (.t 153) (.t 156)) 151 false,
 oO 158 (.pick (.t 151) (.k (.c (.d (.bool true)))) (.t 157)),
 oM 159 158,
 oG 160 (.fieldAddr 5 (.t 17)) 159 false,
 oG 161 (.load .sc (.t 160)) 159 false,
 oG 162 (.fieldAddr 5 (.t 6)) 159 false,
 oG 163 (.load .sc (.t 162)) 159 false,
 oG 164 (.bin .add (.t 163) (kI 1)) 159 false,
 oG 165 (.bin .neq (.t 161) (.t 164)) 159 false,
 oO 166 (.pick (.t 159) (.k (.c (.d (.bool true)))) (.t 165))])
 (.cond (.t 166) (.seq (.reg [oO 4 (.mv (.k (.c (.d (.bool false)))))])
 (.ret))
 (.skip)))
 (.reg [oO 167 (.loadX (.ag 6) (.t 14) [(.t 5),(.t 6)]),
 oO 168 (.loadX (.ag 6) (.t 17) [(.t 5),(.t 6)]),
 oN (.store (.ag 6) (.t 5) (.t 167)),
 oN (.store (.ag 6) (.t 6) (.t 168))]))))
 (.seq (.reg [oO 57 (.load (.ag 6) (.t 6)),
 oM 58 7,
 oM 59 8,
 oO 60 (.call 11 [(.t 57),(.t 58),(.t 59)] none),
 oM 56 60,
 oO 61 (.extract (.t 56) 0),
 oO 62 (.extract (.t 56) 1),
 oO 63 (.extract (.t 56) 2),
 oO 21 (.alloc [(.d (.bool false)),.nil,.nil,.nil,(.d (.int .i64 0)),(.d (.int .i64 0))]),
 oN (.store (.ag 6) (.t 21) (.t 61)),
 oM 22 62,
 oM 23 63])
 (.seq (.reg [oO 65 (.load (.ag 6) (.t 5)),
 oM 66 22,
 oO 67 (.call 12 [(.t 65),(.t 66)] none),
 oM 64 67,
 oO 68 (.extract (.t 64) 0),
 oO 69 (.extract (.t 64) 1),
 oO 70 (.extract (.t 64) 2),
 oO 71 (.extract (.t 64) 3),
 oO 24 (.alloc [(.d (.bool false)),.nil,.nil,.nil,(.d (.int .i64 0)),(.d (.int .i64 0))]),
 oN (.store (.ag 6) (.t 24) (.t 68)),
 oM 25 69,
 oM 26 70,
 oM 27 71])
 (.seq (.seq (.reg [oM 72 23,
 oO 73 (.bin .neq (.t 72) (kI 0)),
 oM 74 73,
 oG 75 (.mv (.t 27)) 74 false,
 oG 76 (.bin .neq (.t 75) (kI 0)) 74 false,
 oO 77 (.pick (.t 74) (.k (.c (.d (.bool true)))) (.t 76)),
 oM 78 77,
 oG 79 (.mv (.t 25)) 78 false,
 oG 80 (.mv (.t 7)) 78 false,
 oG 81 (.bin .neq (.t 79) (.t 80)) 78 false,
 oO 82 (.pick (.t 78) (.k (.c (.d (.bool true)))) (.t 81)),
 oM 83 82,
 oG 84 (.mv (.t 8)) 83 false,
 oG 85 (.mv (.t 26)) 83 false,
 oG 86 (.call 13 [(.t 84),(.t 85)] none) 83 false,
 oG 87 (.un .not (.t 86)) 83 false,
 oO 88 (.pick (.t 83) (.k (.c (.d (.bool true)))) (.t 87))])
 (.cond (.t 88) (.seq (.reg [oO 4 (.mv (.k (.c (.d (.bool false)))))])
 (.ret))
 (.skip)))
 (.reg [oO 89 (.loadX (.ag 6) (.t 21) [(.t 6),(.t 5)]),
 oO 90 (.loadX (.ag 6) (.t 24) [(.t 6),(.t 5)]),
 oN (.store (.ag 6) (.t 6) (.t 89)),
 oN (.store (.ag 6) (.t 5) (.t 90))]))))))))))))
 (.reg [oM 42 7,
 oO 43 (.bin .add (.t 42) (kI 1)),
 oM 7 43]))
def sf_utlk:SFn:=⟨2,192,
 .seq (.reg [oO 4 (.mv (.k (.c (.d (.bool false)))))])
 (.seq (.seq (.reg [oM 28 1,
 oO 29 (.len (.t 28)),
 oO 30 (.bin .gtr (.t 29) (kI 12))])
 (.cond (.t 30) (.seq (.reg [oO 31 (.call 5 [] none),
 oM 4 31])
 (.ret))
 (.skip)))
 (.seq (.reg [oM 33 0,
 oO 34 (.call 7 [(.t 33),(kI 1000)] none),
 oO 35 (.call 6 [(.t 34)] none),
 oM 32 35,
 oO 36 (.extract (.t 32) 0),
 oO 37 (.extract (.t 32) 1),
 oO 5 (.alloc [(.d (.bool false)),.nil,.nil,.nil,(.d (.int .i64 0)),(.d (.int .i64 0))]),
 oO 6 (.alloc [(.d (.bool false)),.nil,.nil,.nil,(.d (.int .i64 0)),(.d (.int .i64 0))]),
 oN (.store (.ag 6) (.t 5) (.t 36)),
 oN (.store (.ag 6) (.t 6) (.t 37))])
 (.seq (.seq (.reg [oO 7 (.mv (kI 0))])
 (.block 0 (.loop lp_utlk_0)))
 (.seq (.reg [oO 169 (.call 5 [] none),
 oM 170 169,
 oG 171 (.load (.ag 6) (.t 5)) 170 true,
 oG 172 (.call 14 [(.t 171)] none) 170 true,
 oO 173 (.pick (.t 170) (.t 172) (.k (.c (.d (.bool false))))),
 oM 174 173,
 oG 175 (.load (.ag 6) (.t 6)) 174 true,
 oG 176 (.call 14 [(.t 175)] none) 174 true,
 oO 177 (.pick (.t 174) (.t 176) (.k (.c (.d (.bool false))))),
 oM 178 177,
 oG 179 (.fieldAddr 4 (.t 5)) 178 true,
 oG 180 (.load .sc (.t 179)) 178 true,
 oG 181 (.fieldAddr 5 (.t 6)) 178 true,
 oG 182 (.load .sc (.t 181)) 178 true,
 oG 183 (.bin .eql (.t 180) (.t 182)) 178 true,
 oO 184 (.pick (.t 178) (.t 183) (.k (.c (.d (.bool false))))),
 oM 185 184,
 oG 186 (.fieldAddr 4 (.t 6)) 185 true,
 oG 187 (.load .sc (.t 186)) 185 true,
 oG 188 (.fieldAddr 5 (.t 5)) 185 true,
 oG 189 (.load .sc (.t 188)) 185 true,
 oG 190 (.bin .eql (.t 187) (.t 189)) 185 true,
 oO 191 (.pick (.t 185) (.t 190) (.k (.c (.d (.bool false))))),
 oM 4 191])
 (.ret))))),
 [(4,none)]⟩
theorem cf_utlk:compFn Tryd.prog { own:=[],comp:=[],frz:=[],nils:=[],lx:=[(113,[5,6]),(114,[5,6]),(167,[5,6]),(168,[5,6]),(89,[6,5]),(90,[6,5])] } Tryd.f3=some sf_utlk:=by kernel_rfl
set_option maxHeartbeats 1600000 in
theorem utlk_c (G:Glob) (seed:Int) (hseed1:-9223372036854775808≤seed) (hseed2:seed≤9223372036854775807) (steps:List Fd) (hsteps1:steps.length≤maxLen) (hsteps2:∀ f∈steps,fdF f) (hF:G.at 0=some (.ra (firstK.map wD))) (hG:G.at 1=some (.ra (constK.map wD))):Den Tryd.prog G 3 [.int .i64 seed,.sl (steps.map fdD)] (.w (.c (.d (.bool true)))):=by
  refine den_walk Tryd.func3 cf_utlk rfl rfl ?_
  have hmx:maxLen=9223372036854775807:=rfl
  rw[hmx] at hsteps1
  have ck:=known20_c G hF hG
  by_cases h12:steps.length>12
  ·have g:=eq_true (show (steps.length:Int)>12 by omega)
   simp only[sf_utlk,putAll,wal,stV,seval,iteOmega,toNatUp,reduceCtorEq,g]
   refine sD (ck) ?_
   exact qd1
  ·have g:=eq_false (show ¬ (steps.length:Int)>12 by omega)
   have c1:=within_c G seed 1000 (by decide)
   have c2:=wen_c G (withinN seed 1000)
   have kl:=weK_len (withinN seed 1000)
   rw[chP_D,chP_D] at c2
   generalize weK (withinN seed 1000)=K at *
   generalize withinN seed 1000=s at *
   simp only[sf_utlk,putAll,wal,stV,seval,iteOmega,toNatUp,reduceCtorEq,g]
   refine sD (c1) ?_
   refine sD (c2) ?_
   refine loop_st (tkSt steps K) (fun i=>steps.length-i) (fun i=>i≤steps.length) 0 (Nat.zero_le _) ?_ ?_
   ·refine ent_l (fun i=>if i=1 then 40 else 48) ?_ ?_ rfl rfl <;> simp only[wx,wex,wez,stV,seval,iteOmega,toNatUp,reduceCtorEq] <;> first | rfl | exact⟨rfl,rfl⟩ | skip
   ·intro i hi
    obtain⟨kl1,kn,km⟩:=tkS_ok steps kl i
    by_cases hlt:i<steps.length
    ·have g1:=getF hlt
     have e1:tkS steps K (i+1)=tkA i (withinN (steps.getD i default).ty 5) (tkS steps K i):=rfl
     have hda:(steps.getD i default).da.length≤9223372036854775807:=(hsteps2 _ (getF_mem hlt)).2
     have c3:=den_ro (wfew_f G (steps.getD i default).da 60 hda (by decide))
     have c4:=within_c G (steps.getD i default).ty 5 (by decide)
     have hx:((steps.getD i default).da.take 60).length≤16384:=by simp; omega
     have c5:=rsame_c G ((steps.getD i default).da.take 60) ((steps.getD i default).da.take 60)
     rw[beq_self_eq_true] at c5
     generalize (steps.getD i default).da.take 60=x at *
     generalize hw:withinN (steps.getD i default).ty 5=w at *
     generalize ht:tkS steps K i=t at *
     by_cases w0:w=0
     ·have cb:=wbytes_c G (i:Int) 16 (by decide)
      have bl:(bytesK (i:Int) 16).length=16:=bytesK_len _ _
      obtain⟨p1,p2⟩:=rn_P (cl:=true) (K:=t.K) (f:=bytesK (i:Int) 16) (n:=t.n) (m:=t.m) kl1 (by omega) (by omega) (by omega)
      obtain⟨p3,p4⟩:=rn_P (cl:=false) (K:=t.K) (f:=bytesK (i:Int) 16) (n:=t.m) (m:=t.n) kl1 (by omega) (by omega) (by omega)
      have c6:=crn_c G hF hG (chP true t.K t.n t.m) (bytesK (i:Int) 16) (by omega)
      have c7:=crn_c G hF hG (chP false t.K t.m t.n) (bytesK (i:Int) 16) (by omega)
      rw[p1,p2,chP_D,chP_D] at c6
      rw[p3,p4,chP_D,chP_D] at c7
      rw[show tkA i w t=⟨macK (bytesK (i:Int) 16) t.K,0,0⟩ from if_pos w0] at e1
      generalize bytesK (i:Int) 16=F at *
      generalize macK F t.K=M at *
      have g2:=eq_true w0
      clear p1 p2 p3 p4 ck c1 c2
      simp only[lp_utlk_0,tkSt,tkB,ht,wal,stV,seval,iteOmega,toNatUp,reduceCtorEq,get_map,g1,fdD]
      refine sC (c3) ?_
      simp only[get_map,g1,fdD,wal,stV,seval,iteOmega,toNatUp,reduceCtorEq]
      refine sC (c4) ?_
      simp only[g2,wal,stV,seval,iteOmega,toNatUp,reduceCtorEq]
      refine sD (cb) ?_
      refine sD (c6) ?_
      refine sD (c7) ?_
      refine lop_next (i+1) (by omega) (by omega) (ent_l (fun i=>i) ?_ ?_ rfl rfl) <;> simp only[wx,wex,wez,stV,seval,iteOmega,toNatUp,reduceCtorEq,e1] <;> first | rfl | exact⟨rfl,rfl⟩ | skip
     ·have g0:=eq_false w0
      by_cases w12:w=1∨w=2
      ·obtain⟨R,⟨s1,s2,s3,s4⟩,r1,r2,r3,r4⟩:=snd_rcv (cl:=true) (K:=t.K) (b:=x) (n:=t.n) (m:=t.m) (k:=(i:Int)) kl1 (by omega) (by omega) (by omega) hx
       have c6:=csd_c G hF hG (chP true t.K t.n t.m) (i:Int) x (by omega)
       rw[s1,s2,s3,chP_D,chP_D] at c6
       have c7:=crc_c G hF hG (chP (!true) t.K t.m t.n) R (by omega)
       rw[r1,r2,r3,r4,Bool.not_true,chP_D,chP_D] at c7
       rw[show tkA i w t=⟨t.K,t.n+1,t.m⟩ from (if_neg w0).trans (if_pos w12)] at e1
       clear s1 s2 s3 r1 r2 r3 r4 ck c1 c2
       by_cases w1:w=1
       ·have g2:=eq_true w1
        simp only[lp_utlk_0,tkSt,tkB,ht,wal,stV,seval,iteOmega,toNatUp,reduceCtorEq,get_map,g1,fdD]
        refine sC (c3) ?_
        simp only[get_map,g1,fdD,wal,stV,seval,iteOmega,toNatUp,reduceCtorEq]
        refine sC (c4) ?_
        simp only[g0,g2,wal,stV,seval,iteOmega,toNatUp,reduceCtorEq]
        refine sD (c6) ?_
        refine sD (c7) ?_
        refine sD (c5) ?_
        refine lop_next (i+1) (by omega) (by omega) (ent_l (fun i=>i) ?_ ?_ rfl rfl) <;> simp only[wx,wex,wez,stV,seval,iteOmega,toNatUp,reduceCtorEq,e1] <;> first | rfl | exact⟨rfl,rfl⟩ | skip
       ·have g2:=eq_false w1
        have g3:=eq_true (show w=2 by omega)
        simp only[lp_utlk_0,tkSt,tkB,ht,wal,stV,seval,iteOmega,toNatUp,reduceCtorEq,get_map,g1,fdD]
        refine sC (c3) ?_
        simp only[get_map,g1,fdD,wal,stV,seval,iteOmega,toNatUp,reduceCtorEq]
        refine sC (c4) ?_
        simp only[g0,g2,g3,wal,stV,seval,iteOmega,toNatUp,reduceCtorEq]
        refine sD (c6) ?_
        refine sD (c7) ?_
        refine sD (c5) ?_
        refine lop_next (i+1) (by omega) (by omega) (ent_l (fun i=>i) ?_ ?_ rfl rfl) <;> simp only[wx,wex,wez,stV,seval,iteOmega,toNatUp,reduceCtorEq,e1] <;> first | rfl | exact⟨rfl,rfl⟩ | skip
      ·obtain⟨R,⟨s1,s2,s3,s4⟩,r1,r2,r3,r4⟩:=snd_rcv (cl:=false) (K:=t.K) (b:=x) (n:=t.m) (m:=t.n) (k:=(i:Int)) kl1 (by omega) (by omega) (by omega) hx
       have c6:=csd_c G hF hG (chP false t.K t.m t.n) (i:Int) x (by omega)
       rw[s1,s2,s3,chP_D,chP_D] at c6
       have c7:=crc_c G hF hG (chP (!false) t.K t.n t.m) R (by omega)
       rw[r1,r2,r3,r4,Bool.not_false,chP_D,chP_D] at c7
       rw[show tkA i w t=⟨t.K,t.n,t.m+1⟩ from (if_neg w0).trans (if_neg w12)] at e1
       clear s1 s2 s3 r1 r2 r3 r4 ck c1 c2
       have g2:=eq_false (show ¬ w=1 by omega)
       have g3:=eq_false (show ¬ w=2 by omega)
       simp only[lp_utlk_0,tkSt,tkB,ht,wal,stV,seval,iteOmega,toNatUp,reduceCtorEq,get_map,g1,fdD]
       refine sC (c3) ?_
       simp only[get_map,g1,fdD,wal,stV,seval,iteOmega,toNatUp,reduceCtorEq]
       refine sC (c4) ?_
       simp only[g0,g2,g3,wal,stV,seval,iteOmega,toNatUp,reduceCtorEq]
       refine sD (c6) ?_
       refine sD (c7) ?_
       refine sD (c5) ?_
       refine lop_next (i+1) (by omega) (by omega) (ent_l (fun i=>i) ?_ ?_ rfl rfl) <;> simp only[wx,wex,wez,stV,seval,iteOmega,toNatUp,reduceCtorEq,e1] <;> first | rfl | exact⟨rfl,rfl⟩ | skip
    ·generalize ht:tkS steps K i=t at *
     have c3:=cvd_c G hF hG (chP true t.K t.n t.m)
     have c4:=cvd_c G hF hG (chP false t.K t.m t.n)
     rw[decide_eq_true (vd_P kl1 (by omega) (by omega)),chP_D] at c3
     rw[decide_eq_true (vd_P kl1 (by omega) (by omega)),chP_D] at c4
     have g1:((i:Int)<(steps.length:Int))=False:=eq_false (by omega)
     simp only[lp_utlk_0,tkSt,tkB,ht,wal,stV,seval,iteOmega,toNatUp,reduceCtorEq,g1]
     refine sD (ck) ?_
     refine sD (c3) ?_
     refine sD (c4) ?_
     exact qd1
end Go.Proofs.YtbkhllchjbjhgaaDoor
