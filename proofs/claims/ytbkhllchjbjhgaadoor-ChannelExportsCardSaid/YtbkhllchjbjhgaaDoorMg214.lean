/- Texts of one's own, merged: from: The laws of layer 20: ChannelExports. Own work. -/
import Derived.Test.YtbkhllchjbjhgaaDoorMg29
import Derived.Test.YtbkhllchjbjhgaaDoorMg213
import Derived.Test.YtbkhllchjbjhgaaDoorMg210
set_option linter.unusedVariables false
set_option linter.unusedSimpArgs false
namespace Go.Proofs.YtbkhllchjbjhgaaDoor
open Go.RowKit IntWalk
def sf_uexs:SFn:=⟨5,155,
 .seq (.reg [oO 10 (.mv (.k (.c (.d (.bool false)))))])
 (.seq (.seq (.reg [oM 27 1,
 oO 28 (.lenStr (.t 27)),
 oO 29 (.bin .gtr (.t 28) (kI 40)),
 oM 30 29,
 oG 31 (.mv (.t 2)) 30 false,
 oG 32 (.len (.t 31)) 30 false,
 oG 33 (.bin .gtr (.t 32) (kI 60)) 30 false,
 oO 34 (.pick (.t 30) (.k (.c (.d (.bool true)))) (.t 33))])
 (.cond (.t 34) (.seq (.reg [oO 35 (.call 5 [] none),
 oM 10 35])
 (.ret))
 (.skip)))
 (.seq (.reg [oM 37 0,
 oO 38 (.call 7 [(.t 37),(kI 1000)] none),
 oO 39 (.call 6 [(.t 38)] none),
 oM 36 39,
 oO 40 (.extract (.t 36) 0),
 oO 41 (.extract (.t 36) 1),
 oO 11 (.alloc [(.d (.bool false)),.nil,.nil,.nil,(.d (.int .i64 0)),(.d (.int .i64 0))]),
 oO 12 (.alloc [(.d (.bool false)),.nil,.nil,.nil,(.d (.int .i64 0)),(.d (.int .i64 0))]),
 oN (.store (.ag 6) (.t 11) (.t 40)),
 oN (.store (.ag 6) (.t 12) (.t 41))])
 (.seq (.reg [oM 42 3,
 oO 43 (.call 7 [(.t 42),(kI 100)] none),
 oM 3 43])
 (.seq (.reg [oO 45 (.load (.ag 6) (.t 11)),
 oM 46 1,
 oM 47 2,
 oM 48 3,
 oO 49 (.call 15 [(.t 45),(.t 46),(.t 47),(.t 48)] none),
 oM 44 49,
 oO 50 (.extract (.t 44) 0),
 oO 51 (.extract (.t 44) 1),
 oM 13 50,
 oM 14 51])
 (.seq (.reg [oO 53 (.load (.ag 6) (.t 12)),
 oM 54 1,
 oM 55 2,
 oM 56 3,
 oO 57 (.call 15 [(.t 53),(.t 54),(.t 55),(.t 56)] none),
 oM 52 57,
 oO 58 (.extract (.t 52) 0),
 oO 59 (.extract (.t 52) 1),
 oM 15 58,
 oM 16 59])
 (.seq (.reg [oO 61 (.load (.ag 6) (.t 12)),
 oM 62 1,
 oM 63 2,
 oM 64 3,
 oO 65 (.bin .add (.t 64) (kI 5)),
 oO 66 (.call 15 [(.t 61),(.t 62),(.t 63),(.t 65)] none),
 oM 60 66,
 oO 67 (.extract (.t 60) 0),
 oO 68 (.extract (.t 60) 1),
 oM 17 67,
 oM 18 68])
 (.seq (.reg [oM 69 4,
 oO 70 (.call 8 [(.t 69),(kI 40)] none),
 oO 71 (.make true 1 1 (.int .u8 0) (kI 16) (kI 16)),
 oO 72 (.bldFz 2 1 (.sl []) [(0,(.t 70)),(1,(.t 71))]),
 oO 73 (.call 16 [(.t 72)] none),
 oM 4 73])
 (.seq (.reg [oO 75 (.load (.ag 6) (.t 11)),
 oM 76 4,
 oO 77 (.call 10 [(.t 75),(.t 76)] none),
 oM 74 77,
 oO 78 (.extract (.t 74) 0),
 oO 79 (.extract (.t 74) 1),
 oO 19 (.alloc [(.d (.bool false)),.nil,.nil,.nil,(.d (.int .i64 0)),(.d (.int .i64 0))]),
 oN (.store (.ag 6) (.t 19) (.t 78)),
 oM 20 79])
 (.seq (.reg [oO 81 (.load (.ag 6) (.t 12)),
 oM 82 4,
 oO 83 (.call 10 [(.t 81),(.t 82)] none),
 oM 80 83,
 oO 84 (.extract (.t 80) 0),
 oO 85 (.extract (.t 80) 1),
 oO 21 (.alloc [(.d (.bool false)),.nil,.nil,.nil,(.d (.int .i64 0)),(.d (.int .i64 0))]),
 oN (.store (.ag 6) (.t 21) (.t 84)),
 oM 22 85])
 (.seq (.reg [oO 87 (.load (.ag 6) (.t 19)),
 oM 88 1,
 oM 89 2,
 oM 90 3,
 oO 91 (.call 15 [(.t 87),(.t 88),(.t 89),(.t 90)] none),
 oM 86 91,
 oO 92 (.extract (.t 86) 0),
 oO 93 (.extract (.t 86) 1),
 oM 23 92,
 oM 24 93])
 (.seq (.reg [oO 95 (.load (.ag 6) (.t 21)),
 oM 96 1,
 oM 97 2,
 oM 98 3,
 oO 99 (.call 15 [(.t 95),(.t 96),(.t 97),(.t 98)] none),
 oM 94 99,
 oO 100 (.extract (.t 94) 0),
 oO 101 (.extract (.t 94) 1),
 oM 25 100,
 oM 26 101])
 (.seq (.reg [oO 102 (.call 5 [] none),
 oM 103 102,
 oG 104 (.mv (.t 14)) 103 true,
 oG 105 (.bin .eql (.t 104) (kI 0)) 103 true,
 oO 106 (.pick (.t 103) (.t 105) (.k (.c (.d (.bool false))))),
 oM 107 106,
 oG 108 (.mv (.t 16)) 107 true,
 oG 109 (.bin .eql (.t 108) (kI 0)) 107 true,
 oO 110 (.pick (.t 107) (.t 109) (.k (.c (.d (.bool false))))),
 oM 111 110,
 oG 112 (.mv (.t 18)) 111 true,
 oG 113 (.bin .eql (.t 112) (kI 0)) 111 true,
 oO 114 (.pick (.t 111) (.t 113) (.k (.c (.d (.bool false))))),
 oM 115 114,
 oG 116 (.mv (.t 20)) 115 true,
 oG 117 (.bin .eql (.t 116) (kI 0)) 115 true,
 oO 118 (.pick (.t 115) (.t 117) (.k (.c (.d (.bool false))))),
 oM 119 118,
 oG 120 (.mv (.t 22)) 119 true,
 oG 121 (.bin .eql (.t 120) (kI 0)) 119 true,
 oO 122 (.pick (.t 119) (.t 121) (.k (.c (.d (.bool false))))),
 oM 123 122,
 oG 124 (.mv (.t 24)) 123 true,
 oG 125 (.bin .eql (.t 124) (kI 0)) 123 true,
 oO 126 (.pick (.t 123) (.t 125) (.k (.c (.d (.bool false))))),
 oM 127 126,
 oG 128 (.mv (.t 26)) 127 true,
 oG 129 (.bin .eql (.t 128) (kI 0)) 127 true,
 oO 130 (.pick (.t 127) (.t 129) (.k (.c (.d (.bool false))))),
 oM 131 130,
 oG 132 (.mv (.t 13)) 131 true,
 oG 133 (.mv (.t 15)) 131 true,
 oG 134 (.call 13 [(.t 132),(.t 133)] none) 131 true,
 oO 135 (.pick (.t 131) (.t 134) (.k (.c (.d (.bool false))))),
 oM 136 135,
 oG 137 (.mv (.t 17)) 136 true,
 oG 138 (.len (.t 137)) 136 true,
 oG 139 (.mv (.t 3)) 136 true,
 oG 140 (.bin .add (.t 139) (kI 5)) 136 true,
 oG 141 (.bin .eql (.t 138) (.t 140)) 136 true,
 oO 142 (.pick (.t 136) (.t 141) (.k (.c (.d (.bool false))))),
 oM 143 142,
 oG 144 (.mv (.t 17)) 143 true,
 oG 145 (.mv (.t 3)) 143 true,
 oG 146 (.slice 1 (.t 144) none (some (.t 145)) none) 143 true,
 oG 147 (.mv (.t 13)) 143 true,
 oG 148 (.call 13 [(.t 146),(.t 147)] none) 143 true,
 oO 149 (.pick (.t 143) (.t 148) (.k (.c (.d (.bool false))))),
 oM 150 149,
 oG 151 (.mv (.t 23)) 150 true,
 oG 152 (.mv (.t 25)) 150 true,
 oG 153 (.call 13 [(.t 151),(.t 152)] none) 150 true,
 oO 154 (.pick (.t 150) (.t 153) (.k (.c (.d (.bool false))))),
 oM 10 154])
 (.ret))))))))))))),
 [(10,none)]⟩
theorem cf_uexs:compFn Tryd.prog { own:=[],comp:=[],frz:=[72],nils:=[] } Tryd.f4=some sf_uexs:=by kernel_rfl
set_option maxHeartbeats 1600000 in
theorem uexs_c (G:Glob) (seed:Int) (hseed1:-9223372036854775808≤seed) (hseed2:seed≤9223372036854775807) (label:ByteArray) (hlabel:label.size≤maxLen) (context:List UInt8) (hcontext:context.length≤maxLen) (n:Int) (hn1:-9223372036854775808≤n) (hn2:n≤9223372036854775807) (fresh:List UInt8) (hfresh:fresh.length≤maxLen) (hF:G.at 0=some (.ra (firstK.map wD))) (hG:G.at 1=some (.ra (constK.map wD))):Den Tryd.prog G 4 [.int .i64 seed,.str label,.sl (context.map bD),.int .i64 n,.sl (fresh.map bD)] (.w (.c (.d (.bool true)))):=by
  refine den_walk Tryd.func4 cf_uexs rfl rfl ?_
  have hmx:maxLen=9223372036854775807:=rfl
  rw[hmx] at hlabel hcontext hfresh
  have ck:=known20_c G hF hG
  by_cases h1:(label.size:Int)>40
  ·have g1:=eq_true h1
   simp only[sf_uexs,putAll,wal,stV,seval,iteOmega,toNatUp,reduceCtorEq,g1]
   refine sD (ck) ?_
   exact qd1
  ·have g1:=eq_false h1
   by_cases h2:(context.length:Int)>60
   ·have g2:=eq_true h2
    simp only[sf_uexs,putAll,wal,stV,seval,iteOmega,toNatUp,reduceCtorEq,g1,g2]
    refine sD (ck) ?_
    exact qd1
   ·have g2:=eq_false h2
    have c1:=within_c G seed 1000 (by decide)
    have c2:=wen_c G (withinN seed 1000)
    have kl:=weK_len (withinN seed 1000)
    generalize weK (withinN seed 1000)=K at *
    generalize withinN seed 1000=s at *
    have c3:=within_c G n 100 (by decide)
    obtain⟨n1,n2⟩:=withinN_range n 100 (by decide)
    obtain⟨a,ha⟩:=Int.eq_ofNat_of_zero_le n1
    have ha:withinN n 100=(a:Int):=ha
    rw[ha] at c3 n1 n2
    have hz:(0:Int)≤0∧(0:Int)≤1099511627776:=by decide
    obtain⟨p1,p2⟩:=ex_P (cl:=true) (K:=K) (l:=label.data.toList) (x:=context) (n:=0) (m:=0) (i:=(a:Int)) kl hz hz (by omega)
    obtain⟨p3,p4⟩:=ex_P (cl:=false) (K:=K) (l:=label.data.toList) (x:=context) (n:=0) (m:=0) (i:=(a:Int)) kl hz hz (by omega)
    obtain⟨p5,p6⟩:=ex_P (cl:=false) (K:=K) (l:=label.data.toList) (x:=context) (n:=0) (m:=0) (i:=(a:Int)+5) kl hz hz (by omega)
    have c4:=cxp_c G hF hG (chP true K 0 0) label context (a:Int) (by omega) (by omega) (by omega) (by omega)
    have c5:=cxp_c G hF hG (chP false K 0 0) label context (a:Int) (by omega) (by omega) (by omega) (by omega)
    have c6:=cxp_c G hF hG (chP false K 0 0) label context ((a:Int)+5) (by omega) (by omega) (by omega) (by omega)
    rw[p1,p2] at c4
    rw[p3,p4] at c5
    rw[p5,p6] at c6
    have c7:=den_ro (wfew_f G fresh 40 (by omega) (by decide))
    have c8:=rjoin_c G [fresh.take 40,List.replicate 16 0] (by simp) (by simp; omega)
    have hf:16≤(fresh.take 40++List.replicate 16 (0:UInt8)).length∧(fresh.take 40++List.replicate 16 (0:UInt8)).length≤64:=by simp; omega
    rw[show [fresh.take 40,List.replicate 16 (0:UInt8)].flatten=fresh.take 40++List.replicate 16 0 from by simp,List.map_cons,List.map_cons,List.map_nil,← rep_b] at c8
    generalize fresh.take 40++List.replicate 16 (0:UInt8)=F at *
    generalize fresh.take 40=F0 at *
    have ml:=macK_len F K
    obtain⟨q1,q2⟩:=rn_P (cl:=true) (K:=K) (f:=F) (n:=0) (m:=0) kl hz hz hf
    obtain⟨q3,q4⟩:=rn_P (cl:=false) (K:=K) (f:=F) (n:=0) (m:=0) kl hz hz hf
    have c9:=crn_c G hF hG (chP true K 0 0) F (by omega)
    have cA:=crn_c G hF hG (chP false K 0 0) F (by omega)
    rw[q1,q2] at c9
    rw[q3,q4] at cA
    generalize macK F K=M at *
    obtain⟨u1,u2⟩:=ex_P (cl:=true) (K:=M) (l:=label.data.toList) (x:=context) (n:=0) (m:=0) (i:=(a:Int)) ml hz hz (by omega)
    obtain⟨u3,u4⟩:=ex_P (cl:=false) (K:=M) (l:=label.data.toList) (x:=context) (n:=0) (m:=0) (i:=(a:Int)) ml hz hz (by omega)
    have cB:=cxp_c G hF hG (chP true M 0 0) label context (a:Int) (by omega) (by omega) (by omega) (by omega)
    have cC:=cxp_c G hF hG (chP false M 0 0) label context (a:Int) (by omega) (by omega) (by omega) (by omega)
    rw[u1,u2] at cB
    rw[u3,u4] at cC
    rw[show ((a:Nat):Int).toNat=a from rfl] at c4 c5 cB cC
    rw[show ((a:Nat):Int)+5=((a+5:Nat):Int) from rfl,show ((a+5:Nat):Int).toNat=a+5 from rfl] at c6
    have xt:(expK K (labK strEx label.data.toList context) (a+5)).take a=expK K (labK strEx label.data.toList context) a:=expK_take _ _ _ _ (by omega)
    have xl:(expK K (labK strEx label.data.toList context) (a+5)).length=a+5:=expK_len _ _ _
    have cS:=rsame_c G (expK K (labK strEx label.data.toList context) a) (expK K (labK strEx label.data.toList context) a)
    have cT:=rsame_c G (expK M (labK strEx label.data.toList context) a) (expK M (labK strEx label.data.toList context) a)
    rw[beq_self_eq_true] at cS cT
    clear p1 p2 p3 p4 p5 p6 q1 q2 q3 q4 u1 u2 u3 u4 hF hG
    generalize labK strEx label.data.toList context=L at *
    generalize expK M L a=E1 at *
    generalize expK K L a=E2 at *
    generalize expK K L (a+5)=E3 at *
    rw[chP_D] at c4 c5 c6 cB cC
    rw[chP_D,chP_D] at c2 c9 cA
    have a5:((a+5:Nat):Int)=(a:Int)+5:=by omega
    rw[a5] at c6
    simp only[sf_uexs,putAll,wal,stV,seval,iteOmega,toNatUp,reduceCtorEq,g1,g2]
    refine sD (c1) ?_
    refine sD (c2) ?_
    refine sD (c3) ?_
    refine sD (c4) ?_
    refine sD (c5) ?_
    refine sD (c6) ?_
    refine sD (c7) ?_
    refine st_call c8 (by simp only[wal,stV,seval,iteOmega,toNatUp,reduceCtorEq] <;> rfl) (.inl rfl) ?_
    simp only[wal,stV,seval,iteOmega,toNatUp,reduceCtorEq]
    refine sD (c9) ?_
    refine sD (cA) ?_
    refine sD (cB) ?_
    refine sD (cC) ?_
    refine sD (ck) ?_
    refine sC (cS) ?_
    simp only[xl,xt,wal,stV,seval,iteOmega,toNatUp,reduceCtorEq]
    refine sD (cS) ?_
    refine sD (cT) ?_
    exact qd1
end Go.Proofs.YtbkhllchjbjhgaaDoor
