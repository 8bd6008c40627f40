/- Texts of one's own, merged: from: The laws of layer 20: ChannelActs. Own work. -/
import Derived.Test.YtbkhllchjbjhgaaGreatDoorMg19
import Derived.Test.YtbkhllchjbjhgaaGreatDoorMg113
set_option linter.unusedVariables false
set_option linter.unusedSimpArgs false
namespace Go.Proofs.YtbkhllchjbjhgaaGreatDoor
open Go.RowKit IntWalk
def sf_uact:SFn:=⟨7,213,
 .seq (.reg [oO 7 (.box .roBox (.t 0)),
 oO 14 (.mv (.k (.c (.d (.bool false)))))])
 (.seq (.seq (.reg [oO 41 (.load (.ag 6) (.t 7)),
 oO 42 (.call 5 [(.t 41)] none),
 oO 43 (.un .not (.t 42)),
 oM 44 43,
 oG 45 (.mv (.t 2)) 44 false,
 oG 46 (.len (.t 45)) 44 false,
 oG 47 (.bin .gtr (.t 46) (kI 200)) 44 false,
 oO 48 (.pick (.t 44) (.k (.c (.d (.bool true)))) (.t 47)),
 oM 49 48,
 oG 50 (.mv (.t 3)) 49 false,
 oG 51 (.len (.t 50)) 49 false,
 oG 52 (.bin .gtr (.t 51) (kI 100)) 49 false,
 oO 53 (.pick (.t 49) (.k (.c (.d (.bool true)))) (.t 52)),
 oM 54 53,
 oG 55 (.mv (.t 6)) 54 false,
 oG 56 (.lenStr (.t 55)) 54 false,
 oG 57 (.bin .gtr (.t 56) (kI 40)) 54 false,
 oO 58 (.pick (.t 54) (.k (.c (.d (.bool true)))) (.t 57)),
 oM 59 58,
 oG 60 (.mv (.t 5)) 59 false,
 oG 61 (.bin .gtr (.t 60) (kI 100)) 59 false,
 oG 62 (.mv (.t 61)) 59 false,
 oG 63 (.mv (.t 5)) 62 true,
 oG 64 (.bin .leq (.t 63) (kI 8160)) 62 true,
 oG 65 (.pick (.t 62) (.t 64) (.k (.c (.d (.bool false))))) 59 false,
 oO 66 (.pick (.t 59) (.k (.c (.d (.bool true)))) (.t 65))])
 (.cond (.t 66) (.seq (.reg [oO 67 (.call 6 [] none),
 oM 14 67])
 (.ret))
 (.skip)))
 (.seq (.reg [oM 69 1,
 oM 70 2,
 oM 71 3,
 oO 72 (.call 7 [(.t 69),(.t 70),(.t 71)] none),
 oM 68 72,
 oO 73 (.extract (.t 68) 0),
 oO 74 (.extract (.t 68) 1),
 oO 15 (.alloc [(.d (.bool false)),.nil,.nil,.nil,(.d (.int .i64 0)),(.d (.int .i64 0))]),
 oN (.store (.ag 6) (.t 15) (.t 73)),
 oM 16 74])
 (.seq (.reg [oM 76 1,
 oM 77 2,
 oM 78 3,
 oO 79 (.call 8 [(.t 76),(.t 77),(.t 78)] none),
 oM 75 79,
 oO 80 (.extract (.t 75) 0),
 oO 81 (.extract (.t 75) 1),
 oO 17 (.alloc [(.d (.bool false)),.nil,.nil,.nil,(.d (.int .i64 0)),(.d (.int .i64 0))]),
 oN (.store (.ag 6) (.t 17) (.t 80)),
 oM 18 81])
 (.seq (.reg [oO 83 (.load (.ag 6) (.t 7)),
 oM 84 4,
 oM 85 2,
 oO 86 (.call 9 [(.t 83),(.t 84),(.t 85)] none),
 oM 82 86,
 oO 87 (.extract (.t 82) 0),
 oO 88 (.extract (.t 82) 1),
 oO 89 (.extract (.t 82) 2),
 oO 19 (.alloc [(.d (.bool false)),.nil,.nil,.nil,(.d (.int .i64 0)),(.d (.int .i64 0))]),
 oN (.store (.ag 6) (.t 19) (.t 87)),
 oM 20 88,
 oM 21 89])
 (.seq (.reg [oO 91 (.load (.ag 6) (.t 7)),
 oM 92 4,
 oM 93 2,
 oO 94 (.call 10 [(.t 91),(.t 92),(.t 93)] none),
 oM 90 94,
 oO 95 (.extract (.t 90) 0),
 oO 96 (.extract (.t 90) 1),
 oO 97 (.extract (.t 90) 2),
 oO 22 (.alloc [(.d (.bool false)),.nil,.nil,.nil,(.d (.int .i64 0)),(.d (.int .i64 0))]),
 oN (.store (.ag 6) (.t 22) (.t 95)),
 oM 23 96,
 oM 24 97])
 (.seq (.reg [oO 99 (.load (.ag 6) (.t 7)),
 oM 100 2,
 oO 101 (.call 11 [(.t 99),(.t 100)] none),
 oM 98 101,
 oO 102 (.extract (.t 98) 0),
 oO 103 (.extract (.t 98) 1),
 oO 104 (.extract (.t 98) 2),
 oO 105 (.extract (.t 98) 3),
 oO 25 (.alloc [(.d (.bool false)),.nil,.nil,.nil,(.d (.int .i64 0)),(.d (.int .i64 0))]),
 oN (.store (.ag 6) (.t 25) (.t 102)),
 oM 26 103,
 oM 27 104,
 oM 28 105])
 (.seq (.reg [oO 107 (.load (.ag 6) (.t 7)),
 oM 108 2,
 oO 109 (.call 12 [(.t 107),(.t 108)] none),
 oM 106 109,
 oO 110 (.extract (.t 106) 0),
 oO 111 (.extract (.t 106) 1),
 oO 112 (.extract (.t 106) 2),
 oO 113 (.extract (.t 106) 3),
 oO 29 (.alloc [(.d (.bool false)),.nil,.nil,.nil,(.d (.int .i64 0)),(.d (.int .i64 0))]),
 oN (.store (.ag 6) (.t 29) (.t 110)),
 oM 30 111,
 oM 31 112,
 oM 32 113])
 (.seq (.reg [oO 115 (.load (.ag 6) (.t 7)),
 oM 116 6,
 oM 117 3,
 oM 118 5,
 oO 119 (.call 13 [(.t 115),(.t 116),(.t 117),(.t 118)] none),
 oM 114 119,
 oO 120 (.extract (.t 114) 0),
 oO 121 (.extract (.t 114) 1),
 oM 33 120,
 oM 34 121])
 (.seq (.reg [oO 123 (.load (.ag 6) (.t 7)),
 oM 124 6,
 oM 125 3,
 oM 126 5,
 oO 127 (.call 14 [(.t 123),(.t 124),(.t 125),(.t 126)] none),
 oM 122 127,
 oO 128 (.extract (.t 122) 0),
 oO 129 (.extract (.t 122) 1),
 oM 35 128,
 oM 36 129])
 (.seq (.reg [oO 131 (.load (.ag 6) (.t 7)),
 oM 132 2,
 oO 133 (.call 15 [(.t 131),(.t 132)] none),
 oM 130 133,
 oO 134 (.extract (.t 130) 0),
 oO 135 (.extract (.t 130) 1),
 oO 37 (.alloc [(.d (.bool false)),.nil,.nil,.nil,(.d (.int .i64 0)),(.d (.int .i64 0))]),
 oN (.store (.ag 6) (.t 37) (.t 134)),
 oM 38 135])
 (.seq (.reg [oO 137 (.load (.ag 6) (.t 7)),
 oM 138 2,
 oO 139 (.call 16 [(.t 137),(.t 138)] none),
 oM 136 139,
 oO 140 (.extract (.t 136) 0),
 oO 141 (.extract (.t 136) 1),
 oO 39 (.alloc [(.d (.bool false)),.nil,.nil,.nil,(.d (.int .i64 0)),(.d (.int .i64 0))]),
 oN (.store (.ag 6) (.t 39) (.t 140)),
 oM 40 141])
 (.seq (.seq (.reg [oM 142 16,
 oM 143 18,
 oO 144 (.bin .neq (.t 142) (.t 143)),
 oM 145 144,
 oG 146 (.mv (.t 21)) 145 false,
 oG 147 (.mv (.t 24)) 145 false,
 oG 148 (.bin .neq (.t 146) (.t 147)) 145 false,
 oO 149 (.pick (.t 145) (.k (.c (.d (.bool true)))) (.t 148)),
 oM 150 149,
 oG 151 (.mv (.t 28)) 150 false,
 oG 152 (.mv (.t 32)) 150 false,
 oG 153 (.bin .neq (.t 151) (.t 152)) 150 false,
 oO 154 (.pick (.t 150) (.k (.c (.d (.bool true)))) (.t 153)),
 oM 155 154,
 oG 156 (.mv (.t 34)) 155 false,
 oG 157 (.mv (.t 36)) 155 false,
 oG 158 (.bin .neq (.t 156) (.t 157)) 155 false,
 oO 159 (.pick (.t 155) (.k (.c (.d (.bool true)))) (.t 158)),
 oM 160 159,
 oG 161 (.mv (.t 38)) 160 false,
 oG 162 (.mv (.t 40)) 160 false,
 oG 163 (.bin .neq (.t 161) (.t 162)) 160 false,
 oO 164 (.pick (.t 160) (.k (.c (.d (.bool true)))) (.t 163)),
 oM 165 164,
 oG 166 (.mv (.t 26)) 165 false,
 oG 167 (.mv (.t 30)) 165 false,
 oG 168 (.bin .neq (.t 166) (.t 167)) 165 false,
 oO 169 (.pick (.t 165) (.k (.c (.d (.bool true)))) (.t 168)),
 oM 170 169,
 oG 171 (.load (.ag 6) (.t 7)) 170 false,
 oG 172 (.call 17 [(.t 171)] none) 170 false,
 oG 173 (.load (.ag 6) (.t 7)) 170 false,
 oG 174 (.call 18 [(.t 173)] none) 170 false,
 oG 175 (.eqB true (.t 172) (.t 174)) 170 false,
 oO 176 (.pick (.t 170) (.k (.c (.d (.bool true)))) (.t 175))])
 (.cond (.t 176) (.seq (.reg [oO 14 (.mv (.k (.c (.d (.bool false)))))])
 (.ret))
 (.skip)))
 (.seq (.reg [oO 177 (.call 6 [] none),
 oM 178 177,
 oG 179 (.load (.ag 6) (.t 15)) 178 true,
 oG 180 (.load (.ag 6) (.t 17)) 178 true,
 oG 181 (.call 19 [(.t 179),(.t 180)] none) 178 true,
 oO 182 (.pick (.t 178) (.t 181) (.k (.c (.d (.bool false))))),
 oM 183 182,
 oG 184 (.load (.ag 6) (.t 19)) 183 true,
 oG 185 (.load (.ag 6) (.t 22)) 183 true,
 oG 186 (.call 19 [(.t 184),(.t 185)] none) 183 true,
 oO 187 (.pick (.t 183) (.t 186) (.k (.c (.d (.bool false))))),
 oM 188 187,
 oG 189 (.mv (.t 20)) 188 true,
 oG 190 (.mv (.t 23)) 188 true,
 oG 191 (.call 20 [(.t 189),(.t 190)] none) 188 true,
 oO 192 (.pick (.t 188) (.t 191) (.k (.c (.d (.bool false))))),
 oM 193 192,
 oG 194 (.load (.ag 6) (.t 25)) 193 true,
 oG 195 (.load (.ag 6) (.t 29)) 193 true,
 oG 196 (.call 19 [(.t 194),(.t 195)] none) 193 true,
 oO 197 (.pick (.t 193) (.t 196) (.k (.c (.d (.bool false))))),
 oM 198 197,
 oG 199 (.mv (.t 27)) 198 true,
 oG 200 (.mv (.t 31)) 198 true,
 oG 201 (.call 20 [(.t 199),(.t 200)] none) 198 true,
 oO 202 (.pick (.t 198) (.t 201) (.k (.c (.d (.bool false))))),
 oM 203 202,
 oG 204 (.mv (.t 33)) 203 true,
 oG 205 (.mv (.t 35)) 203 true,
 oG 206 (.call 20 [(.t 204),(.t 205)] none) 203 true,
 oO 207 (.pick (.t 203) (.t 206) (.k (.c (.d (.bool false))))),
 oM 208 207,
 oG 209 (.load (.ag 6) (.t 37)) 208 true,
 oG 210 (.load (.ag 6) (.t 39)) 208 true,
 oG 211 (.call 19 [(.t 209),(.t 210)] none) 208 true,
 oO 212 (.pick (.t 208) (.t 211) (.k (.c (.d (.bool false))))),
 oM 14 212])
 (.ret)))))))))))))),
 [(14,none)]⟩
theorem cf_uact:compFn Tryz.prog { own:=[],comp:=[],frz:=[],nils:=[] } Tryz.f3=some sf_uact:=by kernel_rfl
set_option maxHeartbeats 1600000 in
theorem uact_c (G:Glob) (c0:Bool) (c1:List UInt8) (hc1:c1.length≤maxLen) (c2:List UInt8) (hc2:c2.length≤maxLen) (c3:List UInt8) (hc3:c3.length≤maxLen) (c4:Int) (hc41:-9223372036854775808≤c4) (hc42:c4≤9223372036854775807) (c5:Int) (hc51:-9223372036854775808≤c5) (hc52:c5≤9223372036854775807) (client:Bool) (b:List UInt8) (hb:b.length≤maxLen) (hello:List UInt8) (hhello:hello.length≤maxLen) (kind:Int) (hkind1:-9223372036854775808≤kind) (hkind2:kind≤9223372036854775807) (n:Int) (hn1:-9223372036854775808≤n) (hn2:n≤9223372036854775807) (label:ByteArray) (hlabel:label.size≤maxLen) (hF:G.at 0=some (.ra (firstK.map wD))) (hG:G.at 1=some (.ra (constK.map wD))):Den Tryz.prog G 3 [.agg [.bool c0,.sl (c1.map bD),.sl (c2.map bD),.sl (c3.map bD),.int .i64 c4,.int .i64 c5],.bool client,.sl (b.map bD),.sl (hello.map bD),.int .i64 kind,.int .i64 n,.str label] (.w (.c (.d (.bool true)))):=by
  refine den_walk Tryz.func3 cf_uact rfl rfl ?_
  have hmx:maxLen=9223372036854775807:=rfl
  rw[hmx] at hb hhello hlabel
  have ck:=known20_c G hF hG
  have cl:=lgh20_c G ⟨c0,c1,c2,c3,c4,c5⟩
  rw[show chD ⟨c0,c1,c2,c3,c4,c5⟩=.agg [.bool c0,.sl (c1.map bD),.sl (c2.map bD),.sl (c3.map bD),.int .i64 c4,.int .i64 c5] from rfl] at cl
  by_cases hl:ltC ⟨c0,c1,c2,c3,c4,c5⟩=true
  ·rw[hl] at cl
   by_cases h1:(b.length:Int)>200
   ·have g1:=eq_true h1
    simp only[sf_uact,putAll,wal,stV,seval,iteOmega,toNatUp,reduceCtorEq]
    refine sC (cl) ?_
    simp only[g1,wal,stV,seval,iteOmega,toNatUp,reduceCtorEq]
    refine sD (ck) ?_
    exact qd1
   ·have g1:=eq_false h1
    by_cases h2:(hello.length:Int)>100
    ·have g2:=eq_true h2
     simp only[sf_uact,putAll,wal,stV,seval,iteOmega,toNatUp,reduceCtorEq]
     refine sC (cl) ?_
     simp only[g1,g2,wal,stV,seval,iteOmega,toNatUp,reduceCtorEq]
     refine sD (ck) ?_
     exact qd1
    ·have g2:=eq_false h2
     by_cases h3:(label.size:Int)>40
     ·have g3:=eq_true h3
      simp only[sf_uact,putAll,wal,stV,seval,iteOmega,toNatUp,reduceCtorEq]
      refine sC (cl) ?_
      simp only[g1,g2,g3,wal,stV,seval,iteOmega,toNatUp,reduceCtorEq]
      refine sD (ck) ?_
      exact qd1
     ·have g3:=eq_false h3
      by_cases h4:n>100∧n≤8160
      ·have g4:=eq_true h4.1
       have g5:=eq_true h4.2
       simp only[sf_uact,putAll,wal,stV,seval,iteOmega,toNatUp,reduceCtorEq]
       refine sC (cl) ?_
       simp only[g1,g2,g3,g4,g5,wal,stV,seval,iteOmega,toNatUp,reduceCtorEq]
       refine sD (ck) ?_
       exact qd1
      ·have a1:=cbg_c G hF hG client b hello (by omega) (by omega)
       have a2:=rbg_c G client b hello (by omega) (by omega)
       have a3:=csd_c G hF hG ⟨c0,c1,c2,c3,c4,c5⟩ kind b (by omega)
       have a4:=rsd_c G ⟨c0,c1,c2,c3,c4,c5⟩ kind b (by omega)
       have a5:=crc_c G hF hG ⟨c0,c1,c2,c3,c4,c5⟩ b (by omega)
       have a6:=rrc_c G ⟨c0,c1,c2,c3,c4,c5⟩ b (by omega)
       have a7:=cxp_c G hF hG ⟨c0,c1,c2,c3,c4,c5⟩ label hello n (by omega) (by omega) (by omega) (by omega)
       have a8:=rex_c G ⟨c0,c1,c2,c3,c4,c5⟩ label hello n (by omega) (by omega) (by omega) (by omega)
       have a9:=crn_c G hF hG ⟨c0,c1,c2,c3,c4,c5⟩ b (by omega)
       have aA:=rrn_c G ⟨c0,c1,c2,c3,c4,c5⟩ b (by omega)
       have aB:=cvd_c G hF hG ⟨c0,c1,c2,c3,c4,c5⟩
       have aC:=rva_c G ⟨c0,c1,c2,c3,c4,c5⟩
       have s1:=rsm_c G (bgC client b hello)
       have s2:=rsm_c G (sdC ⟨c0,c1,c2,c3,c4,c5⟩ kind b)
       have s3:=rsame_c G (sdR ⟨c0,c1,c2,c3,c4,c5⟩ kind b) (sdR ⟨c0,c1,c2,c3,c4,c5⟩ kind b)
       have s4:=rsm_c G (rcC ⟨c0,c1,c2,c3,c4,c5⟩ b)
       have s5:=rsame_c G (rcB ⟨c0,c1,c2,c3,c4,c5⟩ b) (rcB ⟨c0,c1,c2,c3,c4,c5⟩ b)
       have s6:=rsame_c G (exoV ⟨c0,c1,c2,c3,c4,c5⟩ label.data.toList hello n) (exoV ⟨c0,c1,c2,c3,c4,c5⟩ label.data.toList hello n)
       have s7:=rsm_c G (rnC ⟨c0,c1,c2,c3,c4,c5⟩ b)
       rw[beq_self_eq_true] at s3 s5 s6
       clear hF hG
       generalize bgC client b hello=x1 at *
       generalize bgE b=e1 at *
       generalize sdC ⟨c0,c1,c2,c3,c4,c5⟩ kind b=x2 at *
       generalize sdR ⟨c0,c1,c2,c3,c4,c5⟩ kind b=x3 at *
       generalize sdE ⟨c0,c1,c2,c3,c4,c5⟩ kind b=e2 at *
       generalize rcC ⟨c0,c1,c2,c3,c4,c5⟩ b=x4 at *
       generalize rcK ⟨c0,c1,c2,c3,c4,c5⟩ b=x5 at *
       generalize rcB ⟨c0,c1,c2,c3,c4,c5⟩ b=x6 at *
       generalize rcE ⟨c0,c1,c2,c3,c4,c5⟩ b=e3 at *
       generalize exoV ⟨c0,c1,c2,c3,c4,c5⟩ label.data.toList hello n=x7 at *
       generalize exE ⟨c0,c1,c2,c3,c4,c5⟩ n=e4 at *
       generalize rnC ⟨c0,c1,c2,c3,c4,c5⟩ b=x8 at *
       generalize rnE ⟨c0,c1,c2,c3,c4,c5⟩ b=e5 at *
       generalize decide (vdC ⟨c0,c1,c2,c3,c4,c5⟩)=v at *
       unfold chD at *
       dsimp only at a3 a4 a5 a6 a7 a8 a9 aA aB aC
       by_cases h5:n>100
       ·have g4:=eq_true h5
        have g5:=eq_false (show ¬ n≤8160 by omega)
        simp only[sf_uact,putAll,wal,stV,seval,iteOmega,toNatUp,reduceCtorEq]
        refine sC (cl) ?_
        simp only[g1,g2,g3,g4,g5,wal,stV,seval,iteOmega,toNatUp,reduceCtorEq]
        refine sD (a1) ?_
        refine sD (a2) ?_
        refine sD (a3) ?_
        refine sD (a4) ?_
        refine sD (a5) ?_
        refine sD (a6) ?_
        refine sD (a7) ?_
        refine sD (a8) ?_
        refine sD (a9) ?_
        refine sD (aA) ?_
        refine sD (aB) ?_
        refine sD (aC) ?_
        refine sD (ck) ?_
        refine sD (s1) ?_
        refine sD (s2) ?_
        refine sD (s3) ?_
        refine sD (s4) ?_
        refine sD (s5) ?_
        refine sD (s6) ?_
        refine sD (s7) ?_
        exact qd1
       ·have g4:=eq_false h5
        simp only[sf_uact,putAll,wal,stV,seval,iteOmega,toNatUp,reduceCtorEq]
        refine sC (cl) ?_
        simp only[g1,g2,g3,g4,wal,stV,seval,iteOmega,toNatUp,reduceCtorEq]
        refine sD (a1) ?_
        refine sD (a2) ?_
        refine sD (a3) ?_
        refine sD (a4) ?_
        refine sD (a5) ?_
        refine sD (a6) ?_
        refine sD (a7) ?_
        refine sD (a8) ?_
        refine sD (a9) ?_
        refine sD (aA) ?_
        refine sD (aB) ?_
        refine sD (aC) ?_
        refine sD (ck) ?_
        refine sD (s1) ?_
        refine sD (s2) ?_
        refine sD (s3) ?_
        refine sD (s4) ?_
        refine sD (s5) ?_
        refine sD (s6) ?_
        refine sD (s7) ?_
        exact qd1
  ·rw[Bool.eq_false_iff.2 hl] at cl
   simp only[sf_uact,putAll,wal,stV,seval,iteOmega,toNatUp,reduceCtorEq]
   refine sD (cl) ?_
   refine sD (ck) ?_
   exact qd1
end Go.Proofs.YtbkhllchjbjhgaaGreatDoor
