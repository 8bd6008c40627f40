/- Texts of one's own, merged: from: The laws of layer 20: ChannelOrder. Own work. -/
import Derived.Test.YtbkhllchjbjhgaaGreatDoorMg29
import Derived.Test.YtbkhllchjbjhgaaGreatDoorMg213
set_option linter.unusedVariables false
set_option linter.unusedSimpArgs false
namespace Go.Proofs.YtbkhllchjbjhgaaGreatDoor
open Go.RowKit IntWalk
def sf_rs2:SFn:=⟨2,14,
 .seq (.reg [oO 2 (.box .roBox (.t 0)),
 oO 4 (.alloc [(.d (.bool false)),.nil,.nil,.nil,(.d (.int .i64 0)),(.d (.int .i64 0))]),
 oO 5 (.mv (.k (.c .nil))),
 oO 6 (.mv (kI 0))])
 (.seq (.reg [oO 7 (.load (.ag 6) (.t 2)),
 oM 8 1,
 oO 9 (.s2b false (.t 8)),
 oO 10 (.call 10 [(.t 7),(kI 1),(.t 9)] none),
 oO 11 (.extract (.t 10) 0),
 oO 12 (.extract (.t 10) 1),
 oO 13 (.extract (.t 10) 2),
 oN (.store (.ag 6) (.t 4) (.t 11)),
 oM 5 12,
 oM 6 13])
 (.ret)),
 [(4,(some (.ag 6))),(5,none),(6,none)]⟩
theorem cf_rs2:compFn Tryz.prog { own:=[],comp:=[],frz:=[],nils:=[] } Tryz.f23=some sf_rs2:=by kernel_rfl
theorem rs2_c (G:Glob) (c:Ch) (s:ByteArray) (hs:s.size≤1000):Den Tryz.prog G 23 [chD c,.str s] (.tup [.c (.d (chD (sdC c 1 s.data.toList))),.c (.d (.sl ((sdR c 1 s.data.toList).map bD))),.c (.d (.int .i64 (sdE c 1 s.data.toList)))]):=by
  refine den_walk Tryz.func23 cf_rs2 rfl rfl ?_
  have hl:s.data.toList.length=s.size:=rfl
  have hm:s.size≤maxLen:=by unfold maxLen; omega
  have c1:=rsd_c G c 1 s.data.toList (by omega)
  unfold chD at *
  simp only[sf_rs2,putAll,wal,stV,seval,iteOmega,toNatUp,reduceCtorEq,hm]
  refine sD (c1) ?_
  exact qd3
def sf_uord:SFn:=⟨4,119,
 .seq (.reg [oO 8 (.mv (.k (.c (.d (.bool false)))))])
 (.seq (.reg [oM 30 0,
 oO 31 (.call 22 [(.t 30),(kI 1000)] none),
 oO 32 (.call 21 [(.t 31)] none),
 oM 29 32,
 oO 33 (.extract (.t 29) 0),
 oO 34 (.extract (.t 29) 1),
 oO 9 (.alloc [(.d (.bool false)),.nil,.nil,.nil,(.d (.int .i64 0)),(.d (.int .i64 0))]),
 oO 10 (.alloc [(.d (.bool false)),.nil,.nil,.nil,(.d (.int .i64 0)),(.d (.int .i64 0))]),
 oN (.store (.ag 6) (.t 9) (.t 33)),
 oN (.store (.ag 6) (.t 10) (.t 34))])
 (.seq (.reg [oO 36 (.load (.ag 6) (.t 9)),
 oO 37 (.call 23 [(.t 36),(.k (.c (.d (.str ⟨#[111,110,101]⟩))))] none),
 oM 35 37,
 oO 38 (.extract (.t 35) 0),
 oO 39 (.extract (.t 35) 1),
 oO 40 (.extract (.t 35) 2),
 oN (.store (.ag 6) (.t 9) (.t 38)),
 oM 11 39,
 oM 12 40])
 (.seq (.reg [oO 42 (.load (.ag 6) (.t 9)),
 oO 43 (.call 23 [(.t 42),(.k (.c (.d (.str ⟨#[116,119,111]⟩))))] none),
 oM 41 43,
 oO 44 (.extract (.t 41) 0),
 oO 45 (.extract (.t 41) 1),
 oO 46 (.extract (.t 41) 2),
 oN (.store (.ag 6) (.t 9) (.t 44)),
 oM 13 45,
 oM 14 46])
 (.seq (.seq (.reg [oM 47 12,
 oO 48 (.bin .neq (.t 47) (kI 0)),
 oM 49 48,
 oG 50 (.mv (.t 14)) 49 false,
 oG 51 (.bin .neq (.t 50) (kI 0)) 49 false,
 oO 52 (.pick (.t 49) (.k (.c (.d (.bool true)))) (.t 51))])
 (.cond (.t 52) (.seq (.reg [oO 8 (.mv (.k (.c (.d (.bool false)))))])
 (.ret))
 (.skip)))
 (.seq (.reg [oO 53 (.load (.ag 6) (.t 10)),
 oM 54 11,
 oO 15 (.alloc [(.d (.bool false)),.nil,.nil,.nil,(.d (.int .i64 0)),(.d (.int .i64 0))]),
 oN (.store (.ag 6) (.t 15) (.t 53)),
 oM 16 54])
 (.seq (.seq (.reg [oM 55 1,
 oO 56 (.call 22 [(.t 55),(kI 4)] none)])
 (.block 0 (.seq (.reg [oO 58 (.bin .eql (.t 56) (kI 0)),
 oM 57 58])
 (.cond (.t 57) (.seq (.reg [oO 60 (.load (.ag 6) (.t 10)),
 oM 61 11,
 oO 62 (.call 11 [(.t 60),(.t 61)] none),
 oM 59 62,
 oO 63 (.extract (.t 59) 0),
 oO 64 (.extract (.t 59) 1),
 oO 65 (.extract (.t 59) 2),
 oO 66 (.extract (.t 59) 3),
 oO 17 (.alloc [(.d (.bool false)),.nil,.nil,.nil,(.d (.int .i64 0)),(.d (.int .i64 0))]),
 oN (.store (.ag 6) (.t 17) (.t 63)),
 oM 18 64,
 oM 19 65,
 oM 20 66])
 (.seq (.seq (.reg [oM 67 20,
 oO 68 (.bin .neq (.t 67) (kI 0))])
 (.cond (.t 68) (.seq (.reg [oO 8 (.mv (.k (.c (.d (.bool false)))))])
 (.ret))
 (.skip)))
 (.reg [oO 69 (.load (.ag 6) (.t 17)),
 oN (.store (.ag 6) (.t 15) (.t 69))])))
 (.seq (.reg [oO 71 (.bin .eql (.t 56) (kI 1)),
 oM 70 71])
 (.cond (.t 70) (.reg [oM 72 13,
 oM 16 72])
 (.seq (.reg [oO 74 (.bin .eql (.t 56) (kI 2)),
 oM 73 74])
 (.cond (.t 73) (.reg [oO 75 (.load (.ag 6) (.t 9)),
 oN (.store (.ag 6) (.t 15) (.t 75))])
 (.seq (.reg [oO 77 (.bin .eql (.t 56) (kI 3)),
 oM 76 77])
 (.cond (.t 76) (.reg [oM 78 11,
 oM 79 2,
 oM 80 3,
 oO 81 (.call 24 [(.t 78),(.t 79),(.t 80)] none),
 oM 16 81])
 (.skip)))))))))))
 (.seq (.reg [oO 83 (.load (.ag 6) (.t 15)),
 oM 84 16,
 oO 85 (.call 11 [(.t 83),(.t 84)] none),
 oM 82 85,
 oO 86 (.extract (.t 82) 0),
 oO 87 (.extract (.t 82) 1),
 oO 88 (.extract (.t 82) 2),
 oO 89 (.extract (.t 82) 3),
 oO 21 (.alloc [(.d (.bool false)),.nil,.nil,.nil,(.d (.int .i64 0)),(.d (.int .i64 0))]),
 oN (.store (.ag 6) (.t 21) (.t 86)),
 oM 22 87,
 oM 23 88,
 oM 24 89])
 (.seq (.reg [oO 91 (.load (.ag 6) (.t 15)),
 oM 92 16,
 oO 93 (.call 12 [(.t 91),(.t 92)] none),
 oM 90 93,
 oO 94 (.extract (.t 90) 0),
 oO 95 (.extract (.t 90) 1),
 oO 96 (.extract (.t 90) 2),
 oO 97 (.extract (.t 90) 3),
 oO 25 (.alloc [(.d (.bool false)),.nil,.nil,.nil,(.d (.int .i64 0)),(.d (.int .i64 0))]),
 oN (.store (.ag 6) (.t 25) (.t 94)),
 oM 26 95,
 oM 27 96,
 oM 28 97])
 (.seq (.reg [oO 98 (.call 6 [] none),
 oM 99 98,
 oG 100 (.mv (.t 24)) 99 true,
 oG 101 (.mv (.t 28)) 99 true,
 oG 102 (.bin .eql (.t 100) (.t 101)) 99 true,
 oO 103 (.pick (.t 99) (.t 102) (.k (.c (.d (.bool false))))),
 oM 104 103,
 oG 105 (.mv (.t 22)) 104 true,
 oG 106 (.mv (.t 26)) 104 true,
 oG 107 (.bin .eql (.t 105) (.t 106)) 104 true,
 oO 108 (.pick (.t 104) (.t 107) (.k (.c (.d (.bool false))))),
 oM 109 108,
 oG 110 (.mv (.t 23)) 109 true,
 oG 111 (.mv (.t 27)) 109 true,
 oG 112 (.call 20 [(.t 110),(.t 111)] none) 109 true,
 oO 113 (.pick (.t 109) (.t 112) (.k (.c (.d (.bool false))))),
 oM 114 113,
 oG 115 (.load (.ag 6) (.t 21)) 114 true,
 oG 116 (.load (.ag 6) (.t 25)) 114 true,
 oG 117 (.call 19 [(.t 115),(.t 116)] none) 114 true,
 oO 118 (.pick (.t 114) (.t 117) (.k (.c (.d (.bool false))))),
 oM 8 118])
 (.ret)))))))))),
 [(8,none)]⟩
theorem cf_uord:compFn Tryz.prog { own:=[],comp:=[],frz:=[],nils:=[] } Tryz.f4=some sf_uord:=by kernel_rfl
set_option maxHeartbeats 1600000 in
theorem uord_c (G:Glob) (seed:Int) (hseed1:-9223372036854775808≤seed) (hseed2:seed≤9223372036854775807) (what:Int) (hwhat1:-9223372036854775808≤what) (hwhat2:what≤9223372036854775807) (at':Int) (hat'1:-9223372036854775808≤at') (hat'2:at'≤9223372036854775807) (by':Int) (hby'1:-9223372036854775808≤by') (hby'2:by'≤9223372036854775807) (hF:G.at 0=some (.ra (firstK.map wD))) (hG:G.at 1=some (.ra (constK.map wD))):Den Tryz.prog G 4 [.int .i64 seed,.int .i64 what,.int .i64 at',.int .i64 by'] (.w (.c (.d (.bool true)))):=by
  refine den_walk Tryz.func4 cf_uord rfl rfl ?_
  have ck:=known20_c G hF hG
  have c1:=within_c G seed 1000 (by decide)
  have c2:=wen_c G (withinN seed 1000)
  have kl:=weK_len (withinN seed 1000)
  generalize weK (withinN seed 1000)=K at *
  generalize withinN seed 1000=s at *
  have hz:(0:Int)≤0∧(0:Int)≤1099511627776:=by decide
  obtain⟨R,⟨s1,s2,s3,s4⟩,r1,r2,r3,r4⟩:=snd_rcv (cl:=true) (K:=K) (b:=[111,110,101]) (n:=0) (m:=0) (k:=1) kl (by decide) hz (by decide) (by decide)
  obtain⟨Q,⟨t1,t2,t3,t4⟩,_⟩:=snd_rcv (cl:=true) (K:=K) (b:=[116,119,111]) (n:=0+1) (m:=0) (k:=1) kl (by decide) hz (by decide) (by decide)
  have s4:R.length=22:=s4
  have t4:Q.length=22:=t4
  have c3:=rs2_c G (chP true K 0 0) ⟨#[111,110,101]⟩ (by decide)
  have c4:=rs2_c G (chP true K (0+1) 0) ⟨#[116,119,111]⟩ (by decide)
  rw[show (⟨#[111,110,101]⟩:ByteArray).data.toList=[111,110,101] from rfl,s1,s2,s3] at c3
  rw[show (⟨#[116,119,111]⟩:ByteArray).data.toList=[116,119,111] from rfl,t1,t2,t3] at c4
  have c5:=within_c G what 4 (by decide)
  obtain⟨w1,w2⟩:=withinN_range what 4 (by decide)
  have fin:∀ (c:Ch) (r:List UInt8),r.length≤100→_∧_∧_∧_:=fun c r hr=>⟨crc_c G hF hG c r (by omega),rrc_c G c r (by omega),rsame_c G (rcB c r) (rcB c r),rsm_c G (rcC c r)⟩
  clear s1 s2 s3 t1 t2 t3
  generalize withinN what 4=w at *
  have hw:w=0∨w=1∨w=2∨w=3:=by omega
  rcases hw with rfl | rfl | rfl | rfl
  ·have c6:=crc_c G hF hG (chP (!true) K 0 0) R (by omega)
   rw[r1,r2,r3,r4,Bool.not_true] at c6
   obtain⟨f1,f2,f3,f4⟩:=fin (chP false K 0 (0+1)) R (by omega)
   rw[beq_self_eq_true] at f3
   clear fin hF hG r1 r2 r3 r4
   generalize rcC (chP false K 0 (0+1)) R=x1 at *
   generalize rcK (chP false K 0 (0+1)) R=x2 at *
   generalize rcB (chP false K 0 (0+1)) R=x3 at *
   generalize rcE (chP false K 0 (0+1)) R=x4 at *
   rw[chP_D] at *
   unfold chD at *
   simp only[sf_uord,putAll,wal,stV,seval,iteOmega,toNatUp,reduceCtorEq]
   refine sD (c1) ?_
   refine sD (c2) ?_
   refine sD (c3) ?_
   refine sD (c4) ?_
   refine sD (c5) ?_
   refine sD (c6) ?_
   refine sD (f1) ?_
   refine sD (f2) ?_
   refine sD (ck) ?_
   refine sD (f3) ?_
   refine sD (f4) ?_
   exact qd1
  ·obtain⟨f1,f2,f3,f4⟩:=fin (chP false K 0 0) Q (by omega)
   rw[beq_self_eq_true] at f3
   clear fin hF hG r1 r2 r3 r4
   generalize rcC (chP false K 0 0) Q=x1 at *
   generalize rcK (chP false K 0 0) Q=x2 at *
   generalize rcB (chP false K 0 0) Q=x3 at *
   generalize rcE (chP false K 0 0) Q=x4 at *
   rw[chP_D] at *
   unfold chD at *
   simp only[sf_uord,putAll,wal,stV,seval,iteOmega,toNatUp,reduceCtorEq]
   refine sD (c1) ?_
   refine sD (c2) ?_
   refine sD (c3) ?_
   refine sD (c4) ?_
   refine sD (c5) ?_
   refine sD (f1) ?_
   refine sD (f2) ?_
   refine sD (ck) ?_
   refine sD (f3) ?_
   refine sD (f4) ?_
   exact qd1
  ·obtain⟨f1,f2,f3,f4⟩:=fin (chP true K (0+1+1) 0) R (by omega)
   rw[beq_self_eq_true] at f3
   clear fin hF hG r1 r2 r3 r4
   generalize rcC (chP true K (0+1+1) 0) R=x1 at *
   generalize rcK (chP true K (0+1+1) 0) R=x2 at *
   generalize rcB (chP true K (0+1+1) 0) R=x3 at *
   generalize rcE (chP true K (0+1+1) 0) R=x4 at *
   rw[chP_D] at *
   unfold chD at *
   simp only[sf_uord,putAll,wal,stV,seval,iteOmega,toNatUp,reduceCtorEq]
   refine sD (c1) ?_
   refine sD (c2) ?_
   refine sD (c3) ?_
   refine sD (c4) ?_
   refine sD (c5) ?_
   refine sD (f1) ?_
   refine sD (f2) ?_
   refine sD (ck) ?_
   refine sD (f3) ?_
   refine sD (f4) ?_
   exact qd1
  ·have c6:=chg_c G R at' by' (by omega) (by omega)
   have cl:=changedL_len R at' by'
   generalize changedL R at' by'=X at *
   obtain⟨f1,f2,f3,f4⟩:=fin (chP false K 0 0) X (by omega)
   rw[beq_self_eq_true] at f3
   clear fin hF hG r1 r2 r3 r4
   generalize rcC (chP false K 0 0) X=x1 at *
   generalize rcK (chP false K 0 0) X=x2 at *
   generalize rcB (chP false K 0 0) X=x3 at *
   generalize rcE (chP false K 0 0) X=x4 at *
   rw[chP_D] at *
   unfold chD at *
   simp only[sf_uord,putAll,wal,stV,seval,iteOmega,toNatUp,reduceCtorEq]
   refine sD (c1) ?_
   refine sD (c2) ?_
   refine sD (c3) ?_
   refine sD (c4) ?_
   refine sD (c5) ?_
   refine sD (c6) ?_
   refine sD (f1) ?_
   refine sD (f2) ?_
   refine sD (ck) ?_
   refine sD (f3) ?_
   refine sD (f4) ?_
   exact qd1
end Go.Proofs.YtbkhllchjbjhgaaGreatDoor
