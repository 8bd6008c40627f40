/- The laws of layer 10: what its functions return. Own work. -/
import Derived.Test.YtbpkkobhlbiclaaDoorAlV
import Derived.Test.YtbpkkobhlbiclaaDoorLj0
import Derived.Test.YtbpkkobhlbiclaaDoorPr4
set_option linter.unusedVariables false
set_option linter.unusedSimpArgs false
namespace Go.Proofs.YtbpkkobhlbiclaaDoor
open Go.RowKit

theorem asList (s : ByteArray) : ∃ l : List UInt8, s = ⟨l.toArray⟩ := ⟨s.data.toList, (mkS s).symm⟩
def sf_tact : SFn := ⟨6, 200,
  .seq (.reg [⟨(some 12), .mv (.k (.c (.d (.bool false)))), none⟩])
  (.seq (.seq (.reg [⟨(some 33), .mv (.t 5), none⟩,
    ⟨(some 34), .lenStr (.t 33), none⟩,
    ⟨(some 35), .bin .gtr (.t 34) (.k (.c (.d (.int .i64 60)))), none⟩])
  (.cond (.t 35) (.seq (.reg [⟨(some 36), .call 10 [] none, none⟩,
     ⟨(some 12), .mv (.t 36), none⟩])
   (.ret))
   (.skip)))
  (.seq (.reg [⟨(some 38), .mv (.t 0), none⟩,
    ⟨(some 39), .mv (.t 1), none⟩,
    ⟨(some 40), .mv (.t 2), none⟩,
    ⟨(some 41), .call 11 [(.t 38), (.t 39), (.t 40)] none, none⟩,
    ⟨(some 37), .mv (.t 41), none⟩,
    ⟨(some 42), .extract (.t 37) 0, none⟩,
    ⟨(some 43), .extract (.t 37) 1, none⟩,
    ⟨(some 13), .mv (.t 42), none⟩,
    ⟨(some 14), .mv (.t 43), none⟩])
  (.seq (.reg [⟨(some 45), .mv (.t 0), none⟩,
    ⟨(some 46), .mv (.t 1), none⟩,
    ⟨(some 47), .mv (.t 2), none⟩,
    ⟨(some 48), .call 12 [(.t 45), (.t 46), (.t 47)] none, none⟩,
    ⟨(some 44), .mv (.t 48), none⟩,
    ⟨(some 49), .extract (.t 44) 0, none⟩,
    ⟨(some 50), .extract (.t 44) 1, none⟩,
    ⟨(some 15), .mv (.t 49), none⟩,
    ⟨(some 16), .mv (.t 50), none⟩])
  (.seq (.reg [⟨(some 52), .mv (.t 0), none⟩,
    ⟨(some 53), .mv (.t 1), none⟩,
    ⟨(some 54), .mv (.t 2), none⟩,
    ⟨(some 55), .call 13 [(.t 52), (.t 53), (.t 54)] none, none⟩,
    ⟨(some 51), .mv (.t 55), none⟩,
    ⟨(some 56), .extract (.t 51) 0, none⟩,
    ⟨(some 57), .extract (.t 51) 1, none⟩,
    ⟨(some 17), .mv (.t 56), none⟩,
    ⟨(some 18), .mv (.t 57), none⟩])
  (.seq (.reg [⟨(some 59), .mv (.t 0), none⟩,
    ⟨(some 60), .mv (.t 1), none⟩,
    ⟨(some 61), .mv (.t 2), none⟩,
    ⟨(some 62), .call 14 [(.t 59), (.t 60), (.t 61)] none, none⟩,
    ⟨(some 58), .mv (.t 62), none⟩,
    ⟨(some 63), .extract (.t 58) 0, none⟩,
    ⟨(some 64), .extract (.t 58) 1, none⟩,
    ⟨(some 19), .mv (.t 63), none⟩,
    ⟨(some 20), .mv (.t 64), none⟩])
  (.seq (.reg [⟨(some 66), .mv (.t 0), none⟩,
    ⟨(some 67), .call 15 [(.t 66)] none, none⟩,
    ⟨(some 65), .mv (.t 67), none⟩,
    ⟨(some 68), .extract (.t 65) 0, none⟩,
    ⟨(some 69), .extract (.t 65) 1, none⟩,
    ⟨(some 21), .mv (.t 68), none⟩,
    ⟨(some 22), .mv (.t 69), none⟩])
  (.seq (.reg [⟨(some 71), .mv (.t 0), none⟩,
    ⟨(some 72), .call 16 [(.t 71)] none, none⟩,
    ⟨(some 70), .mv (.t 72), none⟩,
    ⟨(some 73), .extract (.t 70) 0, none⟩,
    ⟨(some 74), .extract (.t 70) 1, none⟩,
    ⟨(some 23), .mv (.t 73), none⟩,
    ⟨(some 24), .mv (.t 74), none⟩])
  (.seq (.reg [⟨(some 76), .mv (.t 0), none⟩,
    ⟨(some 77), .mv (.t 2), none⟩,
    ⟨(some 78), .call 17 [(.t 76), (.t 77)] none, none⟩,
    ⟨(some 75), .mv (.t 78), none⟩,
    ⟨(some 79), .extract (.t 75) 0, none⟩,
    ⟨(some 80), .extract (.t 75) 1, none⟩,
    ⟨(some 25), .mv (.t 79), none⟩,
    ⟨(some 26), .mv (.t 80), none⟩])
  (.seq (.reg [⟨(some 82), .mv (.t 0), none⟩,
    ⟨(some 83), .mv (.t 2), none⟩,
    ⟨(some 84), .call 18 [(.t 82), (.t 83)] none, none⟩,
    ⟨(some 81), .mv (.t 84), none⟩,
    ⟨(some 85), .extract (.t 81) 0, none⟩,
    ⟨(some 86), .extract (.t 81) 1, none⟩,
    ⟨(some 27), .mv (.t 85), none⟩,
    ⟨(some 28), .mv (.t 86), none⟩])
  (.seq (.reg [⟨(some 88), .mv (.t 5), none⟩,
    ⟨(some 89), .call 19 [(.t 88)] none, none⟩,
    ⟨(some 87), .mv (.t 89), none⟩,
    ⟨(some 90), .extract (.t 87) 0, none⟩,
    ⟨(some 91), .extract (.t 87) 1, none⟩,
    ⟨(some 29), .mv (.t 90), none⟩,
    ⟨(some 30), .mv (.t 91), none⟩])
  (.seq (.reg [⟨(some 93), .mv (.t 5), none⟩,
    ⟨(some 94), .call 20 [(.t 93)] none, none⟩,
    ⟨(some 92), .mv (.t 94), none⟩,
    ⟨(some 95), .extract (.t 92) 0, none⟩,
    ⟨(some 96), .extract (.t 92) 1, none⟩,
    ⟨(some 31), .mv (.t 95), none⟩,
    ⟨(some 32), .mv (.t 96), none⟩])
  (.seq (.seq (.reg [⟨(some 97), .mv (.t 14), none⟩,
    ⟨(some 98), .mv (.t 16), none⟩,
    ⟨(some 99), .bin .neq (.t 97) (.t 98), none⟩,
    ⟨(some 100), .mv (.t 99), none⟩,
    ⟨(some 101), .mv (.t 18), (some (100, false))⟩,
    ⟨(some 102), .mv (.t 20), (some (100, false))⟩,
    ⟨(some 103), .bin .neq (.t 101) (.t 102), (some (100, false))⟩,
    ⟨(some 104), .pick (.t 100) (.k (.c (.d (.bool true)))) (.t 103), none⟩,
    ⟨(some 105), .mv (.t 104), none⟩,
    ⟨(some 106), .mv (.t 22), (some (105, false))⟩,
    ⟨(some 107), .mv (.t 24), (some (105, false))⟩,
    ⟨(some 108), .bin .neq (.t 106) (.t 107), (some (105, false))⟩,
    ⟨(some 109), .pick (.t 105) (.k (.c (.d (.bool true)))) (.t 108), none⟩,
    ⟨(some 110), .mv (.t 109), none⟩,
    ⟨(some 111), .mv (.t 26), (some (110, false))⟩,
    ⟨(some 112), .mv (.t 28), (some (110, false))⟩,
    ⟨(some 113), .bin .neq (.t 111) (.t 112), (some (110, false))⟩,
    ⟨(some 114), .pick (.t 110) (.k (.c (.d (.bool true)))) (.t 113), none⟩,
    ⟨(some 115), .mv (.t 114), none⟩,
    ⟨(some 116), .mv (.t 13), (some (115, false))⟩,
    ⟨(some 117), .mv (.t 15), (some (115, false))⟩,
    ⟨(some 118), .bin .neq (.t 116) (.t 117), (some (115, false))⟩,
    ⟨(some 119), .pick (.t 115) (.k (.c (.d (.bool true)))) (.t 118), none⟩,
    ⟨(some 120), .mv (.t 119), none⟩,
    ⟨(some 121), .mv (.t 17), (some (120, false))⟩,
    ⟨(some 122), .mv (.t 19), (some (120, false))⟩,
    ⟨(some 123), .bin .neq (.t 121) (.t 122), (some (120, false))⟩,
    ⟨(some 124), .pick (.t 120) (.k (.c (.d (.bool true)))) (.t 123), none⟩,
    ⟨(some 125), .mv (.t 124), none⟩,
    ⟨(some 126), .mv (.t 21), (some (125, false))⟩,
    ⟨(some 127), .mv (.t 23), (some (125, false))⟩,
    ⟨(some 128), .bin .neq (.t 126) (.t 127), (some (125, false))⟩,
    ⟨(some 129), .pick (.t 125) (.k (.c (.d (.bool true)))) (.t 128), none⟩,
    ⟨(some 130), .mv (.t 129), none⟩,
    ⟨(some 131), .mv (.t 25), (some (130, false))⟩,
    ⟨(some 132), .mv (.t 27), (some (130, false))⟩,
    ⟨(some 133), .bin .neq (.t 131) (.t 132), (some (130, false))⟩,
    ⟨(some 134), .pick (.t 130) (.k (.c (.d (.bool true)))) (.t 133), none⟩,
    ⟨(some 135), .mv (.t 134), none⟩,
    ⟨(some 136), .mv (.t 30), (some (135, false))⟩,
    ⟨(some 137), .mv (.t 32), (some (135, false))⟩,
    ⟨(some 138), .eqB true (.t 136) (.t 137), (some (135, false))⟩,
    ⟨(some 139), .pick (.t 135) (.k (.c (.d (.bool true)))) (.t 138), none⟩,
    ⟨(some 140), .mv (.t 139), none⟩,
    ⟨(some 141), .mv (.t 29), (some (140, false))⟩,
    ⟨(some 142), .mv (.t 31), (some (140, false))⟩,
    ⟨(some 143), .bin .neq (.t 141) (.t 142), (some (140, false))⟩,
    ⟨(some 144), .pick (.t 140) (.k (.c (.d (.bool true)))) (.t 143), none⟩])
  (.cond (.t 144) (.seq (.reg [⟨(some 12), .mv (.k (.c (.d (.bool false)))), none⟩])
   (.ret))
   (.skip)))
  (.seq (.reg [⟨(some 145), .call 10 [] none, none⟩,
    ⟨(some 146), .mv (.t 145), none⟩,
    ⟨(some 147), .mv (.t 0), (some (146, true))⟩,
    ⟨(some 148), .call 21 [(.t 147)] none, (some (146, true))⟩,
    ⟨(some 149), .mv (.t 0), (some (146, true))⟩,
    ⟨(some 150), .call 22 [(.t 149)] none, (some (146, true))⟩,
    ⟨(some 151), .eqB false (.t 148) (.t 150), (some (146, true))⟩,
    ⟨(some 152), .pick (.t 146) (.t 151) (.k (.c (.d (.bool false)))), none⟩,
    ⟨(some 153), .mv (.t 152), none⟩,
    ⟨(some 154), .mv (.t 0), (some (153, true))⟩,
    ⟨(some 155), .call 23 [(.t 154)] none, (some (153, true))⟩,
    ⟨(some 156), .mv (.t 0), (some (153, true))⟩,
    ⟨(some 157), .call 24 [(.t 156)] none, (some (153, true))⟩,
    ⟨(some 158), .bin .eql (.t 155) (.t 157), (some (153, true))⟩,
    ⟨(some 159), .pick (.t 153) (.t 158) (.k (.c (.d (.bool false)))), none⟩,
    ⟨(some 160), .mv (.t 159), none⟩,
    ⟨(some 161), .mv (.t 0), (some (160, true))⟩,
    ⟨(some 162), .call 25 [(.t 161)] none, (some (160, true))⟩,
    ⟨(some 163), .mv (.t 0), (some (160, true))⟩,
    ⟨(some 164), .call 26 [(.t 163)] none, (some (160, true))⟩,
    ⟨(some 165), .bin .eql (.t 162) (.t 164), (some (160, true))⟩,
    ⟨(some 166), .pick (.t 160) (.t 165) (.k (.c (.d (.bool false)))), none⟩,
    ⟨(some 167), .mv (.t 166), none⟩,
    ⟨(some 168), .mv (.t 3), (some (167, true))⟩,
    ⟨(some 169), .call 27 [(.t 168)] none, (some (167, true))⟩,
    ⟨(some 170), .mv (.t 3), (some (167, true))⟩,
    ⟨(some 171), .call 28 [(.t 170)] none, (some (167, true))⟩,
    ⟨(some 172), .bin .eql (.t 169) (.t 171), (some (167, true))⟩,
    ⟨(some 173), .pick (.t 167) (.t 172) (.k (.c (.d (.bool false)))), none⟩,
    ⟨(some 174), .mv (.t 173), none⟩,
    ⟨(some 175), .mv (.t 3), (some (174, true))⟩,
    ⟨(some 176), .call 29 [(.t 175)] none, (some (174, true))⟩,
    ⟨(some 177), .mv (.t 3), (some (174, true))⟩,
    ⟨(some 178), .call 30 [(.t 177)] none, (some (174, true))⟩,
    ⟨(some 179), .bin .eql (.t 176) (.t 178), (some (174, true))⟩,
    ⟨(some 180), .pick (.t 174) (.t 179) (.k (.c (.d (.bool false)))), none⟩,
    ⟨(some 181), .mv (.t 180), none⟩,
    ⟨(some 182), .mv (.t 4), (some (181, true))⟩,
    ⟨(some 183), .call 31 [(.t 182)] none, (some (181, true))⟩,
    ⟨(some 184), .mv (.t 4), (some (181, true))⟩,
    ⟨(some 185), .call 32 [(.t 184)] none, (some (181, true))⟩,
    ⟨(some 186), .bin .eql (.t 183) (.t 185), (some (181, true))⟩,
    ⟨(some 187), .pick (.t 181) (.t 186) (.k (.c (.d (.bool false)))), none⟩,
    ⟨(some 188), .mv (.t 187), none⟩,
    ⟨(some 189), .mv (.t 0), (some (188, true))⟩,
    ⟨(some 190), .call 22 [(.t 189)] none, (some (188, true))⟩,
    ⟨(some 191), .un .not (.t 190), (some (188, true))⟩,
    ⟨(some 192), .mv (.t 191), (some (188, true))⟩,
    ⟨(some 193), .mv (.t 0), (some (192, false))⟩,
    ⟨(some 194), .call 33 [(.t 193)] none, (some (192, false))⟩,
    ⟨(some 195), .mv (.t 0), (some (192, false))⟩,
    ⟨(some 196), .call 34 [(.t 195)] none, (some (192, false))⟩,
    ⟨(some 197), .bin .eql (.t 194) (.t 196), (some (192, false))⟩,
    ⟨(some 198), .pick (.t 192) (.k (.c (.d (.bool true)))) (.t 197), (some (188, true))⟩,
    ⟨(some 199), .pick (.t 188) (.t 198) (.k (.c (.d (.bool false)))), none⟩,
    ⟨(some 12), .mv (.t 199), none⟩])
  (.ret)))))))))))))),
  [(12, none)]⟩
theorem cf_tact : compFn Tryd.prog { own := [], comp := [], frz := [], nils := [] } Tryd.f3 = some sf_tact := by kernel_rfl
set_option maxHeartbeats 1600000 in
theorem tact_c (G : Glob) (a : Int) (ha1 : -9223372036854775808 ≤ a) (ha2 : a ≤ 9223372036854775807) (b : Int) (hb1 : -9223372036854775808 ≤ b) (hb2 : b ≤ 9223372036854775807) (up : Bool) (w : Nat) (hw : w < 18446744073709551616) (x : UInt32) (s : ByteArray) (hs : s.size ≤ maxLen) (hP : G.at 1 = some (.ra (Lib.pow10Tab.map fun z => D.int .u64 z))) : Den Tryd.prog G 3 [.int .i64 a, .int .i64 b, .bool up, .int .u64 (w : Int), wD x, .str s] (.w (.c (.d (.bool true)))) := by
  refine den_walk Tryd.func3 cf_tact rfl rfl ?_
  obtain ⟨l, rfl⟩ := asList s
  have zl := szS l
  rw [zl] at hs
  have hm : maxLen ≤ 9223372036854775807 := by decide
  have hk := known10_c G hP
  by_cases k : l.length > 60
  · have k' : ((l.length : Int) > 60) = True := eq_true (by omega)
    simp only [sf_tact, putAll, wx, wy, wz, stV, seval, IntWalk.iteOmega, IntWalk.toNatUp, reduceCtorEq, zl, k']
    refine st_call (hk) rfl (.inl rfl) ?_
    simp only [wx, wy, wz, stV, seval, IntWalk.iteOmega, IntWalk.toNatUp, reduceCtorEq]
    exact ret_d1 (by simp only [wx, wy, wz, stV, seval, IntWalk.iteOmega, IntWalk.toNatUp, reduceCtorEq])
  · have k' : ((l.length : Int) > 60) = False := eq_false (by omega)
    have hw0 : (0 : Int) ≤ (w : Int) := Int.natCast_nonneg _
    have hw1 : (w : Int) < 18446744073709551616 := by omega
    have hx : (x.toNat : Int) < 4294967296 := by have := x.toNat_lt; omega
    have hxd : wD x = .int .u32 (x.toNat : Int) := rfl
    have hx0 : (0 : Int) ≤ (x.toNat : Int) := Int.natCast_nonneg _
    rw [hxd]
    generalize (x.toNat : Int) = X at *
    generalize (w : Int) = W at *
    have n1 := neqS l l
    cases hv : valT a
    · simp only [sf_tact, putAll, wx, wy, wz, stV, seval, IntWalk.iteOmega, IntWalk.toNatUp, reduceCtorEq, zl, k']
      refine st_call (div_c G a b up ha1 ha2) rfl (.inl rfl) ?_
      simp only [wx, wy, wz, stV, seval, IntWalk.iteOmega, IntWalk.toNatUp, reduceCtorEq]
      refine st_call (rdiv_c G a b up ha1 ha2) rfl (.inl rfl) ?_
      simp only [wx, wy, wz, stV, seval, IntWalk.iteOmega, IntWalk.toNatUp, reduceCtorEq]
      refine st_call (sca_c G a b up ha1 ha2) rfl (.inl rfl) ?_
      simp only [wx, wy, wz, stV, seval, IntWalk.iteOmega, IntWalk.toNatUp, reduceCtorEq]
      refine st_call (rsca_c G a b up ha1 ha2) rfl (.inl rfl) ?_
      simp only [wx, wy, wz, stV, seval, IntWalk.iteOmega, IntWalk.toNatUp, reduceCtorEq]
      refine st_call (wir_c G a ha1 ha2) rfl (.inl rfl) ?_
      simp only [wx, wy, wz, stV, seval, IntWalk.iteOmega, IntWalk.toNatUp, reduceCtorEq]
      refine st_call (rwir_c G a ha1 ha2) rfl (.inl rfl) ?_
      simp only [wx, wy, wz, stV, seval, IntWalk.iteOmega, IntWalk.toNatUp, reduceCtorEq]
      refine st_call (uni_c G a up ha1 ha2) rfl (.inl rfl) ?_
      simp only [wx, wy, wz, stV, seval, IntWalk.iteOmega, IntWalk.toNatUp, reduceCtorEq]
      refine st_call (runi_c G a up ha1 ha2) rfl (.inl rfl) ?_
      simp only [wx, wy, wz, stV, seval, IntWalk.iteOmega, IntWalk.toNatUp, reduceCtorEq]
      refine st_call (prs_c G hP l (by omega)) rfl (.inl rfl) ?_
      simp only [wx, wy, wz, stV, seval, IntWalk.iteOmega, IntWalk.toNatUp, reduceCtorEq]
      refine st_call (rprs_c G l (by omega)) rfl (.inl rfl) ?_
      simp only [wx, wy, wz, stV, seval, IntWalk.iteOmega, IntWalk.toNatUp, reduceCtorEq]
      refine st_call (hk) rfl (.inl rfl) ?_
      simp only [wx, wy, wz, stV, seval, IntWalk.iteOmega, IntWalk.toNatUp, reduceCtorEq]
      refine st_call (val_c G a) rfl (.inl rfl) ?_
      simp only [hv, wx, wy, wz, stV, seval, IntWalk.iteOmega, IntWalk.toNatUp, reduceCtorEq]
      refine st_call (rval_c G a) rfl (.inl rfl) ?_
      simp only [hv, wx, wy, wz, stV, seval, IntWalk.iteOmega, IntWalk.toNatUp, reduceCtorEq]
      refine st_call (snd_c G a) rfl (.inl rfl) ?_
      simp only [wx, wy, wz, stV, seval, IntWalk.iteOmega, IntWalk.toNatUp, reduceCtorEq]
      refine st_call (rsnd_c G a ha1 ha2) rfl (.inl rfl) ?_
      simp only [wx, wy, wz, stV, seval, IntWalk.iteOmega, IntWalk.toNatUp, reduceCtorEq]
      refine st_call (prt_c G a) rfl (.inl rfl) ?_
      simp only [wx, wy, wz, stV, seval, IntWalk.iteOmega, IntWalk.toNatUp, reduceCtorEq]
      refine st_call (rprt_c G a ha1 ha2) rfl (.inl rfl) ?_
      simp only [wx, wy, wz, stV, seval, IntWalk.iteOmega, IntWalk.toNatUp, reduceCtorEq]
      refine st_call (dwn_c G W hw0 hw1) rfl (.inl rfl) ?_
      simp only [wx, wy, wz, stV, seval, IntWalk.iteOmega, IntWalk.toNatUp, reduceCtorEq]
      refine st_call (rdwn_c G W hw0 hw1) rfl (.inl rfl) ?_
      simp only [wx, wy, wz, stV, seval, IntWalk.iteOmega, IntWalk.toNatUp, reduceCtorEq]
      refine st_call (upp_c G W hw0 hw1) rfl (.inl rfl) ?_
      simp only [wx, wy, wz, stV, seval, IntWalk.iteOmega, IntWalk.toNatUp, reduceCtorEq]
      refine st_call (rupp_c G W hw0 hw1) rfl (.inl rfl) ?_
      simp only [wx, wy, wz, stV, seval, IntWalk.iteOmega, IntWalk.toNatUp, reduceCtorEq]
      refine st_call (dly_c G X hx0 hx) rfl (.inl rfl) ?_
      simp only [wx, wy, wz, stV, seval, IntWalk.iteOmega, IntWalk.toNatUp, reduceCtorEq]
      refine st_call (rdly_c G X hx0 hx) rfl (.inl rfl) ?_
      simp only [wx, wy, wz, stV, seval, IntWalk.iteOmega, IntWalk.toNatUp, reduceCtorEq]
      refine st_call (rval_c G a) rfl (.inl rfl) ?_
      simp only [hv, wx, wy, wz, stV, seval, IntWalk.iteOmega, IntWalk.toNatUp, reduceCtorEq]
      exact ret_d1 (by simp only [wx, wy, wz, stV, seval, IntWalk.iteOmega, IntWalk.toNatUp, reduceCtorEq])
    · simp only [sf_tact, putAll, wx, wy, wz, stV, seval, IntWalk.iteOmega, IntWalk.toNatUp, reduceCtorEq, zl, k']
      refine st_call (div_c G a b up ha1 ha2) rfl (.inl rfl) ?_
      simp only [wx, wy, wz, stV, seval, IntWalk.iteOmega, IntWalk.toNatUp, reduceCtorEq]
      refine st_call (rdiv_c G a b up ha1 ha2) rfl (.inl rfl) ?_
      simp only [wx, wy, wz, stV, seval, IntWalk.iteOmega, IntWalk.toNatUp, reduceCtorEq]
      refine st_call (sca_c G a b up ha1 ha2) rfl (.inl rfl) ?_
      simp only [wx, wy, wz, stV, seval, IntWalk.iteOmega, IntWalk.toNatUp, reduceCtorEq]
      refine st_call (rsca_c G a b up ha1 ha2) rfl (.inl rfl) ?_
      simp only [wx, wy, wz, stV, seval, IntWalk.iteOmega, IntWalk.toNatUp, reduceCtorEq]
      refine st_call (wir_c G a ha1 ha2) rfl (.inl rfl) ?_
      simp only [wx, wy, wz, stV, seval, IntWalk.iteOmega, IntWalk.toNatUp, reduceCtorEq]
      refine st_call (rwir_c G a ha1 ha2) rfl (.inl rfl) ?_
      simp only [wx, wy, wz, stV, seval, IntWalk.iteOmega, IntWalk.toNatUp, reduceCtorEq]
      refine st_call (uni_c G a up ha1 ha2) rfl (.inl rfl) ?_
      simp only [wx, wy, wz, stV, seval, IntWalk.iteOmega, IntWalk.toNatUp, reduceCtorEq]
      refine st_call (runi_c G a up ha1 ha2) rfl (.inl rfl) ?_
      simp only [wx, wy, wz, stV, seval, IntWalk.iteOmega, IntWalk.toNatUp, reduceCtorEq]
      refine st_call (prs_c G hP l (by omega)) rfl (.inl rfl) ?_
      simp only [wx, wy, wz, stV, seval, IntWalk.iteOmega, IntWalk.toNatUp, reduceCtorEq]
      refine st_call (rprs_c G l (by omega)) rfl (.inl rfl) ?_
      simp only [wx, wy, wz, stV, seval, IntWalk.iteOmega, IntWalk.toNatUp, reduceCtorEq]
      refine st_call (hk) rfl (.inl rfl) ?_
      simp only [wx, wy, wz, stV, seval, IntWalk.iteOmega, IntWalk.toNatUp, reduceCtorEq]
      refine st_call (val_c G a) rfl (.inl rfl) ?_
      simp only [hv, wx, wy, wz, stV, seval, IntWalk.iteOmega, IntWalk.toNatUp, reduceCtorEq]
      refine st_call (rval_c G a) rfl (.inl rfl) ?_
      simp only [hv, wx, wy, wz, stV, seval, IntWalk.iteOmega, IntWalk.toNatUp, reduceCtorEq]
      refine st_call (snd_c G a) rfl (.inl rfl) ?_
      simp only [wx, wy, wz, stV, seval, IntWalk.iteOmega, IntWalk.toNatUp, reduceCtorEq]
      refine st_call (rsnd_c G a ha1 ha2) rfl (.inl rfl) ?_
      simp only [wx, wy, wz, stV, seval, IntWalk.iteOmega, IntWalk.toNatUp, reduceCtorEq]
      refine st_call (prt_c G a) rfl (.inl rfl) ?_
      simp only [wx, wy, wz, stV, seval, IntWalk.iteOmega, IntWalk.toNatUp, reduceCtorEq]
      refine st_call (rprt_c G a ha1 ha2) rfl (.inl rfl) ?_
      simp only [wx, wy, wz, stV, seval, IntWalk.iteOmega, IntWalk.toNatUp, reduceCtorEq]
      refine st_call (dwn_c G W hw0 hw1) rfl (.inl rfl) ?_
      simp only [wx, wy, wz, stV, seval, IntWalk.iteOmega, IntWalk.toNatUp, reduceCtorEq]
      refine st_call (rdwn_c G W hw0 hw1) rfl (.inl rfl) ?_
      simp only [wx, wy, wz, stV, seval, IntWalk.iteOmega, IntWalk.toNatUp, reduceCtorEq]
      refine st_call (upp_c G W hw0 hw1) rfl (.inl rfl) ?_
      simp only [wx, wy, wz, stV, seval, IntWalk.iteOmega, IntWalk.toNatUp, reduceCtorEq]
      refine st_call (rupp_c G W hw0 hw1) rfl (.inl rfl) ?_
      simp only [wx, wy, wz, stV, seval, IntWalk.iteOmega, IntWalk.toNatUp, reduceCtorEq]
      refine st_call (dly_c G X hx0 hx) rfl (.inl rfl) ?_
      simp only [wx, wy, wz, stV, seval, IntWalk.iteOmega, IntWalk.toNatUp, reduceCtorEq]
      refine st_call (rdly_c G X hx0 hx) rfl (.inl rfl) ?_
      simp only [wx, wy, wz, stV, seval, IntWalk.iteOmega, IntWalk.toNatUp, reduceCtorEq]
      refine st_call (rval_c G a) rfl (.inl rfl) ?_
      simp only [hv, wx, wy, wz, stV, seval, IntWalk.iteOmega, IntWalk.toNatUp, reduceCtorEq]
      refine st_call (fmt_c G hP a ha1 ha2) rfl (.inl rfl) ?_
      simp only [wx, wy, wz, stV, seval, IntWalk.iteOmega, IntWalk.toNatUp, reduceCtorEq]
      refine st_call (rfmt_c G a ha1 ha2) rfl (.inl rfl) ?_
      simp only [wx, wy, wz, stV, seval, IntWalk.iteOmega, IntWalk.toNatUp, reduceCtorEq]
      exact ret_d1 (by simp only [wx, wy, wz, stV, seval, IntWalk.iteOmega, IntWalk.toNatUp, reduceCtorEq])
end Go.Proofs.YtbpkkobhlbiclaaDoor
