/- Through the layers 10 to 15: the sanity check; a client that goes on by its own clock. Own work. -/
import Derived.Test.YtjebhdadegfbdaaAlV
import Derived.Test.YtjebhdadegfbdaaLo0
import Derived.Test.YtjebhdadegfbdaaLn0
set_option linter.unusedVariables false
set_option linter.unusedSimpArgs false
namespace Go.Proofs.Ytjebhdadegfbdaa
open Go.RowKit

def sf_roused15 : SFn := ⟨0, 51,
  .seq (.reg [⟨(some 0), .mv (.k (.c (.d (.bool false)))), none⟩])
  (.seq (.reg [⟨(some 8), .call 36 [(.k (.c (.d (.int .i64 5242880))))] none, none⟩,
    ⟨(some 7), .mv (.t 8), none⟩,
    ⟨(some 9), .extract (.t 7) 0, none⟩,
    ⟨(some 10), .extract (.t 7) 1, none⟩,
    ⟨(some 1), .mv (.t 9), none⟩,
    ⟨(some 2), .mv (.t 10), none⟩])
  (.seq (.reg [⟨(some 12), .build [(.d (.int .i64 0)), (.d (.int .i64 0))] [(0, 1, (.k (.c (.d (.int .i64 0))))), (1, 1, (.k (.c (.d (.int .i64 9437184)))))], none⟩,
    ⟨(some 13), .mv (.t 1), none⟩,
    ⟨(some 14), .call 37 [(.t 12), (.t 13)] none, none⟩,
    ⟨(some 11), .mv (.t 14), none⟩,
    ⟨(some 15), .extract (.t 11) 0, none⟩,
    ⟨(some 16), .extract (.t 11) 1, none⟩,
    ⟨(some 3), .alloc [(.d (.int .i64 0)), (.d (.int .i64 0))], none⟩,
    ⟨none, .store (.ag 2) (.t 3) (.t 15), none⟩,
    ⟨(some 4), .mv (.t 16), none⟩])
  (.seq (.reg [⟨(some 18), .load (.ag 2) (.t 3), none⟩,
    ⟨(some 19), .call 16 [(.t 18), (.k (.c (.d (.int .i64 1048576)))), (.k (.c (.d (.int .i64 1000))))] none, none⟩,
    ⟨(some 17), .mv (.t 19), none⟩,
    ⟨(some 20), .extract (.t 17) 0, none⟩,
    ⟨(some 21), .extract (.t 17) 1, none⟩,
    ⟨(some 5), .alloc [(.d (.int .i64 0)), (.d (.int .i64 0))], none⟩,
    ⟨none, .store (.ag 2) (.t 5) (.t 20), none⟩,
    ⟨(some 6), .mv (.t 21), none⟩])
  (.seq (.reg [⟨(some 22), .mv (.t 2), none⟩,
    ⟨(some 23), .bin .eql (.t 22) (.k (.c (.d (.int .i64 0)))), none⟩,
    ⟨(some 24), .mv (.t 23), none⟩,
    ⟨(some 25), .mv (.t 4), (some (24, true))⟩,
    ⟨(some 26), .bin .eql (.t 25) (.k (.c (.d (.int .i64 0)))), (some (24, true))⟩,
    ⟨(some 27), .pick (.t 24) (.t 26) (.k (.c (.d (.bool false)))), none⟩,
    ⟨(some 28), .mv (.t 27), none⟩,
    ⟨(some 29), .mv (.t 6), (some (28, true))⟩,
    ⟨(some 30), .bin .eql (.t 29) (.k (.c (.d (.int .i64 0)))), (some (28, true))⟩,
    ⟨(some 31), .pick (.t 28) (.t 30) (.k (.c (.d (.bool false)))), none⟩,
    ⟨(some 32), .mv (.t 31), none⟩,
    ⟨(some 33), .load (.ag 2) (.t 3), (some (32, true))⟩,
    ⟨(some 34), .build [(.d (.int .i64 0)), (.d (.int .i64 0))] [(0, 1, (.k (.c (.d (.int .i64 5242880))))), (1, 1, (.k (.c (.d (.int .i64 5242880)))))], (some (32, true))⟩,
    ⟨(some 35), .eqA false [0, 0] (.t 33) (.t 34), (some (32, true))⟩,
    ⟨(some 36), .pick (.t 32) (.t 35) (.k (.c (.d (.bool false)))), none⟩,
    ⟨(some 37), .mv (.t 36), none⟩,
    ⟨(some 38), .load (.ag 2) (.t 5), (some (37, true))⟩,
    ⟨(some 39), .call 41 [(.t 38), (.k (.c (.d (.int .i64 6291456))))] none, (some (37, true))⟩,
    ⟨(some 40), .pick (.t 37) (.t 39) (.k (.c (.d (.bool false)))), none⟩,
    ⟨(some 41), .mv (.t 40), none⟩,
    ⟨(some 42), .fieldAddr 0 (.t 5), (some (41, true))⟩,
    ⟨(some 43), .load .sc (.t 42), (some (41, true))⟩,
    ⟨(some 44), .bin .eql (.t 43) (.k (.c (.d (.int .i64 6291454)))), (some (41, true))⟩,
    ⟨(some 45), .pick (.t 41) (.t 44) (.k (.c (.d (.bool false)))), none⟩,
    ⟨(some 46), .mv (.t 45), none⟩,
    ⟨(some 47), .fieldAddr 1 (.t 5), (some (46, true))⟩,
    ⟨(some 48), .load .sc (.t 47), (some (46, true))⟩,
    ⟨(some 49), .bin .eql (.t 48) (.k (.c (.d (.int .i64 6291458)))), (some (46, true))⟩,
    ⟨(some 50), .pick (.t 46) (.t 49) (.k (.c (.d (.bool false)))), none⟩,
    ⟨(some 0), .mv (.t 50), none⟩])
  (.ret))))),
  [(0, none)]⟩
theorem cf_roused15 : compFn Try.prog { own := [], comp := [], frz := [], nils := [] } Try.f39 = some sf_roused15 := by kernel_rfl
theorem roused15_c (G : Glob) : Den Try.prog G 39 [] (.w (.c (.d (.bool true)))) := by
  refine den_walk Try.func39 cf_roused15 rfl rfl ?_
  have c1 := wir_c G 5242880 (by decide) (by decide)
  rw [show wirV 5242880 = 21474836480 by decide +kernel, show wirE 5242880 = 0 by decide +kernel] at c1
  have c2 := gonl_c G 0 9437184 21474836480 (by decide) (by decide)
  rw [show onlB (21474836480 / 4096) (upV 21474836480) 0 9437184 = true by decide +kernel, show onlE (21474836480 / 4096) (upV 21474836480) 0 9437184 = 0 by decide +kernel, show eraA 0 (upV 21474836480) * 4503599627370496 + 21474836480 / 4096 = 5242880 by decide +kernel, show eraA 0 (upV 21474836480) * 4503599627370496 + upV 21474836480 = 5242880 by decide +kernel, spA_t] at c2
  have c3 := dprj_c G 5242880 5242880 1048576 1000
  rw [show 5242880 + elA 1048576 1000 = 6291454 by decide +kernel, show 5242880 + elB 1048576 1000 = 6291458 by decide +kernel, show carB 5242880 5242880 1048576 1000 6291454 6291458 = true by decide +kernel, show carE 5242880 5242880 1048576 1000 6291454 6291458 = 0 by decide +kernel, spA_t] at c3
  have c4 := ihld_c G 6291454 6291458 6291456
  rw [show hldB 6291454 6291458 6291456 = true by decide +kernel] at c4
  simp only [sf_roused15, putAll, wx, wy, wz, stV, seval, IntWalk.iteOmega, IntWalk.toNatUp, reduceCtorEq]
  refine st_call (c1) rfl (.inl rfl) ?_
  simp only [wx, wy, wz, stV, seval, IntWalk.iteOmega, IntWalk.toNatUp, reduceCtorEq]
  refine st_call (c2) rfl (.inl rfl) ?_
  simp only [wx, wy, wz, stV, seval, IntWalk.iteOmega, IntWalk.toNatUp, reduceCtorEq]
  refine st_call (c3) rfl (.inl rfl) ?_
  simp only [wx, wy, wz, stV, seval, IntWalk.iteOmega, IntWalk.toNatUp, reduceCtorEq]
  refine st_call (c4) rfl (.inl rfl) ?_
  simp only [wx, wy, wz, stV, seval, IntWalk.iteOmega, IntWalk.toNatUp, reduceCtorEq]
  exact ret_d1 (by simp only [wx, wy, wz, stV, seval, IntWalk.iteOmega, IntWalk.toNatUp, reduceCtorEq])
/-! ### Readings one after the other -/
theorem getZ {l : List Int} {i : Nat} (h : i < l.length) : l[i]? = some (l.getD i 0) := by
  rw [List.getD_eq_getElem?_getD, List.getElem?_eq_getElem h]; rfl
def hoE (l : List Int) (i : Nat) : Int := withinN (l.getD i 0) 281474976710656
def hoC (e p : Int) (c : List Int) (i : Nat) : Int := if i < c.length then advN e p (c.getD i 0) else e
def hoD (e p : Int) (c : List Int) (i : Nat) : Int := if fitB e (hoC e p c i) p = true then hoC e p c i else e
def hoN (p : Int) (l c : List Int) (S T N : Int) : Nat → Int × Int × Int
  | 0 => (S, T, N)
  | i + 1 => ((hoN p l c S T N i).1 + elA (hoD (hoE l i) p c i) p, (hoN p l c S T N i).2.1 + elB (hoD (hoE l i) p c i) p, (hoN p l c S T N i).2.2 + hoE l i)
theorem hoE_in (l : List Int) (i : Nat) : 0 ≤ hoE l i ∧ hoE l i < 281474976710656 := withinN_range _ _ (by decide)
theorem hoC_in {e p : Int} (h : inD e p = true) (c : List Int) (i : Nat) : 0 ≤ hoC e p c i ∧ hoC e p c i ≤ 2 * e := by
  obtain ⟨h1, h2, h3, h4⟩ := inD_t h
  have o := ad_order e p h1 h3 h4
  have k := adv_in h (c.getD i 0)
  unfold hoC
  split <;> omega
theorem hoD_in {e p : Int} (h : inD e p = true) (c : List Int) (i : Nat) : 0 ≤ hoD e p c i ∧ hoD e p c i ≤ 2 * e ∧ fitP e (hoD e p c i) p := by
  obtain ⟨h1, h2, h3, h4⟩ := inD_t h
  have k := hoC_in h c i
  unfold hoD
  split
  · rename_i hf
    exact ⟨k.1, k.2, (fitB_t hf).2⟩
  · exact ⟨h1, by omega, fit_same h1 h3⟩
structure HoI (p : Int) (x : Int × Int × Int) (i : Nat) : Prop where
  lo : -1000 ≤ x.1
  a : x.1 ≤ x.2.2
  b : x.2.2 ≤ x.2.1
  hi : x.2.1 ≤ 1500 + (i : Int) * 1125899906842624
theorem ho_ok {p : Int} (h0 : 0 ≤ p) (hp : p ≤ 1000000) (l c : List Int) {S T N : Int} (h : HoI p (S, T, N) 0) : ∀ i, HoI p (hoN p l c S T N i) i
  | 0 => h
  | i + 1 => by
    obtain ⟨k1, k2, k3, k4⟩ := ho_ok h0 hp l c h i
    have e := hoE_in l i
    have hd : inD (hoE l i) p = true := inD_d ⟨by omega, by omega, h0, hp⟩
    obtain ⟨d1, d2, d3⟩ := hoD_in hd c i
    have f := el_fit hp h0 d3
    have o := el_order (hoD (hoE l i) p c i) p d1 h0 hp
    have m := elB_le (hoD (hoE l i) p c i) p d1 h0 hp
    refine ⟨?_, ?_, ?_, ?_⟩ <;> simp only [hoN] <;> omega
def hoSt (p : Int) (l c : List Int) (S T N : Int) (i : Nat) : St := ⟨ofL [(3, .w (.c (.d (.int .i64 p)))), (4, .w (.c (.d (.sl (l.map zD))))), (5, .w (.c (.d (.sl (c.map zD))))), (13, .w (.c (.ptr 1 1 0 0))), (14, .w (.c (.d (.int .i64 (hoN p l c S T N i).2.2)))), (15, .w (.c (.d (.int .i64 (i : Int)))))],
  hL [(1, .box [.d (.int .i64 (hoN p l c S T N i).1), .d (.int .i64 (hoN p l c S T N i).2.1)])], uL [1]⟩
def lp_khol15_0 : SCode :=
  .seq (.seq (.reg [⟨(some 51), .mv (.t 15), none⟩,
    ⟨(some 52), .mv (.t 4), none⟩,
    ⟨(some 53), .len (.t 52), none⟩,
    ⟨(some 54), .bin .lss (.t 51) (.t 53), none⟩])
  (.cond (.t 54) (.skip)
   (.exit 0)))
  (.seq (.block 1 (.seq (.reg [⟨(some 57), .mv (.t 4), none⟩,
     ⟨(some 58), .mv (.t 15), none⟩,
     ⟨(some 59), .idxSl 1 (.t 57) (.t 58), none⟩,
     ⟨(some 60), .load .sc (.t 59), none⟩,
     ⟨(some 61), .call 25 [(.t 60), (.k (.c (.d (.int .i64 281474976710656))))] none, none⟩,
     ⟨(some 16), .mv (.t 61), none⟩])
   (.seq (.reg [⟨(some 63), .mv (.t 16), none⟩,
     ⟨(some 64), .mv (.t 3), none⟩,
     ⟨(some 65), .call 14 [(.t 63), (.t 64)] none, none⟩,
     ⟨(some 62), .mv (.t 65), none⟩,
     ⟨(some 66), .extract (.t 62) 0, none⟩,
     ⟨(some 67), .extract (.t 62) 1, none⟩,
     ⟨(some 17), .alloc [(.d (.int .i64 0)), (.d (.int .i64 0))], none⟩,
     ⟨none, .store (.ag 2) (.t 17) (.t 66), none⟩,
     ⟨(some 18), .mv (.t 67), none⟩])
   (.seq (.seq (.reg [⟨(some 68), .mv (.t 18), none⟩,
     ⟨(some 69), .bin .neq (.t 68) (.k (.c (.d (.int .i64 0)))), none⟩,
     ⟨(some 70), .mv (.t 69), none⟩,
     ⟨(some 71), .fieldAddr 0 (.t 17), (some (70, false))⟩,
     ⟨(some 72), .load .sc (.t 71), (some (70, false))⟩,
     ⟨(some 73), .fieldAddr 1 (.t 17), (some (70, false))⟩,
     ⟨(some 74), .load .sc (.t 73), (some (70, false))⟩,
     ⟨(some 75), .bin .gtr (.t 72) (.t 74), (some (70, false))⟩,
     ⟨(some 76), .pick (.t 70) (.k (.c (.d (.bool true)))) (.t 75), none⟩])
   (.cond (.t 76) (.seq (.reg [⟨(some 12), .mv (.k (.c (.d (.bool false)))), none⟩])
    (.ret))
    (.skip)))
   (.seq (.reg [⟨(some 77), .mv (.t 16), none⟩,
     ⟨(some 19), .mv (.t 77), none⟩])
   (.seq (.seq (.reg [⟨(some 78), .mv (.t 15), none⟩,
     ⟨(some 79), .mv (.t 5), none⟩,
     ⟨(some 80), .len (.t 79), none⟩,
     ⟨(some 81), .bin .lss (.t 78) (.t 80), none⟩])
   (.cond (.t 81) (.reg [⟨(some 82), .fieldAddr 0 (.t 17), none⟩,
      ⟨(some 83), .load .sc (.t 82), none⟩,
      ⟨(some 84), .mv (.t 5), none⟩,
      ⟨(some 85), .mv (.t 15), none⟩,
      ⟨(some 86), .idxSl 1 (.t 84) (.t 85), none⟩,
      ⟨(some 87), .load .sc (.t 86), none⟩,
      ⟨(some 88), .fieldAddr 1 (.t 17), none⟩,
      ⟨(some 89), .load .sc (.t 88), none⟩,
      ⟨(some 90), .fieldAddr 0 (.t 17), none⟩,
      ⟨(some 91), .load .sc (.t 90), none⟩,
      ⟨(some 92), .bin .sub (.t 89) (.t 91), none⟩,
      ⟨(some 93), .bin .add (.t 92) (.k (.c (.d (.int .i64 1)))), none⟩,
      ⟨(some 94), .call 25 [(.t 87), (.t 93)] none, none⟩,
      ⟨(some 95), .bin .add (.t 83) (.t 94), none⟩,
      ⟨(some 19), .mv (.t 95), none⟩])
    (.skip)))
   (.seq (.seq (.reg [⟨(some 96), .mv (.t 16), none⟩,
     ⟨(some 97), .mv (.t 19), none⟩,
     ⟨(some 98), .mv (.t 3), none⟩,
     ⟨(some 99), .call 23 [(.t 96), (.t 97), (.t 98)] none, none⟩,
     ⟨(some 100), .un .not (.t 99), none⟩])
   (.cond (.t 100) (.reg [⟨(some 101), .mv (.t 16), none⟩,
      ⟨(some 19), .mv (.t 101), none⟩])
    (.skip)))
   (.seq (.reg [⟨(some 103), .load (.ag 2) (.t 13), none⟩,
     ⟨(some 104), .mv (.t 19), none⟩,
     ⟨(some 105), .mv (.t 3), none⟩,
     ⟨(some 106), .call 16 [(.t 103), (.t 104), (.t 105)] none, none⟩,
     ⟨(some 102), .mv (.t 106), none⟩,
     ⟨(some 107), .extract (.t 102) 0, none⟩,
     ⟨(some 108), .extract (.t 102) 1, none⟩,
     ⟨(some 20), .alloc [(.d (.int .i64 0)), (.d (.int .i64 0))], none⟩,
     ⟨none, .store (.ag 2) (.t 20) (.t 107), none⟩,
     ⟨(some 21), .mv (.t 108), none⟩])
   (.seq (.seq (.reg [⟨(some 109), .mv (.t 21), none⟩,
     ⟨(some 110), .bin .neq (.t 109) (.k (.c (.d (.int .i64 0)))), none⟩,
     ⟨(some 111), .mv (.t 110), none⟩,
     ⟨(some 112), .load (.ag 2) (.t 20), (some (111, false))⟩,
     ⟨(some 113), .call 42 [(.t 112)] none, (some (111, false))⟩,
     ⟨(some 114), .load (.ag 2) (.t 13), (some (111, false))⟩,
     ⟨(some 115), .call 42 [(.t 114)] none, (some (111, false))⟩,
     ⟨(some 116), .bin .lss (.t 113) (.t 115), (some (111, false))⟩,
     ⟨(some 117), .pick (.t 111) (.k (.c (.d (.bool true)))) (.t 116), none⟩,
     ⟨(some 118), .mv (.t 117), none⟩,
     ⟨(some 119), .fieldAddr 0 (.t 20), (some (118, false))⟩,
     ⟨(some 120), .load .sc (.t 119), (some (118, false))⟩,
     ⟨(some 121), .fieldAddr 0 (.t 13), (some (118, false))⟩,
     ⟨(some 122), .load .sc (.t 121), (some (118, false))⟩,
     ⟨(some 123), .bin .lss (.t 120) (.t 122), (some (118, false))⟩,
     ⟨(some 124), .pick (.t 118) (.k (.c (.d (.bool true)))) (.t 123), none⟩])
   (.cond (.t 124) (.seq (.reg [⟨(some 12), .mv (.k (.c (.d (.bool false)))), none⟩])
    (.ret))
    (.skip)))
   (.seq (.reg [⟨(some 125), .load (.ag 2) (.t 20), none⟩,
     ⟨(some 126), .mv (.t 14), none⟩,
     ⟨(some 127), .mv (.t 16), none⟩,
     ⟨(some 128), .bin .add (.t 126) (.t 127), none⟩,
     ⟨none, .store (.ag 2) (.t 13) (.t 125), none⟩,
     ⟨(some 14), .mv (.t 128), none⟩])
   (.seq (.reg [⟨(some 129), .load (.ag 2) (.t 13), none⟩,
     ⟨(some 130), .mv (.t 14), none⟩,
     ⟨(some 131), .call 28 [(.t 129), (.t 130)] none, none⟩,
     ⟨(some 132), .un .not (.t 131), none⟩])
   (.cond (.t 132) (.seq (.reg [⟨(some 12), .mv (.k (.c (.d (.bool false)))), none⟩])
    (.ret))
    (.skip)))))))))))))
  (.reg [⟨(some 55), .mv (.t 15), none⟩,
    ⟨(some 56), .bin .add (.t 55) (.k (.c (.d (.int .i64 1)))), none⟩,
    ⟨(some 15), .mv (.t 56), none⟩]))
def sf_khol15 : SFn := ⟨6, 165,
  .seq (.reg [⟨(some 12), .mv (.k (.c (.d (.bool false)))), none⟩])
  (.seq (.seq (.reg [⟨(some 26), .mv (.t 4), none⟩,
    ⟨(some 27), .len (.t 26), none⟩,
    ⟨(some 28), .bin .gtr (.t 27) (.k (.c (.d (.int .i64 12)))), none⟩,
    ⟨(some 29), .mv (.t 28), none⟩,
    ⟨(some 30), .mv (.t 5), (some (29, false))⟩,
    ⟨(some 31), .len (.t 30), (some (29, false))⟩,
    ⟨(some 32), .bin .gtr (.t 31) (.k (.c (.d (.int .i64 12)))), (some (29, false))⟩,
    ⟨(some 33), .pick (.t 29) (.k (.c (.d (.bool true)))) (.t 32), none⟩])
  (.cond (.t 33) (.seq (.reg [⟨(some 34), .call 39 [] none, none⟩,
     ⟨(some 12), .mv (.t 34), none⟩])
   (.ret))
   (.skip)))
  (.seq (.reg [⟨(some 35), .mv (.t 0), none⟩,
    ⟨(some 36), .mv (.t 1), none⟩,
    ⟨(some 37), .call 27 [(.t 35), (.t 36)] none, none⟩,
    ⟨(some 13), .alloc [(.d (.int .i64 0)), (.d (.int .i64 0))], none⟩,
    ⟨none, .store (.ag 2) (.t 13) (.t 37), none⟩])
  (.seq (.reg [⟨(some 38), .fieldAddr 0 (.t 13), none⟩,
    ⟨(some 39), .load .sc (.t 38), none⟩,
    ⟨(some 40), .mv (.t 2), none⟩,
    ⟨(some 41), .fieldAddr 1 (.t 13), none⟩,
    ⟨(some 42), .load .sc (.t 41), none⟩,
    ⟨(some 43), .fieldAddr 0 (.t 13), none⟩,
    ⟨(some 44), .load .sc (.t 43), none⟩,
    ⟨(some 45), .bin .sub (.t 42) (.t 44), none⟩,
    ⟨(some 46), .bin .add (.t 45) (.k (.c (.d (.int .i64 1)))), none⟩,
    ⟨(some 47), .call 25 [(.t 40), (.t 46)] none, none⟩,
    ⟨(some 48), .bin .add (.t 39) (.t 47), none⟩,
    ⟨(some 14), .mv (.t 48), none⟩])
  (.seq (.reg [⟨(some 49), .mv (.t 3), none⟩,
    ⟨(some 50), .call 25 [(.t 49), (.k (.c (.d (.int .i64 1000001))))] none, none⟩,
    ⟨(some 3), .mv (.t 50), none⟩])
  (.seq (.seq (.reg [⟨(some 15), .mv (.k (.c (.d (.int .i64 0)))), none⟩])
  (.block 0 (.loop lp_khol15_0)))
  (.seq (.reg [⟨(some 134), .mv (.t 14), none⟩,
    ⟨(some 135), .call 36 [(.t 134)] none, none⟩,
    ⟨(some 133), .mv (.t 135), none⟩,
    ⟨(some 136), .extract (.t 133) 0, none⟩,
    ⟨(some 137), .extract (.t 133) 1, none⟩,
    ⟨(some 22), .mv (.t 136), none⟩,
    ⟨(some 23), .mv (.t 137), none⟩])
  (.seq (.reg [⟨(some 139), .load (.ag 2) (.t 13), none⟩,
    ⟨(some 140), .mv (.t 22), none⟩,
    ⟨(some 141), .call 37 [(.t 139), (.t 140)] none, none⟩,
    ⟨(some 138), .mv (.t 141), none⟩,
    ⟨(some 142), .extract (.t 138) 0, none⟩,
    ⟨(some 143), .extract (.t 138) 1, none⟩,
    ⟨(some 24), .alloc [(.d (.int .i64 0)), (.d (.int .i64 0))], none⟩,
    ⟨none, .store (.ag 2) (.t 24) (.t 142), none⟩,
    ⟨(some 25), .mv (.t 143), none⟩])
  (.seq (.reg [⟨(some 144), .call 39 [] none, none⟩,
    ⟨(some 145), .mv (.t 144), none⟩,
    ⟨(some 146), .mv (.t 23), (some (145, true))⟩,
    ⟨(some 147), .bin .eql (.t 146) (.k (.c (.d (.int .i64 0)))), (some (145, true))⟩,
    ⟨(some 148), .pick (.t 145) (.t 147) (.k (.c (.d (.bool false)))), none⟩,
    ⟨(some 149), .mv (.t 148), none⟩,
    ⟨(some 150), .load (.ag 2) (.t 13), (some (149, true))⟩,
    ⟨(some 151), .call 42 [(.t 150)] none, (some (149, true))⟩,
    ⟨(some 152), .bin .geq (.t 151) (.k (.c (.d (.int .i64 4503599627370494)))), (some (149, true))⟩,
    ⟨(some 153), .mv (.t 152), (some (149, true))⟩,
    ⟨(some 154), .mv (.t 25), (some (153, false))⟩,
    ⟨(some 155), .bin .eql (.t 154) (.k (.c (.d (.int .i64 0)))), (some (153, false))⟩,
    ⟨(some 156), .mv (.t 155), (some (153, false))⟩,
    ⟨(some 157), .load (.ag 2) (.t 24), (some (156, true))⟩,
    ⟨(some 158), .mv (.t 14), (some (156, true))⟩,
    ⟨(some 159), .mv (.t 14), (some (156, true))⟩,
    ⟨(some 160), .build [(.d (.int .i64 0)), (.d (.int .i64 0))] [(0, 1, (.t 158)), (1, 1, (.t 159))], (some (156, true))⟩,
    ⟨(some 161), .eqA false [0, 0] (.t 157) (.t 160), (some (156, true))⟩,
    ⟨(some 162), .pick (.t 156) (.t 161) (.k (.c (.d (.bool false)))), (some (153, false))⟩,
    ⟨(some 163), .pick (.t 153) (.k (.c (.d (.bool true)))) (.t 162), (some (149, true))⟩,
    ⟨(some 164), .pick (.t 149) (.t 163) (.k (.c (.d (.bool false)))), none⟩,
    ⟨(some 12), .mv (.t 164), none⟩])
  (.ret))))))))),
  [(12, none)]⟩
theorem cf_khol15 : compFn Try.prog { own := [], comp := [], frz := [], nils := [] } Try.f11 = some sf_khol15 := by kernel_rfl
set_option maxHeartbeats 1600000 in
theorem khol15_c (G : Glob) (a : Int) (ha1 : -9223372036854775808 ≤ a) (ha2 : a ≤ 9223372036854775807) (b : Int) (hb1 : -9223372036854775808 ≤ b) (hb2 : b ≤ 9223372036854775807) (t : Int) (ht1 : -9223372036854775808 ≤ t) (ht2 : t ≤ 9223372036854775807) (ppb : Int) (hppb1 : -9223372036854775808 ≤ ppb) (hppb2 : ppb ≤ 9223372036854775807) (steps : List Int) (hsteps1 : steps.length ≤ maxLen) (hsteps2 : ∀ n ∈ steps, fitI n) (choices : List Int) (hchoices1 : choices.length ≤ maxLen) (hchoices2 : ∀ n ∈ choices, fitI n)  : Den Try.prog G 11 [.int .i64 a, .int .i64 b, .int .i64 t, .int .i64 ppb, .sl (steps.map zD), .sl (choices.map zD)] (.w (.c (.d (.bool true)))) := by
  refine den_walk Try.func11 cf_khol15 rfl rfl ?_
  have hm : maxLen ≤ 9223372036854775807 := by decide
  by_cases h12 : steps.length > 12
  · have h12' : ((steps.length : Int) > 12) = True := eq_true (by omega)
    simp only [sf_khol15, putAll, wx, wy, wz, stV, seval, IntWalk.iteOmega, IntWalk.toNatUp, reduceCtorEq, h12']
    refine st_call (roused15_c G) rfl (.inl rfl) ?_
    simp only [wx, wy, wz, stV, seval, IntWalk.iteOmega, IntWalk.toNatUp, reduceCtorEq]
    exact ret_d1 (by simp only [wx, wy, wz, stV, seval, IntWalk.iteOmega, IntWalk.toNatUp, reduceCtorEq])
  have l12 : ((steps.length : Int) > 12) = False := eq_false (by omega)
  by_cases h13 : choices.length > 12
  · have h13' : ((choices.length : Int) > 12) = True := eq_true (by omega)
    simp only [sf_khol15, putAll, wx, wy, wz, stV, seval, IntWalk.iteOmega, IntWalk.toNatUp, reduceCtorEq, l12, h13']
    refine st_call (roused15_c G) rfl (.inl rfl) ?_
    simp only [wx, wy, wz, stV, seval, IntWalk.iteOmega, IntWalk.toNatUp, reduceCtorEq]
    exact ret_d1 (by simp only [wx, wy, wz, stV, seval, IntWalk.iteOmega, IntWalk.toNatUp, reduceCtorEq])
  have l13 : ((choices.length : Int) > 12) = False := eq_false (by omega)
  have r1 := withinN_range ppb 1000001 (by decide)
  have r3 := withinN_range a 2000 (by decide)
  have r4 := withinN_range b 500 (by decide)
  have k1 := within_c G ppb 1000001 (by decide)
  have k3 := wspan_c G a b
  obtain ⟨S, hS⟩ : ∃ S, withinN a 2000 - 1000 = S := ⟨_, rfl⟩
  rw [hS] at k3
  obtain ⟨T, hT⟩ : ∃ T, S + withinN b 500 = T := ⟨_, rfl⟩
  rw [hT] at k3
  have r5 := withinN_range t (T - S + 1) (by omega)
  have k5 := within_c G t (T - S + 1) (by omega)
  generalize withinN ppb 1000001 = p at *
  generalize withinN t (T - S + 1) = U at *
  have inv := ho_ok (p := p) (by omega) (by omega) steps choices (S := S) (T := T) (N := S + U) ⟨by simp only; omega, by simp only; omega, by simp only; omega, by simp only; omega⟩
  generalize hN0 : S + U = N0 at *
  simp only [sf_khol15, putAll, wx, wy, wz, stV, seval, IntWalk.iteOmega, IntWalk.toNatUp, reduceCtorEq, l12, l13]
  refine st_call (k3) rfl (.inl rfl) ?_
  simp only [wx, wy, wz, stV, seval, IntWalk.iteOmega, IntWalk.toNatUp, reduceCtorEq]
  refine st_call (k5) rfl (.inl rfl) ?_
  simp only [hN0, wx, wy, wz, stV, seval, IntWalk.iteOmega, IntWalk.toNatUp, reduceCtorEq]
  refine st_call (k1) rfl (.inl rfl) ?_
  simp only [wx, wy, wz, stV, seval, IntWalk.iteOmega, IntWalk.toNatUp, reduceCtorEq]
  refine loop_st (hoSt p steps choices S T N0) (fun i => steps.length - i) (fun i => i ≤ steps.length) 0 (Nat.zero_le _) ?_ ?_
  · have e0 : hoN p steps choices S T N0 0 = (S, T, N0) := rfl
    refine ent_l (fun _ => 104) ?_ ?_ rfl rfl <;> simp only [wx, wex, wez, stV, seval, IntWalk.iteOmega, IntWalk.toNatUp, reduceCtorEq, e0]
  · intro i hi
    obtain ⟨q1, q2, q3, q4⟩ := inv i
    obtain ⟨x, hx⟩ : ∃ x, (hoN p steps choices S T N0 i).1 = x := ⟨_, rfl⟩
    obtain ⟨y, hy⟩ : ∃ y, (hoN p steps choices S T N0 i).2.1 = y := ⟨_, rfl⟩
    obtain ⟨z, hz⟩ : ∃ z, (hoN p steps choices S T N0 i).2.2 = z := ⟨_, rfl⟩
    rw [hx] at q1 q2
    rw [hy] at q3 q4
    rw [hz] at q2 q3
    have y60 : y ≤ 13510798882113000 := by omega
    by_cases hlt : i < steps.length
    · have gs := getZ hlt
      have c1 := within_c G (steps.getD i 0) 281474976710656 (by decide)
      rw [show withinN (steps.getD i 0) 281474976710656 = hoE steps i from rfl] at c1
      have e := hoE_in steps i
      have n1 : (hoN p steps choices S T N0 (i + 1)).1 = x + elA (hoD (hoE steps i) p choices i) p := by rw [← hx]; rfl
      have n2 : (hoN p steps choices S T N0 (i + 1)).2.1 = y + elB (hoD (hoE steps i) p choices i) p := by rw [← hy]; rfl
      have n3 : (hoN p steps choices S T N0 (i + 1)).2.2 = z + hoE steps i := by rw [← hz]; rfl
      generalize hoE steps i = E at *
      have hE : inD E p = true := inD_d ⟨by omega, by omega, by omega, by omega⟩
      obtain ⟨d1, d2, d3⟩ := hoD_in hE choices i
      have f := el_fit (p := p) (by omega) (by omega) d3
      have o := el_order (hoD E p choices i) p d1 (by omega) (by omega)
      have m := elB_le (hoD E p choices i) p d1 (by omega) (by omega)
      have ao := ad_order E p (by omega) (by omega) (by omega)
      have hD : inD (hoD E p choices i) p = true := inD_d ⟨by omega, by omega, by omega, by omega⟩
      have c2 := dadv_c G E p
      rw [hE, ela_0 hE, spA_t] at c2
      have c3 := dfit_c G E (hoC E p choices i) p
      have c4 := dprj_c G x y (hoD E p choices i) p
      obtain ⟨e1, e2⟩ := car_at (a := x) (b := y) (x := x + elA (hoD E p choices i) p) (y := y + elB (hoD E p choices i) p) (okP_d ⟨by omega, by omega, by omega⟩) hD (okP_d ⟨by omega, by omega, by omega⟩)
      rw [e1, e2, spA_t] at c4
      have c5 := iwid_c G (x + elA (hoD E p choices i) p) (y + elB (hoD E p choices i) p)
      rw [show widV (x + elA (hoD E p choices i) p) (y + elB (hoD E p choices i) p) = y + elB (hoD E p choices i) p - (x + elA (hoD E p choices i) p) from if_pos (okP_d ⟨by omega, by omega, by omega⟩)] at c5
      have c6 := iwid_c G x y
      rw [show widV x y = y - x from if_pos (okP_d ⟨by omega, by omega, by omega⟩)] at c6
      have c7 := rhld_c G (x + elA (hoD E p choices i) p) (y + elB (hoD E p choices i) p) (z + E)
      rw [hld_t (okP_d ⟨by omega, by omega, by omega⟩) (by omega) (by omega)] at c7
      have hdd : hoD E p choices i = if fitB E (hoC E p choices i) p = true then hoC E p choices i else E := rfl
      clear e1 e2 d3
      generalize elA (hoD E p choices i) p = A at *
      generalize elB (hoD E p choices i) p = B at *
      generalize hX : x + A = X at *
      generalize hY : y + B = Y at *
      generalize hZ : z + E = Z at *
      have g1 : (adA E p > adB E p) = False := eq_false (by omega)
      have wd : Y - X < y - x ↔ False := ⟨fun k => by omega, fun k => k.elim⟩
      have hw1 : y - x ≤ Y - X := by omega
      have hw2 : x ≤ X := by omega
      by_cases hc : i < choices.length
      · have gc := getZ hc
        have k9 := within_c G (choices.getD i 0) (adB E p - adA E p + 1) (by omega)
        have kw := withinN_range (choices.getD i 0) (adB E p - adA E p + 1) (by omega)
        have hC : adA E p + withinN (choices.getD i 0) (adB E p - adA E p + 1) = hoC E p choices i := by unfold hoC; rw [if_pos hc]; rfl
        have hCi := hoC_in hE choices i
        generalize withinN (choices.getD i 0) (adB E p - adA E p + 1) = W at *
        generalize choices.getD i 0 = V at *
        generalize steps.getD i 0 = V' at *
        generalize hoC E p choices i = C at *
        generalize hoD E p choices i = D at *
        generalize adA E p = A' at *
        generalize adB E p = B' at *
        cases hf : fitB E C p
        · rw [hf] at c3 hdd
          simp only [Bool.false_eq_true, if_false] at hdd
          rw [hdd] at c4
          simp only [lp_khol15_0, hoSt, hx, hy, hz, wx, wy, wz, stV, seval, IntWalk.iteOmega, IntWalk.toNatUp, reduceCtorEq, get_map, gs, zD]
          refine st_call (c1) rfl (.inl rfl) ?_
          simp only [wx, wy, wz, stV, seval, IntWalk.iteOmega, IntWalk.toNatUp, reduceCtorEq]
          refine st_call (c2) rfl (.inl rfl) ?_
          simp only [g1, get_map, gc, zD, wx, wy, wz, stV, seval, IntWalk.iteOmega, IntWalk.toNatUp, reduceCtorEq]
          refine st_call (k9) rfl (.inl rfl) ?_
          simp only [hC, wx, wy, wz, stV, seval, IntWalk.iteOmega, IntWalk.toNatUp, reduceCtorEq]
          refine st_call (c3) rfl (.inl rfl) ?_
          simp only [wx, wy, wz, stV, seval, IntWalk.iteOmega, IntWalk.toNatUp, reduceCtorEq]
          refine st_call (c4) rfl (.inl rfl) ?_
          simp only [wx, wy, wz, stV, seval, IntWalk.iteOmega, IntWalk.toNatUp, reduceCtorEq]
          refine st_call (c5) rfl (.inl rfl) ?_
          simp only [wx, wy, wz, stV, seval, IntWalk.iteOmega, IntWalk.toNatUp, reduceCtorEq]
          refine st_call (c6) rfl (.inl rfl) ?_
          simp only [hZ, wx, wy, wz, stV, seval, IntWalk.iteOmega, IntWalk.toNatUp, reduceCtorEq]
          refine st_call (c7) rfl (.inl rfl) ?_
          simp only [wx, wy, wz, stV, seval, IntWalk.iteOmega, IntWalk.toNatUp, reduceCtorEq]
          refine lop_next (i + 1) (by omega) (by omega) (ent_l (fun i => i) ?_ ?_ rfl rfl) <;> simp only [wx, wex, wez, stV, seval, IntWalk.iteOmega, IntWalk.toNatUp, reduceCtorEq, n1, n2, n3]
        · rw [hf, if_pos rfl] at hdd
          rw [hf] at c3
          rw [hdd] at c4
          simp only [lp_khol15_0, hoSt, hx, hy, hz, wx, wy, wz, stV, seval, IntWalk.iteOmega, IntWalk.toNatUp, reduceCtorEq, get_map, gs, zD]
          refine st_call (c1) rfl (.inl rfl) ?_
          simp only [wx, wy, wz, stV, seval, IntWalk.iteOmega, IntWalk.toNatUp, reduceCtorEq]
          refine st_call (c2) rfl (.inl rfl) ?_
          simp only [g1, get_map, gc, zD, wx, wy, wz, stV, seval, IntWalk.iteOmega, IntWalk.toNatUp, reduceCtorEq]
          refine st_call (k9) rfl (.inl rfl) ?_
          simp only [hC, wx, wy, wz, stV, seval, IntWalk.iteOmega, IntWalk.toNatUp, reduceCtorEq]
          refine st_call (c3) rfl (.inl rfl) ?_
          simp only [wx, wy, wz, stV, seval, IntWalk.iteOmega, IntWalk.toNatUp, reduceCtorEq]
          refine st_call (c4) rfl (.inl rfl) ?_
          simp only [wx, wy, wz, stV, seval, IntWalk.iteOmega, IntWalk.toNatUp, reduceCtorEq]
          refine st_call (c5) rfl (.inl rfl) ?_
          simp only [wx, wy, wz, stV, seval, IntWalk.iteOmega, IntWalk.toNatUp, reduceCtorEq]
          refine st_call (c6) rfl (.inl rfl) ?_
          simp only [hZ, wx, wy, wz, stV, seval, IntWalk.iteOmega, IntWalk.toNatUp, reduceCtorEq]
          refine st_call (c7) rfl (.inl rfl) ?_
          simp only [wx, wy, wz, stV, seval, IntWalk.iteOmega, IntWalk.toNatUp, reduceCtorEq]
          refine lop_next (i + 1) (by omega) (by omega) (ent_l (fun i => i) ?_ ?_ rfl rfl) <;> simp only [wx, wex, wez, stV, seval, IntWalk.iteOmega, IntWalk.toNatUp, reduceCtorEq, n1, n2, n3]
      · have hC : hoC E p choices i = E := by unfold hoC; rw [if_neg hc]
        rw [hC] at c3 hdd
        have hs : fitB E E p = true := fitB_d ⟨by omega, by omega, by omega, by omega, by omega, by omega⟩ (fit_same (by omega) (by omega))
        rw [hs, if_pos rfl] at hdd
        rw [hs] at c3
        rw [hdd] at c4
        generalize steps.getD i 0 = V' at *
        generalize hoD E p choices i = D at *
        generalize adA E p = A' at *
        generalize adB E p = B' at *
        simp only [lp_khol15_0, hoSt, hx, hy, hz, wx, wy, wz, stV, seval, IntWalk.iteOmega, IntWalk.toNatUp, reduceCtorEq, get_map, gs, zD]
        refine st_call (c1) rfl (.inl rfl) ?_
        simp only [wx, wy, wz, stV, seval, IntWalk.iteOmega, IntWalk.toNatUp, reduceCtorEq]
        refine st_call (c2) rfl (.inl rfl) ?_
        simp only [g1, wx, wy, wz, stV, seval, IntWalk.iteOmega, IntWalk.toNatUp, reduceCtorEq]
        refine st_call (c3) rfl (.inl rfl) ?_
        simp only [wx, wy, wz, stV, seval, IntWalk.iteOmega, IntWalk.toNatUp, reduceCtorEq]
        refine st_call (c4) rfl (.inl rfl) ?_
        simp only [wx, wy, wz, stV, seval, IntWalk.iteOmega, IntWalk.toNatUp, reduceCtorEq]
        refine st_call (c5) rfl (.inl rfl) ?_
        simp only [wx, wy, wz, stV, seval, IntWalk.iteOmega, IntWalk.toNatUp, reduceCtorEq]
        refine st_call (c6) rfl (.inl rfl) ?_
        simp only [hZ, wx, wy, wz, stV, seval, IntWalk.iteOmega, IntWalk.toNatUp, reduceCtorEq]
        refine st_call (c7) rfl (.inl rfl) ?_
        simp only [wx, wy, wz, stV, seval, IntWalk.iteOmega, IntWalk.toNatUp, reduceCtorEq]
        refine lop_next (i + 1) (by omega) (by omega) (ent_l (fun i => i) ?_ ?_ rfl rfl) <;> simp only [wx, wex, wez, stV, seval, IntWalk.iteOmega, IntWalk.toNatUp, reduceCtorEq, n1, n2, n3]
    · have c1 := wir_c G z (by omega) (by omega)
      obtain ⟨w1, w2⟩ := wir_at (t := z) (by omega)
      rw [w1, w2] at c1
      have c2 := gonl_c G x y (z % 4503599627370496 * 4096) (by omega) (by omega)
      rw [wir_dn, wir_up] at c2
      have c3 := iwid_c G x y
      rw [show widV x y = y - x from if_pos (okP_d ⟨by omega, by omega, by omega⟩)] at c3
      by_cases hw : y - x < 4503599627370494
      · obtain ⟨o1, o2, o3⟩ := onl_at (t := z) (lo := x) (hi := y) q2 q3 (by omega) (by omega) (by omega)
        have o4 : onlB (z % 4503599627370496) (z % 4503599627370496) x y = true := by unfold onlB; rw [o1, o2]; rfl
        have o5 : onlE (z % 4503599627370496) (z % 4503599627370496) x y = 0 := by unfold onlE; rw [o1, o2]; rfl
        rw [o3, o4, o5, spA_t] at c2
        have g1 : (y - x ≥ 4503599627370494) = False := eq_false (by omega)
        generalize z % 4503599627370496 * 4096 = W at *
        simp only [lp_khol15_0, hoSt, hx, hy, hz, wx, wy, wz, stV, seval, IntWalk.iteOmega, IntWalk.toNatUp, reduceCtorEq]
        refine st_call (c1) rfl (.inl rfl) ?_
        simp only [wx, wy, wz, stV, seval, IntWalk.iteOmega, IntWalk.toNatUp, reduceCtorEq]
        refine st_call (c2) rfl (.inl rfl) ?_
        simp only [wx, wy, wz, stV, seval, IntWalk.iteOmega, IntWalk.toNatUp, reduceCtorEq]
        refine st_call (roused15_c G) rfl (.inl rfl) ?_
        simp only [wx, wy, wz, stV, seval, IntWalk.iteOmega, IntWalk.toNatUp, reduceCtorEq]
        refine st_call (c3) rfl (.inl rfl) ?_
        simp only [g1, wx, wy, wz, stV, seval, IntWalk.iteOmega, IntWalk.toNatUp, reduceCtorEq]
        exact ret_d1 (by simp only [wx, wy, wz, stV, seval, IntWalk.iteOmega, IntWalk.toNatUp, reduceCtorEq])
      · have g1 : (y - x ≥ 4503599627370494) = True := eq_true (by omega)
        generalize onlB (z % 4503599627370496) (z % 4503599627370496) x y = OB at *
        generalize onlE (z % 4503599627370496) (z % 4503599627370496) x y = OE at *
        generalize eraA x (z % 4503599627370496) * 4503599627370496 + z % 4503599627370496 = OV at *
        generalize z % 4503599627370496 * 4096 = W at *
        simp only [lp_khol15_0, hoSt, hx, hy, hz, wx, wy, wz, stV, seval, IntWalk.iteOmega, IntWalk.toNatUp, reduceCtorEq]
        refine st_call (c1) rfl (.inl rfl) ?_
        simp only [wx, wy, wz, stV, seval, IntWalk.iteOmega, IntWalk.toNatUp, reduceCtorEq]
        refine st_call (c2) rfl (.inl rfl) ?_
        simp only [spA, wx, wy, wz, stV, seval, IntWalk.iteOmega, IntWalk.toNatUp, reduceCtorEq]
        refine st_call (roused15_c G) rfl (.inl rfl) ?_
        simp only [wx, wy, wz, stV, seval, IntWalk.iteOmega, IntWalk.toNatUp, reduceCtorEq]
        refine st_call (c3) rfl (.inl rfl) ?_
        simp only [g1, wx, wy, wz, stV, seval, IntWalk.iteOmega, IntWalk.toNatUp, reduceCtorEq]
        exact ret_d1 (by simp only [wx, wy, wz, stV, seval, IntWalk.iteOmega, IntWalk.toNatUp, reduceCtorEq])
end Go.Proofs.Ytjebhdadegfbdaa
