/- The law of layer 8 on digits. Own work. -/
import Derived.Test.YtgepbpcolddgoaaAlV
import Derived.Test.YtgepbpcolddgoaaAlX
import Derived.Test.YtgepbpcolddgoaaLh0
set_option linter.unusedVariables false
set_option linter.unusedSimpArgs false
namespace Go.Proofs.Ytgepbpcolddgoaa
open Go.RowKit

def lessB (a b : List UInt8) (i : Nat) : Bool := (List.range i).any fun j => decide (digA a j < digA b j)
theorem lessB_succ (a b : List UInt8) (i : Nat) : lessB a b (i + 1) = (lessB a b i || decide (digA a i < digA b i)) := by unfold lessB; rw [List.range_succ, List.any_append]; simp
theorem lessB_same (a : List UInt8) (i : Nat) : lessB a a i = false := by
  unfold lessB
  rw [List.any_eq_false]
  intro j _
  simp
theorem lessB_ne {a b : List UInt8} (ha : a.length = 16) (hb : b.length = 16) (h : a ≠ b) : lessB a b 35 = true := by
  obtain ⟨i, hi, hlt⟩ := dig_less ha hb h
  unfold lessB
  rw [List.any_eq_true]
  exact ⟨i, List.mem_range.2 hi, decide_eq_true hlt⟩
def sumA (a : List UInt8) (i : Nat) : Nat := lackN ((halfN a).take i)
theorem sumA_succ {a : List UInt8} (h : a.length = 16) {i : Nat} (hi : i < 32) : (sumA a (i + 1) : Int) = (sumA a i : Int) + 15 - (digA a i : Int) := by
  have hl : (halfN a).length = 32 := by rw [halfN_len, h]
  have h1 := digA_le h i
  have h2 := digA_lo (b := a) (i := i) (by omega)
  unfold sumA
  rw [lackN_take (by omega : i < (halfN a).length), ← h2]
  omega
theorem sumA_le {a : List UInt8} (i : Nat) : sumA a i ≤ 15 * i := by
  have := lackN_le ((halfN a).take i)
  rw [List.length_take] at this
  unfold sumA
  omega
theorem sumA_big {a : List UInt8} (h : a.length = 16) {i : Nat} (hi : 32 ≤ i) : sumA a i = lackN (halfN a) := by
  unfold sumA
  rw [List.take_of_length_le (by rw [halfN_len, h]; exact hi)]
def odSt (a b : List UInt8) (i : Nat) : St := ⟨ofL [(0, .w (.c (.d (.sl (a.map bD))))), (1, .w (.c (.d (.sl (b.map bD))))), (7, .w (.c (.d (.sl ((digN a).map iD))))), (9, .w (.c (.d (.sl ((digN b).map iD))))), (11, .w (.c (.d (.bool (lessB a b i))))), (12, .w (.c (.d (.bool (lessB b a i))))), (13, .w (.c (.d (.int .i64 (sumA a i : Int))))), (14, .w (.c (.d (.int .i64 (i : Int)))))], hL [], uL []⟩
def lp_odig_0 : SCode :=
  .seq (.seq (.reg [⟨(some 62), .mv (.t 14), none⟩,
    ⟨(some 63), .bin .lss (.t 62) (.k (.c (.d (.int .i64 35)))), none⟩])
  (.cond (.t 63) (.skip)
   (.exit 0)))
  (.seq (.block 1 (.seq (.seq (.reg [⟨(some 66), .mv (.t 7), none⟩,
     ⟨(some 67), .mv (.t 14), none⟩,
     ⟨(some 68), .idxSl 1 (.t 66) (.t 67), none⟩,
     ⟨(some 69), .load .sc (.t 68), none⟩,
     ⟨(some 70), .bin .lss (.t 69) (.k (.c (.d (.int .i64 0)))), none⟩,
     ⟨(some 71), .mv (.t 70), none⟩,
     ⟨(some 72), .mv (.t 7), (some (71, false))⟩,
     ⟨(some 73), .mv (.t 14), (some (71, false))⟩,
     ⟨(some 74), .idxSl 1 (.t 72) (.t 73), (some (71, false))⟩,
     ⟨(some 75), .load .sc (.t 74), (some (71, false))⟩,
     ⟨(some 76), .bin .gtr (.t 75) (.k (.c (.d (.int .i64 15)))), (some (71, false))⟩,
     ⟨(some 77), .pick (.t 71) (.k (.c (.d (.bool true)))) (.t 76), none⟩])
   (.cond (.t 77) (.seq (.reg [⟨(some 4), .mv (.k (.c (.d (.bool false)))), none⟩])
    (.ret))
    (.skip)))
   (.seq (.reg [⟨(some 78), .mv (.t 11), none⟩,
     ⟨(some 79), .mv (.t 78), none⟩,
     ⟨(some 80), .mv (.t 7), (some (79, false))⟩,
     ⟨(some 81), .mv (.t 14), (some (79, false))⟩,
     ⟨(some 82), .idxSl 1 (.t 80) (.t 81), (some (79, false))⟩,
     ⟨(some 83), .load .sc (.t 82), (some (79, false))⟩,
     ⟨(some 84), .mv (.t 9), (some (79, false))⟩,
     ⟨(some 85), .mv (.t 14), (some (79, false))⟩,
     ⟨(some 86), .idxSl 1 (.t 84) (.t 85), (some (79, false))⟩,
     ⟨(some 87), .load .sc (.t 86), (some (79, false))⟩,
     ⟨(some 88), .bin .lss (.t 83) (.t 87), (some (79, false))⟩,
     ⟨(some 89), .pick (.t 79) (.k (.c (.d (.bool true)))) (.t 88), none⟩,
     ⟨(some 90), .mv (.t 12), none⟩,
     ⟨(some 91), .mv (.t 90), none⟩,
     ⟨(some 92), .mv (.t 7), (some (91, false))⟩,
     ⟨(some 93), .mv (.t 14), (some (91, false))⟩,
     ⟨(some 94), .idxSl 1 (.t 92) (.t 93), (some (91, false))⟩,
     ⟨(some 95), .load .sc (.t 94), (some (91, false))⟩,
     ⟨(some 96), .mv (.t 9), (some (91, false))⟩,
     ⟨(some 97), .mv (.t 14), (some (91, false))⟩,
     ⟨(some 98), .idxSl 1 (.t 96) (.t 97), (some (91, false))⟩,
     ⟨(some 99), .load .sc (.t 98), (some (91, false))⟩,
     ⟨(some 100), .bin .gtr (.t 95) (.t 99), (some (91, false))⟩,
     ⟨(some 101), .pick (.t 91) (.k (.c (.d (.bool true)))) (.t 100), none⟩,
     ⟨(some 11), .mv (.t 89), none⟩,
     ⟨(some 12), .mv (.t 101), none⟩])
   (.seq (.reg [⟨(some 102), .mv (.t 14), none⟩,
     ⟨(some 103), .bin .lss (.t 102) (.k (.c (.d (.int .i64 32)))), none⟩])
   (.cond (.t 103) (.reg [⟨(some 104), .mv (.t 13), none⟩,
      ⟨(some 105), .bin .add (.t 104) (.k (.c (.d (.int .i64 15)))), none⟩,
      ⟨(some 106), .mv (.t 7), none⟩,
      ⟨(some 107), .mv (.t 14), none⟩,
      ⟨(some 108), .idxSl 1 (.t 106) (.t 107), none⟩,
      ⟨(some 109), .load .sc (.t 108), none⟩,
      ⟨(some 110), .bin .sub (.t 105) (.t 109), none⟩,
      ⟨(some 13), .mv (.t 110), none⟩])
    (.skip))))))
  (.reg [⟨(some 64), .mv (.t 14), none⟩,
    ⟨(some 65), .bin .add (.t 64) (.k (.c (.d (.int .i64 1)))), none⟩,
    ⟨(some 14), .mv (.t 65), none⟩]))
def sf_odig : SFn := ⟨2, 152,
  .seq (.reg [⟨(some 4), .mv (.k (.c (.d (.bool false)))), none⟩])
  (.seq (.seq (.reg [⟨(some 15), .mv (.t 0), none⟩,
    ⟨(some 16), .len (.t 15), none⟩,
    ⟨(some 17), .bin .neq (.t 16) (.k (.c (.d (.int .i64 16)))), none⟩,
    ⟨(some 18), .mv (.t 17), none⟩,
    ⟨(some 19), .mv (.t 1), (some (18, false))⟩,
    ⟨(some 20), .len (.t 19), (some (18, false))⟩,
    ⟨(some 21), .bin .neq (.t 20) (.k (.c (.d (.int .i64 16)))), (some (18, false))⟩,
    ⟨(some 22), .pick (.t 18) (.k (.c (.d (.bool true)))) (.t 21), none⟩])
  (.cond (.t 22) (.seq (.reg [⟨(some 24), .mv (.t 0), none⟩,
     ⟨(some 25), .make 1 1 (.int .u8 0) (.k (.c (.d (.int .i64 17)))) (.k (.c (.d (.int .i64 17)))), none⟩,
     ⟨(some 26), .bldFz 2 1 (.sl []) [(0, (.t 24)), (1, (.t 25))], none⟩,
     ⟨(some 27), .call 5 [(.t 26)] none, none⟩,
     ⟨(some 28), .call 4 [(.t 27)] none, none⟩,
     ⟨(some 23), .mv (.t 28), none⟩,
     ⟨(some 29), .extract (.t 23) 0, none⟩,
     ⟨(some 30), .extract (.t 23) 1, none⟩,
     ⟨(some 5), .mv (.t 29), none⟩,
     ⟨(some 6), .mv (.t 30), none⟩])
   (.seq (.reg [⟨(some 31), .call 6 [] none, none⟩,
     ⟨(some 32), .mv (.t 31), none⟩,
     ⟨(some 33), .mv (.t 6), (some (32, true))⟩,
     ⟨(some 34), .bin .eql (.t 33) (.k (.c (.d (.int .i64 3)))), (some (32, true))⟩,
     ⟨(some 35), .pick (.t 32) (.t 34) (.k (.c (.d (.bool false)))), none⟩,
     ⟨(some 4), .mv (.t 35), none⟩])
   (.ret)))
   (.skip)))
  (.seq (.reg [⟨(some 37), .mv (.t 0), none⟩,
    ⟨(some 38), .call 4 [(.t 37)] none, none⟩,
    ⟨(some 36), .mv (.t 38), none⟩,
    ⟨(some 39), .extract (.t 36) 0, none⟩,
    ⟨(some 40), .extract (.t 36) 1, none⟩,
    ⟨(some 7), .mv (.t 39), none⟩,
    ⟨(some 8), .mv (.t 40), none⟩])
  (.seq (.reg [⟨(some 42), .mv (.t 1), none⟩,
    ⟨(some 43), .call 4 [(.t 42)] none, none⟩,
    ⟨(some 41), .mv (.t 43), none⟩,
    ⟨(some 44), .extract (.t 41) 0, none⟩,
    ⟨(some 45), .extract (.t 41) 1, none⟩,
    ⟨(some 9), .mv (.t 44), none⟩,
    ⟨(some 10), .mv (.t 45), none⟩])
  (.seq (.seq (.reg [⟨(some 46), .mv (.t 8), none⟩,
    ⟨(some 47), .bin .neq (.t 46) (.k (.c (.d (.int .i64 0)))), none⟩,
    ⟨(some 48), .mv (.t 47), none⟩,
    ⟨(some 49), .mv (.t 10), (some (48, false))⟩,
    ⟨(some 50), .bin .neq (.t 49) (.k (.c (.d (.int .i64 0)))), (some (48, false))⟩,
    ⟨(some 51), .pick (.t 48) (.k (.c (.d (.bool true)))) (.t 50), none⟩,
    ⟨(some 52), .mv (.t 51), none⟩,
    ⟨(some 53), .mv (.t 7), (some (52, false))⟩,
    ⟨(some 54), .len (.t 53), (some (52, false))⟩,
    ⟨(some 55), .bin .neq (.t 54) (.k (.c (.d (.int .i64 35)))), (some (52, false))⟩,
    ⟨(some 56), .pick (.t 52) (.k (.c (.d (.bool true)))) (.t 55), none⟩,
    ⟨(some 57), .mv (.t 56), none⟩,
    ⟨(some 58), .mv (.t 9), (some (57, false))⟩,
    ⟨(some 59), .len (.t 58), (some (57, false))⟩,
    ⟨(some 60), .bin .neq (.t 59) (.k (.c (.d (.int .i64 35)))), (some (57, false))⟩,
    ⟨(some 61), .pick (.t 57) (.k (.c (.d (.bool true)))) (.t 60), none⟩])
  (.cond (.t 61) (.seq (.reg [⟨(some 4), .mv (.k (.c (.d (.bool false)))), none⟩])
   (.ret))
   (.skip)))
  (.seq (.reg [⟨(some 11), .mv (.k (.c (.d (.bool false)))), none⟩,
    ⟨(some 12), .mv (.k (.c (.d (.bool false)))), none⟩,
    ⟨(some 13), .mv (.k (.c (.d (.int .i64 0)))), none⟩])
  (.seq (.seq (.reg [⟨(some 14), .mv (.k (.c (.d (.int .i64 0)))), none⟩])
  (.block 0 (.loop lp_odig_0)))
  (.seq (.seq (.reg [⟨(some 111), .mv (.t 13), none⟩,
    ⟨(some 112), .mv (.t 7), none⟩,
    ⟨(some 113), .idxSl 1 (.t 112) (.k (.c (.d (.int .i64 32)))), none⟩,
    ⟨(some 114), .load .sc (.t 113), none⟩,
    ⟨(some 115), .bin .mul (.k (.c (.d (.int .i64 256)))) (.t 114), none⟩,
    ⟨(some 116), .mv (.t 7), none⟩,
    ⟨(some 117), .idxSl 1 (.t 116) (.k (.c (.d (.int .i64 33)))), none⟩,
    ⟨(some 118), .load .sc (.t 117), none⟩,
    ⟨(some 119), .bin .mul (.k (.c (.d (.int .i64 16)))) (.t 118), none⟩,
    ⟨(some 120), .bin .add (.t 115) (.t 119), none⟩,
    ⟨(some 121), .mv (.t 7), none⟩,
    ⟨(some 122), .idxSl 1 (.t 121) (.k (.c (.d (.int .i64 34)))), none⟩,
    ⟨(some 123), .load .sc (.t 122), none⟩,
    ⟨(some 124), .bin .add (.t 120) (.t 123), none⟩,
    ⟨(some 125), .bin .neq (.t 111) (.t 124), none⟩])
  (.cond (.t 125) (.seq (.reg [⟨(some 4), .mv (.k (.c (.d (.bool false)))), none⟩])
   (.ret))
   (.skip)))
  (.seq (.reg [⟨(some 126), .call 6 [] none, none⟩,
    ⟨(some 127), .mv (.t 126), none⟩,
    ⟨(some 128), .mv (.t 0), (some (127, true))⟩,
    ⟨(some 129), .mv (.t 1), (some (127, true))⟩,
    ⟨(some 130), .call 7 [(.t 128), (.t 129)] none, (some (127, true))⟩,
    ⟨(some 131), .mv (.t 130), (some (127, true))⟩,
    ⟨(some 132), .mv (.t 11), (some (131, true))⟩,
    ⟨(some 133), .un .not (.t 132), (some (131, true))⟩,
    ⟨(some 134), .pick (.t 131) (.t 133) (.k (.c (.d (.bool false)))), (some (127, true))⟩,
    ⟨(some 135), .mv (.t 134), (some (127, true))⟩,
    ⟨(some 136), .mv (.t 12), (some (135, true))⟩,
    ⟨(some 137), .un .not (.t 136), (some (135, true))⟩,
    ⟨(some 138), .pick (.t 135) (.t 137) (.k (.c (.d (.bool false)))), (some (127, true))⟩,
    ⟨(some 139), .mv (.t 138), (some (127, true))⟩,
    ⟨(some 140), .mv (.t 0), (some (139, false))⟩,
    ⟨(some 141), .mv (.t 1), (some (139, false))⟩,
    ⟨(some 142), .call 7 [(.t 140), (.t 141)] none, (some (139, false))⟩,
    ⟨(some 143), .un .not (.t 142), (some (139, false))⟩,
    ⟨(some 144), .mv (.t 143), (some (139, false))⟩,
    ⟨(some 145), .mv (.t 11), (some (144, true))⟩,
    ⟨(some 146), .pick (.t 144) (.t 145) (.k (.c (.d (.bool false)))), (some (139, false))⟩,
    ⟨(some 147), .mv (.t 146), (some (139, false))⟩,
    ⟨(some 148), .mv (.t 12), (some (147, true))⟩,
    ⟨(some 149), .pick (.t 147) (.t 148) (.k (.c (.d (.bool false)))), (some (139, false))⟩,
    ⟨(some 150), .pick (.t 139) (.k (.c (.d (.bool true)))) (.t 149), (some (127, true))⟩,
    ⟨(some 151), .pick (.t 127) (.t 150) (.k (.c (.d (.bool false)))), none⟩,
    ⟨(some 4), .mv (.t 151), none⟩])
  (.ret))))))))),
  [(4, none)]⟩
theorem cf_odig : compFn Try.prog { own := [], comp := [], frz := [26], nils := [] } Try.f3 = some sf_odig := by kernel_rfl
set_option maxHeartbeats 1600000 in
theorem odig_c (G : Glob) (a : List UInt8) (ha : a.length ≤ 140737488351232) (b : List UInt8) (hb : b.length ≤ 140737488351232)  : Den Try.prog G 3 [.sl (a.map bD), .sl (b.map bD)] (.w (.c (.d (.bool true)))) := by
  refine den_walk Try.func3 cf_odig rfl rfl ?_
  by_cases k1 : a.length = 16
  · by_cases k2 : b.length = 16
    · have d1 := dgs_c G a (by omega)
      have d2 := dgs_c G b (by omega)
      rw [(dig_ok k1).1, (dig_ok k1).2] at d1
      rw [(dig_ok k2).1, (dig_ok k2).2] at d2
      have l1 : (digN a).length = 35 := by rw [digN_len, k1]
      have l2 : (digN b).length = 35 := by rw [digN_len, k2]
      simp only [sf_odig, putAll, wx, wy, wz, stV, seval, IntWalk.iteOmega, IntWalk.toNatUp, reduceCtorEq, k1, k2]
      refine st_call (d1) rfl (.inl rfl) ?_
      simp only [wx, wy, wz, stV, seval, IntWalk.iteOmega, IntWalk.toNatUp, reduceCtorEq]
      refine st_call (d2) rfl (.inl rfl) ?_
      simp only [l1, l2, wx, wy, wz, stV, seval, IntWalk.iteOmega, IntWalk.toNatUp, reduceCtorEq]
      refine loop_st (odSt a b) (fun i => 35 - i) (fun i => i ≤ 35) 0 (Nat.zero_le _) ?_ ?_
      · have q0 : lessB a b 0 = false := rfl
        have q1 : lessB b a 0 = false := rfl
        have q2 : sumA a 0 = 0 := rfl
        refine ent_l (fun i => i) ?_ ?_ rfl rfl <;> simp only [wx, wex, wez, stV, seval, IntWalk.iteOmega, IntWalk.toNatUp, reduceCtorEq, q0, q1, q2]
      · intro i hi
        by_cases hlt : i < 35
        · have g1 := getI (l := digN a) (j := i) (by omega)
          have g2 := getI (l := digN b) (j := i) (by omega)
          have e1 : (digN a).getD i 0 = digA a i := rfl
          have e2 : (digN b).getD i 0 = digA b i := rfl
          rw [e1] at g1
          rw [e2] at g2
          have x1 := digA_le k1 i
          have x2 := digA_le k2 i
          have s1 := lessB_succ a b i
          have s2 := lessB_succ b a i
          have s3 := sumA_le (a := a) i
          have s4 : sumA a (i + 1) = if i < 32 then sumA a i + 15 - digA a i else sumA a i := by
            by_cases h : i < 32
            · have := sumA_succ k1 h
              rw [if_pos h]; omega
            · rw [if_neg h, sumA_big k1 (by omega), sumA_big k1 (by omega)]
          generalize digA a i = x at *
          generalize digA b i = y at *
          by_cases h32 : i < 32
          · rw [if_pos h32] at s4
            have s5 : ((sumA a (i + 1) : Nat) : Int) = (sumA a i : Int) + 15 - (x : Int) := by omega
            rcases Nat.lt_trichotomy x y with hxy | hxy | hxy
            · rw [decide_eq_true hxy, Bool.or_true] at s1
              rw [decide_eq_false (by omega), Bool.or_false] at s2
              cases hL : lessB a b i <;> cases hM : lessB b a i <;> rw [hM] at s2 <;>
              · simp only [lp_odig_0, odSt, wx, wy, wz, stV, seval, IntWalk.iteOmega, IntWalk.toNatUp, reduceCtorEq, l1, l2, g1, g2, hL, hM]
                refine lop_next (i + 1) (by omega) (by omega) (ent_l (fun i => i) ?_ ?_ rfl rfl) <;> simp only [wx, wex, wez, stV, seval, IntWalk.iteOmega, IntWalk.toNatUp, reduceCtorEq, s1, s2, s5]
            · rw [decide_eq_false (by omega), Bool.or_false] at s1
              rw [decide_eq_false (by omega), Bool.or_false] at s2
              cases hL : lessB a b i <;> cases hM : lessB b a i <;> rw [hL] at s1 <;> rw [hM] at s2 <;>
              · simp only [lp_odig_0, odSt, wx, wy, wz, stV, seval, IntWalk.iteOmega, IntWalk.toNatUp, reduceCtorEq, l1, l2, g1, g2, hL, hM]
                refine lop_next (i + 1) (by omega) (by omega) (ent_l (fun i => i) ?_ ?_ rfl rfl) <;> simp only [wx, wex, wez, stV, seval, IntWalk.iteOmega, IntWalk.toNatUp, reduceCtorEq, s1, s2, s5]
            · rw [decide_eq_false (by omega), Bool.or_false] at s1
              rw [decide_eq_true hxy, Bool.or_true] at s2
              have hgt : ((x : Int) > (y : Int)) = True := eq_true (by omega)
              cases hL : lessB a b i <;> cases hM : lessB b a i <;> rw [hL] at s1 <;>
              · simp only [lp_odig_0, odSt, wx, wy, wz, stV, seval, IntWalk.iteOmega, IntWalk.toNatUp, reduceCtorEq, l1, l2, g1, g2, hL, hM, hgt]
                refine lop_next (i + 1) (by omega) (by omega) (ent_l (fun i => i) ?_ ?_ rfl rfl) <;> simp only [wx, wex, wez, stV, seval, IntWalk.iteOmega, IntWalk.toNatUp, reduceCtorEq, s1, s2, s5]
          · rw [if_neg h32] at s4
            rcases Nat.lt_trichotomy x y with hxy | hxy | hxy
            · rw [decide_eq_true hxy, Bool.or_true] at s1
              rw [decide_eq_false (by omega), Bool.or_false] at s2
              cases hL : lessB a b i <;> cases hM : lessB b a i <;> rw [hM] at s2 <;>
              · simp only [lp_odig_0, odSt, wx, wy, wz, stV, seval, IntWalk.iteOmega, IntWalk.toNatUp, reduceCtorEq, l1, l2, g1, g2, hL, hM]
                refine lop_next (i + 1) (by omega) (by omega) (ent_l (fun i => i) ?_ ?_ rfl rfl) <;> simp only [wx, wex, wez, stV, seval, IntWalk.iteOmega, IntWalk.toNatUp, reduceCtorEq, s1, s2, s4]
            · rw [decide_eq_false (by omega), Bool.or_false] at s1
              rw [decide_eq_false (by omega), Bool.or_false] at s2
              cases hL : lessB a b i <;> cases hM : lessB b a i <;> rw [hL] at s1 <;> rw [hM] at s2 <;>
              · simp only [lp_odig_0, odSt, wx, wy, wz, stV, seval, IntWalk.iteOmega, IntWalk.toNatUp, reduceCtorEq, l1, l2, g1, g2, hL, hM]
                refine lop_next (i + 1) (by omega) (by omega) (ent_l (fun i => i) ?_ ?_ rfl rfl) <;> simp only [wx, wex, wez, stV, seval, IntWalk.iteOmega, IntWalk.toNatUp, reduceCtorEq, s1, s2, s4]
            · rw [decide_eq_false (by omega), Bool.or_false] at s1
              rw [decide_eq_true hxy, Bool.or_true] at s2
              have hgt : ((x : Int) > (y : Int)) = True := eq_true (by omega)
              cases hL : lessB a b i <;> cases hM : lessB b a i <;> rw [hL] at s1 <;>
              · simp only [lp_odig_0, odSt, wx, wy, wz, stV, seval, IntWalk.iteOmega, IntWalk.toNatUp, reduceCtorEq, l1, l2, g1, g2, hL, hM, hgt]
                refine lop_next (i + 1) (by omega) (by omega) (ent_l (fun i => i) ?_ ?_ rfl rfl) <;> simp only [wx, wex, wez, stV, seval, IntWalk.iteOmega, IntWalk.toNatUp, reduceCtorEq, s1, s2, s4]
        · obtain rfl : i = 35 := by omega
          have g1 := getI (l := digN a) (j := 32) (by omega)
          have g2 := getI (l := digN a) (j := 33) (by omega)
          have g3 := getI (l := digN a) (j := 34) (by omega)
          have e1 : (digN a).getD 32 0 = digA a 32 := rfl
          have e2 : (digN a).getD 33 0 = digA a 33 := rfl
          have e3 : (digN a).getD 34 0 = digA a 34 := rfl
          rw [e1] at g1
          rw [e2] at g2
          rw [e3] at g3
          have x1 := digA_le k1 32
          have x2 := digA_le k1 33
          have x3 := digA_le k1 34
          have hs : (sumA a 35 : Int) = 256 * (digA a 32 : Int) + 16 * (digA a 33 : Int) + (digA a 34 : Int) := by
            have := dig_sum k1
            rw [sumA_big k1 (by decide)]
            omega
          have hr := rsame_c G a b
          by_cases hab : a = b
          · have hL : lessB a b 35 = false := by rw [hab]; exact lessB_same _ _
            have hM : lessB b a 35 = false := by rw [hab]; exact lessB_same _ _
            have hq : (a == b) = true := by simp [hab]
            rw [hq] at hr
            generalize digA a 32 = x at *
            generalize digA a 33 = y at *
            generalize digA a 34 = z at *
            simp only [lp_odig_0, odSt, wx, wy, wz, stV, seval, IntWalk.iteOmega, IntWalk.toNatUp, reduceCtorEq, hL, hM, hs, l1, g1, g2, g3]
            refine st_call (known8_c G) rfl (.inl rfl) ?_
            simp only [wx, wy, wz, stV, seval, IntWalk.iteOmega, IntWalk.toNatUp, reduceCtorEq]
            refine st_call (hr) rfl (.inl rfl) ?_
            simp only [wx, wy, wz, stV, seval, IntWalk.iteOmega, IntWalk.toNatUp, reduceCtorEq]
            exact ret_d1 (by simp only [wx, wy, wz, stV, seval, IntWalk.iteOmega, IntWalk.toNatUp, reduceCtorEq])
          · have hL : lessB a b 35 = true := lessB_ne k1 k2 hab
            have hM : lessB b a 35 = true := lessB_ne k2 k1 (fun h => hab h.symm)
            have hq : (a == b) = false := by simp [hab]
            rw [hq] at hr
            generalize digA a 32 = x at *
            generalize digA a 33 = y at *
            generalize digA a 34 = z at *
            simp only [lp_odig_0, odSt, wx, wy, wz, stV, seval, IntWalk.iteOmega, IntWalk.toNatUp, reduceCtorEq, hL, hM, hs, l1, g1, g2, g3]
            refine st_call (known8_c G) rfl (.inl rfl) ?_
            simp only [wx, wy, wz, stV, seval, IntWalk.iteOmega, IntWalk.toNatUp, reduceCtorEq]
            refine st_call (hr) rfl (.inl rfl) ?_
            simp only [wx, wy, wz, stV, seval, IntWalk.iteOmega, IntWalk.toNatUp, reduceCtorEq]
            refine st_call (hr) rfl (.inl rfl) ?_
            simp only [wx, wy, wz, stV, seval, IntWalk.iteOmega, IntWalk.toNatUp, reduceCtorEq]
            exact ret_d1 (by simp only [wx, wy, wz, stV, seval, IntWalk.iteOmega, IntWalk.toNatUp, reduceCtorEq])
    · have t17 : (repL 17 (0 : UInt8)).take 17 = repL 17 0 := rfl
      have hj := rjoin_c G [a, repL 17 0] (by simp) (by simp [repL_len]; omega)
      have hf : [a, repL 17 0].flatten = a ++ repL 17 0 := by simp
      rw [hf] at hj
      simp only [List.map_cons, List.map_nil] at hj
      have hn : ¬ (a ++ repL 17 0).length = 16 := by rw [List.length_append, repL_len]; omega
      have hd := dgs_c G (a ++ repL 17 0) (by rw [List.length_append, repL_len]; omega)
      rw [(dig_no hn).1, (dig_no hn).2] at hd
      generalize a ++ repL 17 0 = z at *
      simp only [sf_odig, putAll, wx, wy, wz, stV, seval, IntWalk.iteOmega, IntWalk.toNatUp, reduceCtorEq, k1, z17o, repL_len, t17]
      refine st_call (hj) rfl (.inl rfl) ?_
      simp only [wx, wy, wz, stV, seval, IntWalk.iteOmega, IntWalk.toNatUp, reduceCtorEq]
      refine st_call (hd) rfl (.inl rfl) ?_
      simp only [wx, wy, wz, stV, seval, IntWalk.iteOmega, IntWalk.toNatUp, reduceCtorEq]
      refine st_call (known8_c G) rfl (.inl rfl) ?_
      simp only [wx, wy, wz, stV, seval, IntWalk.iteOmega, IntWalk.toNatUp, reduceCtorEq]
      exact ret_d1 (by simp only [wx, wy, wz, stV, seval, IntWalk.iteOmega, IntWalk.toNatUp, reduceCtorEq])
  · have t17 : (repL 17 (0 : UInt8)).take 17 = repL 17 0 := rfl
    have hj := rjoin_c G [a, repL 17 0] (by simp) (by simp [repL_len]; omega)
    have hf : [a, repL 17 0].flatten = a ++ repL 17 0 := by simp
    rw [hf] at hj
    simp only [List.map_cons, List.map_nil] at hj
    have hn : ¬ (a ++ repL 17 0).length = 16 := by rw [List.length_append, repL_len]; omega
    have hd := dgs_c G (a ++ repL 17 0) (by rw [List.length_append, repL_len]; omega)
    rw [(dig_no hn).1, (dig_no hn).2] at hd
    generalize a ++ repL 17 0 = z at *
    simp only [sf_odig, putAll, wx, wy, wz, stV, seval, IntWalk.iteOmega, IntWalk.toNatUp, reduceCtorEq, z17o, repL_len, t17]
    refine st_call (hj) rfl (.inl rfl) ?_
    simp only [wx, wy, wz, stV, seval, IntWalk.iteOmega, IntWalk.toNatUp, reduceCtorEq]
    refine st_call (hd) rfl (.inl rfl) ?_
    simp only [wx, wy, wz, stV, seval, IntWalk.iteOmega, IntWalk.toNatUp, reduceCtorEq]
    refine st_call (known8_c G) rfl (.inl rfl) ?_
    simp only [wx, wy, wz, stV, seval, IntWalk.iteOmega, IntWalk.toNatUp, reduceCtorEq]
    exact ret_d1 (by simp only [wx, wy, wz, stV, seval, IntWalk.iteOmega, IntWalk.toNatUp, reduceCtorEq])
end Go.Proofs.Ytgepbpcolddgoaa
