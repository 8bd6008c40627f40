/- Layer 4 on data: a block, in the reference. Own work. -/
import Derived.Test.YtnadfnnkdnakhaaPc8
set_option linter.unusedVariables false
set_option linter.unusedSimpArgs false
namespace Go.Proofs.Ytnadfnnkdnakhaa
open Go.RowKit

theorem macM4_len {key : List UInt8} (h : key.length = 16) : (macM4 key).length = 688 := mB_len (rkK_len h) boxL_len twL_len
def en0St (key b : List UInt8) (i : Nat) : St := ⟨ofL [(1, .w (.c (.d (.sl (b.map bD))))), (2, .w (.c (.rp ((macM4 key).map bD)))), (5, .w (.c (.pa 1 1))), (6, .w (.c (.d (.int .i64 (i : Int)))))], hL [(1, .row 1 ((upL (addF (ofB16 b) (keyF (rkK key) 0)) (repL 16 (0 : UInt8)) i).map bD))], uL [1]⟩
/-- Behind n rounds. -/
def en5St (key b : List UInt8) (n : Nat) : St := ⟨ofL [(2, .w (.c (.rp ((macM4 key).map bD)))), (5, .w (.c (.pa 1 1))), (7, .w (.c (.d (.int .i64 ((n + 1 : Nat) : Int)))))], hL [(1, .row 1 ((toL (encF (keyF (rkK key)) (ofB16 b) n)).map bD))], uL [1]⟩
/-- A round: the bytes replaced, the rows rotated. -/
def en2St (key s : List UInt8) (n c : Nat) : St := ⟨ofL [(2, .w (.c (.rp ((macM4 key).map bD)))), (5, .w (.c (.pa 1 1))), (7, .w (.c (.d (.int .i64 ((n + 1 : Nat) : Int))))), (8, .w (.c (.pa 2 1))), (9, .w (.c (.d (.int .i64 (c : Int)))))], hL [(1, .row 1 (s.map bD)), (2, .row 1 ((upL (shiftF (ofB16 s)) (repL 16 (0 : UInt8)) (4 * c)).map bD))], uL [1, 2]⟩
def en1St (key s : List UInt8) (n c r : Nat) : St := ⟨ofL [(2, .w (.c (.rp ((macM4 key).map bD)))), (5, .w (.c (.pa 1 1))), (7, .w (.c (.d (.int .i64 ((n + 1 : Nat) : Int))))), (8, .w (.c (.pa 2 1))), (9, .w (.c (.d (.int .i64 (c : Int))))), (10, .w (.c (.d (.int .i64 (r : Int)))))], hL [(1, .row 1 (s.map bD)), (2, .row 1 ((upL (shiftF (ofB16 s)) (repL 16 (0 : UInt8)) (4 * c + r)).map bD))], uL [1, 2]⟩
/-- .. the columns, and the round key. -/
def rndF (key s : List UInt8) (n : Nat) : B16 := roundF (keyF (rkK key)) (ofB16 s) (n + 1)
def en4St (key s : List UInt8) (n c : Nat) : St := ⟨ofL [(2, .w (.c (.rp ((macM4 key).map bD)))), (5, .w (.c (.pa 1 1))), (7, .w (.c (.d (.int .i64 ((n + 1 : Nat) : Int))))), (8, .w (.c (.pa 2 1))), (11, .w (.c (.d (.int .i64 (c : Int)))))], hL [(1, .row 1 ((upL (rndF key s n) s (4 * c)).map bD)), (2, .row 1 ((subL s).map bD))], uL [1, 2]⟩
def en3St (key s : List UInt8) (n c r : Nat) : St := ⟨ofL [(2, .w (.c (.rp ((macM4 key).map bD)))), (5, .w (.c (.pa 1 1))), (7, .w (.c (.d (.int .i64 ((n + 1 : Nat) : Int))))), (8, .w (.c (.pa 2 1))), (11, .w (.c (.d (.int .i64 (c : Int))))), (12, .w (.c (.pa 3 1))), (13, .w (.c (.d (.int .i64 (r : Int)))))], hL [(1, .row 1 ((upL (rndF key s n) s (4 * c + r)).map bD)), (2, .row 1 ((subL s).map bD)), (3, .row 1 ((((subL s).drop (4 * c)).take 4).map bD))], uL [1, 2, 3]⟩
theorem rnd_toL (k : Nat → B16) (f : B16) (n : Nat) : toL (roundF k (ofB16 (toL f)) (n + 1)) = toL (roundF k f (n + 1)) := toL_congr fun j hj => by
  unfold roundF
  split
  · unfold addF mixF shiftF
    rw [of_toL f _ (by omega), of_toL f _ (by omega), of_toL f _ (by omega), of_toL f _ (by omega)]
  · unfold addF shiftF
    rw [of_toL f _ (by omega)]
def lp_renc_0 : SCode :=
  .seq (.seq (.reg [⟨(some 15), .mv (.t 6), none⟩,
    ⟨(some 16), .bin .lss (.t 15) (.k (.c (.d (.int .i64 16)))), none⟩])
  (.cond (.t 16) (.skip)
   (.exit 0)))
  (.seq (.block 1 (.reg [⟨(some 19), .mv (.t 6), none⟩,
     ⟨(some 20), .mv (.t 1), none⟩,
     ⟨(some 21), .mv (.t 6), none⟩,
     ⟨(some 22), .idxSl 1 (.t 20) (.t 21), none⟩,
     ⟨(some 23), .load .sc (.t 22), none⟩,
     ⟨(some 24), .mv (.t 6), none⟩,
     ⟨(some 25), .fieldAddr 0 (.t 2), none⟩,
     ⟨(some 26), .idxPa 1 176 (.t 25) (.t 24), none⟩,
     ⟨(some 27), .load .sc (.t 26), none⟩,
     ⟨(some 28), .bin .xor (.t 23) (.t 27), none⟩,
     ⟨(some 29), .idxPa 1 16 (.t 5) (.t 19), none⟩,
     ⟨none, .store .sc (.t 29) (.t 28), none⟩]))
  (.reg [⟨(some 17), .mv (.t 6), none⟩,
    ⟨(some 18), .bin .add (.t 17) (.k (.c (.d (.int .i64 1)))), none⟩,
    ⟨(some 6), .mv (.t 18), none⟩]))
def lp_renc_1 : SCode :=
  .seq (.seq (.reg [⟨(some 38), .mv (.t 10), none⟩,
    ⟨(some 39), .bin .lss (.t 38) (.k (.c (.d (.int .i64 4)))), none⟩])
  (.cond (.t 39) (.skip)
   (.exit 6)))
  (.seq (.block 7 (.reg [⟨(some 42), .mv (.t 10), none⟩,
     ⟨(some 43), .mv (.t 9), none⟩,
     ⟨(some 44), .bin .mul (.k (.c (.d (.int .i64 4)))) (.t 43), none⟩,
     ⟨(some 45), .bin .add (.t 42) (.t 44), none⟩,
     ⟨(some 46), .mv (.t 10), none⟩,
     ⟨(some 47), .mv (.t 9), none⟩,
     ⟨(some 48), .mv (.t 10), none⟩,
     ⟨(some 49), .bin .add (.t 47) (.t 48), none⟩,
     ⟨(some 50), .bin .rem (.t 49) (.k (.c (.d (.int .i64 4)))), none⟩,
     ⟨(some 51), .bin .mul (.k (.c (.d (.int .i64 4)))) (.t 50), none⟩,
     ⟨(some 52), .bin .add (.t 46) (.t 51), none⟩,
     ⟨(some 53), .idxPa 1 16 (.t 5) (.t 52), none⟩,
     ⟨(some 54), .load .sc (.t 53), none⟩,
     ⟨(some 55), .fieldAddr 176 (.t 2), none⟩,
     ⟨(some 56), .idxPa 1 256 (.t 55) (.t 54), none⟩,
     ⟨(some 57), .load .sc (.t 56), none⟩,
     ⟨(some 58), .idxPa 1 16 (.t 8) (.t 45), none⟩,
     ⟨none, .store .sc (.t 58) (.t 57), none⟩]))
  (.reg [⟨(some 40), .mv (.t 10), none⟩,
    ⟨(some 41), .bin .add (.t 40) (.k (.c (.d (.int .i64 1)))), none⟩,
    ⟨(some 10), .mv (.t 41), none⟩]))
def lp_renc_2 : SCode :=
  .seq (.seq (.reg [⟨(some 34), .mv (.t 9), none⟩,
    ⟨(some 35), .bin .lss (.t 34) (.k (.c (.d (.int .i64 4)))), none⟩])
  (.cond (.t 35) (.skip)
   (.exit 4)))
  (.seq (.block 5 (.seq (.reg [⟨(some 10), .mv (.k (.c (.d (.int .i64 0)))), none⟩])
   (.block 6 (.loop lp_renc_1))))
  (.reg [⟨(some 36), .mv (.t 9), none⟩,
    ⟨(some 37), .bin .add (.t 36) (.k (.c (.d (.int .i64 1)))), none⟩,
    ⟨(some 9), .mv (.t 37), none⟩]))
def lp_renc_3 : SCode :=
  .seq (.seq (.reg [⟨(some 83), .mv (.t 13), none⟩,
    ⟨(some 84), .bin .lss (.t 83) (.k (.c (.d (.int .i64 4)))), none⟩])
  (.cond (.t 84) (.skip)
   (.exit 10)))
  (.seq (.block 11 (.seq (.reg [⟨(some 87), .mv (.t 13), none⟩,
     ⟨(some 88), .idxPa 1 4 (.t 12) (.t 87), none⟩,
     ⟨(some 89), .load .sc (.t 88), none⟩,
     ⟨(some 14), .mv (.t 89), none⟩])
   (.seq (.seq (.reg [⟨(some 90), .mv (.t 7), none⟩,
     ⟨(some 91), .bin .lss (.t 90) (.k (.c (.d (.int .i64 10)))), none⟩])
   (.cond (.t 91) (.reg [⟨(some 92), .mv (.t 13), none⟩,
      ⟨(some 93), .idxPa 1 4 (.t 12) (.t 92), none⟩,
      ⟨(some 94), .load .sc (.t 93), none⟩,
      ⟨(some 95), .fieldAddr 432 (.t 2), none⟩,
      ⟨(some 96), .idxPa 1 256 (.t 95) (.t 94), none⟩,
      ⟨(some 97), .load .sc (.t 96), none⟩,
      ⟨(some 98), .mv (.t 13), none⟩,
      ⟨(some 99), .bin .add (.t 98) (.k (.c (.d (.int .i64 1)))), none⟩,
      ⟨(some 100), .bin .rem (.t 99) (.k (.c (.d (.int .i64 4)))), none⟩,
      ⟨(some 101), .idxPa 1 4 (.t 12) (.t 100), none⟩,
      ⟨(some 102), .load .sc (.t 101), none⟩,
      ⟨(some 103), .fieldAddr 432 (.t 2), none⟩,
      ⟨(some 104), .idxPa 1 256 (.t 103) (.t 102), none⟩,
      ⟨(some 105), .load .sc (.t 104), none⟩,
      ⟨(some 106), .bin .xor (.t 97) (.t 105), none⟩,
      ⟨(some 107), .mv (.t 13), none⟩,
      ⟨(some 108), .bin .add (.t 107) (.k (.c (.d (.int .i64 1)))), none⟩,
      ⟨(some 109), .bin .rem (.t 108) (.k (.c (.d (.int .i64 4)))), none⟩,
      ⟨(some 110), .idxPa 1 4 (.t 12) (.t 109), none⟩,
      ⟨(some 111), .load .sc (.t 110), none⟩,
      ⟨(some 112), .bin .xor (.t 106) (.t 111), none⟩,
      ⟨(some 113), .mv (.t 13), none⟩,
      ⟨(some 114), .bin .add (.t 113) (.k (.c (.d (.int .i64 2)))), none⟩,
      ⟨(some 115), .bin .rem (.t 114) (.k (.c (.d (.int .i64 4)))), none⟩,
      ⟨(some 116), .idxPa 1 4 (.t 12) (.t 115), none⟩,
      ⟨(some 117), .load .sc (.t 116), none⟩,
      ⟨(some 118), .bin .xor (.t 112) (.t 117), none⟩,
      ⟨(some 119), .mv (.t 13), none⟩,
      ⟨(some 120), .bin .add (.t 119) (.k (.c (.d (.int .i64 3)))), none⟩,
      ⟨(some 121), .bin .rem (.t 120) (.k (.c (.d (.int .i64 4)))), none⟩,
      ⟨(some 122), .idxPa 1 4 (.t 12) (.t 121), none⟩,
      ⟨(some 123), .load .sc (.t 122), none⟩,
      ⟨(some 124), .bin .xor (.t 118) (.t 123), none⟩,
      ⟨(some 14), .mv (.t 124), none⟩])
    (.skip)))
   (.reg [⟨(some 125), .mv (.t 13), none⟩,
     ⟨(some 126), .mv (.t 11), none⟩,
     ⟨(some 127), .bin .mul (.k (.c (.d (.int .i64 4)))) (.t 126), none⟩,
     ⟨(some 128), .bin .add (.t 125) (.t 127), none⟩,
     ⟨(some 129), .mv (.t 14), none⟩,
     ⟨(some 130), .mv (.t 7), none⟩,
     ⟨(some 131), .bin .mul (.k (.c (.d (.int .i64 16)))) (.t 130), none⟩,
     ⟨(some 132), .mv (.t 13), none⟩,
     ⟨(some 133), .bin .add (.t 131) (.t 132), none⟩,
     ⟨(some 134), .mv (.t 11), none⟩,
     ⟨(some 135), .bin .mul (.k (.c (.d (.int .i64 4)))) (.t 134), none⟩,
     ⟨(some 136), .bin .add (.t 133) (.t 135), none⟩,
     ⟨(some 137), .fieldAddr 0 (.t 2), none⟩,
     ⟨(some 138), .idxPa 1 176 (.t 137) (.t 136), none⟩,
     ⟨(some 139), .load .sc (.t 138), none⟩,
     ⟨(some 140), .bin .xor (.t 129) (.t 139), none⟩,
     ⟨(some 141), .idxPa 1 16 (.t 5) (.t 128), none⟩,
     ⟨none, .store .sc (.t 141) (.t 140), none⟩]))))
  (.reg [⟨(some 85), .mv (.t 13), none⟩,
    ⟨(some 86), .bin .add (.t 85) (.k (.c (.d (.int .i64 1)))), none⟩,
    ⟨(some 13), .mv (.t 86), none⟩]))
def lp_renc_4 : SCode :=
  .seq (.seq (.reg [⟨(some 59), .mv (.t 11), none⟩,
    ⟨(some 60), .bin .lss (.t 59) (.k (.c (.d (.int .i64 4)))), none⟩])
  (.cond (.t 60) (.skip)
   (.exit 8)))
  (.seq (.block 9 (.seq (.reg [⟨(some 63), .mv (.t 11), none⟩,
     ⟨(some 64), .bin .mul (.k (.c (.d (.int .i64 4)))) (.t 63), none⟩,
     ⟨(some 65), .idxPa 1 16 (.t 8) (.t 64), none⟩,
     ⟨(some 66), .load .sc (.t 65), none⟩,
     ⟨(some 67), .mv (.t 11), none⟩,
     ⟨(some 68), .bin .mul (.k (.c (.d (.int .i64 4)))) (.t 67), none⟩,
     ⟨(some 69), .bin .add (.t 68) (.k (.c (.d (.int .i64 1)))), none⟩,
     ⟨(some 70), .idxPa 1 16 (.t 8) (.t 69), none⟩,
     ⟨(some 71), .load .sc (.t 70), none⟩,
     ⟨(some 72), .mv (.t 11), none⟩,
     ⟨(some 73), .bin .mul (.k (.c (.d (.int .i64 4)))) (.t 72), none⟩,
     ⟨(some 74), .bin .add (.t 73) (.k (.c (.d (.int .i64 2)))), none⟩,
     ⟨(some 75), .idxPa 1 16 (.t 8) (.t 74), none⟩,
     ⟨(some 76), .load .sc (.t 75), none⟩,
     ⟨(some 77), .mv (.t 11), none⟩,
     ⟨(some 78), .bin .mul (.k (.c (.d (.int .i64 4)))) (.t 77), none⟩,
     ⟨(some 79), .bin .add (.t 78) (.k (.c (.d (.int .i64 3)))), none⟩,
     ⟨(some 80), .idxPa 1 16 (.t 8) (.t 79), none⟩,
     ⟨(some 81), .load .sc (.t 80), none⟩,
     ⟨(some 82), .build [(.d (.int .u8 0)), (.d (.int .u8 0)), (.d (.int .u8 0)), (.d (.int .u8 0))] [(0, 1, (.t 66)), (1, 1, (.t 71)), (2, 1, (.t 76)), (3, 1, (.t 81))], none⟩,
     ⟨(some 12), .allocArr [(.int .u8 0), (.int .u8 0), (.int .u8 0), (.int .u8 0)], none⟩,
     ⟨none, .store (.ag 4) (.t 12) (.t 82), none⟩])
   (.seq (.reg [⟨(some 13), .mv (.k (.c (.d (.int .i64 0)))), none⟩])
   (.block 10 (.loop lp_renc_3)))))
  (.reg [⟨(some 61), .mv (.t 11), none⟩,
    ⟨(some 62), .bin .add (.t 61) (.k (.c (.d (.int .i64 1)))), none⟩,
    ⟨(some 11), .mv (.t 62), none⟩]))
def lp_renc_5 : SCode :=
  .seq (.seq (.reg [⟨(some 30), .mv (.t 7), none⟩,
    ⟨(some 31), .bin .leq (.t 30) (.k (.c (.d (.int .i64 10)))), none⟩])
  (.cond (.t 31) (.skip)
   (.exit 2)))
  (.seq (.block 3 (.seq (.reg [⟨(some 8), .allocArr [(.int .u8 0), (.int .u8 0), (.int .u8 0), (.int .u8 0), (.int .u8 0), (.int .u8 0), (.int .u8 0), (.int .u8 0), (.int .u8 0), (.int .u8 0), (.int .u8 0), (.int .u8 0), (.int .u8 0), (.int .u8 0), (.int .u8 0), (.int .u8 0)], none⟩])
   (.seq (.seq (.reg [⟨(some 9), .mv (.k (.c (.d (.int .i64 0)))), none⟩])
   (.block 4 (.loop lp_renc_2)))
   (.seq (.reg [⟨(some 11), .mv (.k (.c (.d (.int .i64 0)))), none⟩])
   (.block 8 (.loop lp_renc_4))))))
  (.reg [⟨(some 32), .mv (.t 7), none⟩,
    ⟨(some 33), .bin .add (.t 32) (.k (.c (.d (.int .i64 1)))), none⟩,
    ⟨(some 7), .mv (.t 33), none⟩]))
def sf_renc : SFn := ⟨2, 145,
  .seq (.reg [⟨(some 2), .box .roBox (.t 0), none⟩,
    ⟨(some 4), .mv (.k (.c .nil)), none⟩])
  (.seq (.reg [⟨(some 5), .allocArr [(.int .u8 0), (.int .u8 0), (.int .u8 0), (.int .u8 0), (.int .u8 0), (.int .u8 0), (.int .u8 0), (.int .u8 0), (.int .u8 0), (.int .u8 0), (.int .u8 0), (.int .u8 0), (.int .u8 0), (.int .u8 0), (.int .u8 0), (.int .u8 0)], none⟩])
  (.seq (.seq (.reg [⟨(some 6), .mv (.k (.c (.d (.int .i64 0)))), none⟩])
  (.block 0 (.loop lp_renc_0)))
  (.seq (.seq (.reg [⟨(some 7), .mv (.k (.c (.d (.int .i64 1)))), none⟩])
  (.block 2 (.loop lp_renc_5)))
  (.seq (.reg [⟨(some 142), .bldSl false 0 1 (.int .u8 0) [], none⟩,
    ⟨(some 143), .sliceArr 1 16 (.t 5) none none, none⟩,
    ⟨(some 144), .appN false 1 1 (.t 142) (.t 143), none⟩,
    ⟨(some 4), .mv (.t 144), none⟩])
  (.ret))))),
  [(4, none)]⟩
theorem cf_renc : compFn Try.prog { own := [], comp := [], frz := [], nils := [144] } Try.f25 = some sf_renc := by kernel_rfl
set_option maxRecDepth 20000 in
set_option maxHeartbeats 6400000 in
theorem renc_c (G : Glob) (key b : List UInt8) (h : key.length = 16) (hb : b.length = 16) : Den Try.prog G 25 [.agg ((macM4 key).map bD), .sl (b.map bD)] (.w (.c (.fr 1 ((blockC key b).map bD)))) := by
  refine den_walk Try.func25 cf_renc rfl rfl ?_
  have hM := macM4_len h
  have hrk := rkK_len h
  have kat : ∀ j, j < 176 → (((macM4 key).drop j).take 1)[0]? = some ((rkK key).getD j 0) := fun j hj => by
    rw [List.getElem?_take, if_pos (by decide), List.getElem?_drop]
    unfold macM4
    rw [mB_getA hrk boxL_len (by omega), get_lt (by omega)]; rfl
  have bat : ∀ x : UInt8, ((((macM4 key).drop 176).drop x.toNat).take 1)[0]? = some (subK x) := fun x => by
    rw [List.getElem?_take, if_pos (by decide), List.getElem?_drop, List.getElem?_drop]
    unfold macM4
    rw [Nat.add_zero, mB_getB hrk boxL_len (byte_lt x)]; exact boxL_get x
  have tat : ∀ x : UInt8, ((((macM4 key).drop 432).drop x.toNat).take 1)[0]? = some (twB x) := fun x => by
    rw [List.getElem?_take, if_pos (by decide), List.getElem?_drop, List.getElem?_drop]
    unfold macM4
    rw [Nat.add_zero, mB_getC hrk boxL_len]; exact twL_get x
  simp only [sf_renc, putAll, wx, wy, wz, stV, seval, IntWalk.iteOmega, IntWalk.toNatUp, reduceCtorEq, z16, allDn_bs]
  refine loop_st (en0St key b) (fun i => 16 - i) (fun i => i ≤ 16) 0 (Nat.zero_le _) ?_ ?_
  · refine ent_l (fun i => 40) ?_ ?_ rfl rfl <;> simp only [wx, wex, wez, stV, seval, IntWalk.iteOmega, IntWalk.toNatUp, reduceCtorEq, upL_zero]
  · intro i hi
    have hl : (upL (addF (ofB16 b) (keyF (rkK key) 0)) (repL 16 (0 : UInt8)) i).length = 16 := by rw [upL_len _ _ (by rw [repL_len]; omega), repL_len]
    by_cases hlt : i < 16
    · have g1 : b[i]? = some (b.getD i 0) := get_lt (by omega)
      have g2 := kat i (by omega)
      have x1 := binV_xorB (b.getD i 0) ((rkK key).getD i 0)
      have h3 : i < (upL (addF (ofB16 b) (keyF (rkK key) 0)) (repL 16 (0 : UInt8)) i).length := by omega
      have h5 : (upL (addF (ofB16 b) (keyF (rkK key) 0)) (repL 16 (0 : UInt8)) i).set i (xorB (b.getD i 0) ((rkK key).getD i 0)) = upL (addF (ofB16 b) (keyF (rkK key) 0)) (repL 16 (0 : UInt8)) (i + 1) := by
        rw [← upL_step (addF (ofB16 b) (keyF (rkK key) 0)) (repL 16 (0 : UInt8)) (by rw [repL_len]; omega)]
        unfold addF keyF ofB16
        rw [Nat.mul_zero, Nat.zero_add]
      simp only [lp_renc_0, en0St, wx, wy, wz, stV, seval, IntWalk.iteOmega, IntWalk.toNatUp, reduceCtorEq, len_map, hM, get_map, take_map, drop_map, g1, g2, x1, stO_bs h3 (one_b _), set_bs, h5, hl]
      refine lop_next (i + 1) (by omega) (by omega) (ent_l (fun i => i) ?_ ?_ rfl rfl) <;> simp only [wx, wex, wez, stV, seval, IntWalk.iteOmega, IntWalk.toNatUp, reduceCtorEq]
    · obtain rfl : i = 16 := by omega
      have e : upL (addF (ofB16 b) (keyF (rkK key) 0)) (repL 16 (0 : UInt8)) 16 = toL (encF (keyF (rkK key)) (ofB16 b) 0) := toL_upL _ (repL_len _ _)
      simp only [lp_renc_0, en0St, e, wx, wy, wz, stV, seval, IntWalk.iteOmega, IntWalk.toNatUp, reduceCtorEq]
      refine loop_st (en5St key b) (fun n => 10 - n) (fun n => n ≤ 10) 0 (Nat.zero_le _) ?_ ?_
      · refine ent_l (fun i => i) ?_ ?_ rfl rfl <;> simp only [wx, wex, wez, stV, seval, IntWalk.iteOmega, IntWalk.toNatUp, reduceCtorEq]
      · intro n hn
        by_cases hlt2 : n < 10
        · simp only [lp_renc_5, en5St, wx, wy, wz, stV, seval, IntWalk.iteOmega, IntWalk.toNatUp, reduceCtorEq, z16]
          have hs : (toL (encF (keyF (rkK key)) (ofB16 b) n)).length = 16 := toL_len _
          have hnext : toL (rndF key (toL (encF (keyF (rkK key)) (ofB16 b) n)) n) = toL (encF (keyF (rkK key)) (ofB16 b) (n + 1)) := rnd_toL _ _ _
          generalize toL (encF (keyF (rkK key)) (ofB16 b) n) = s at *
          refine loop_st (en2St key s n) (fun c => 4 - c) (fun c => c ≤ 4) 0 (Nat.zero_le _) ?_ ?_
          · refine ent_l (fun i => if i = 1 then 1 else 64) ?_ ?_ rfl rfl <;> simp only [wx, wex, wez, stV, seval, IntWalk.iteOmega, IntWalk.toNatUp, reduceCtorEq, upL_zero]
          · intro c hc
            by_cases hlt3 : c < 4
            · simp only [lp_renc_2, en2St, wx, wy, wz, stV, seval, IntWalk.iteOmega, IntWalk.toNatUp, reduceCtorEq]
              refine loop_st (en1St key s n c) (fun r => 4 - r) (fun r => r ≤ 4) 0 (Nat.zero_le _) ?_ ?_
              · refine ent_l (fun i => i) ?_ ?_ rfl rfl <;> simp only [wx, wex, wez, stV, seval, IntWalk.iteOmega, IntWalk.toNatUp, reduceCtorEq, Nat.add_zero]
              · intro r hr
                by_cases hlt4 : r < 4
                · have hl : (upL (shiftF (ofB16 s)) (repL 16 (0 : UInt8)) (4 * c + r)).length = 16 := by rw [upL_len _ _ (by rw [repL_len]; omega), repL_len]
                  have t1 : Int.tmod ((c : Int) + (r : Int)) 4 = (((c + r) % 4 : Nat) : Int) := tmodN (c + r) 4
                  have hm : (c + r) % 4 < 4 := Nat.mod_lt _ (by decide)
                  have g1 : s[r + 4 * ((c + r) % 4)]? = some (ofB16 s (r + 4 * ((c + r) % 4))) := get_lt (by omega)
                  have eidx : r + 4 * c = 4 * c + r := by omega
                  have h3 : 4 * c + r < (upL (shiftF (ofB16 s)) (repL 16 (0 : UInt8)) (4 * c + r)).length := by omega
                  have hsh : shiftF (ofB16 s) (4 * c + r) = subK (ofB16 s (r + 4 * ((c + r) % 4))) := by
                    unfold shiftF
                    rw [show (4 * c + r) % 4 = r by omega, show (4 * c + r) / 4 = c by omega]
                  have h5 := upL_step (shiftF (ofB16 s)) (repL 16 (0 : UInt8)) (i := 4 * c + r) (by rw [repL_len]; omega)
                  rw [hsh] at h5
                  have b1 := bat (ofB16 s (r + 4 * ((c + r) % 4)))
                  have hx := byte_lt (ofB16 s (r + 4 * ((c + r) % 4)))
                  generalize (c + r) % 4 = q at *
                  generalize ofB16 s (r + 4 * q) = x at *
                  simp only [lp_renc_1, en1St, wx, wy, wz, stV, seval, IntWalk.iteOmega, IntWalk.toNatUp, reduceCtorEq, t1, hs, get_map, g1, take_map, drop_map, b1, eidx, stO_bs h3 (one_b _), set_bs, h5, hl]
                  refine lop_next (r + 1) (by omega) (by omega) (ent_l (fun i => i) ?_ ?_ rfl rfl) <;> simp only [wx, wex, wez, stV, seval, IntWalk.iteOmega, IntWalk.toNatUp, reduceCtorEq, Nat.add_assoc]
                · obtain rfl : r = 4 := by omega
                  have e4 : 4 * c + 4 = 4 * (c + 1) := by omega
                  simp only [lp_renc_1, en1St, e4, wx, wy, wz, stV, seval, IntWalk.iteOmega, IntWalk.toNatUp, reduceCtorEq]
                  refine lop_next (c + 1) (by omega) (by omega) (ent_l (fun i => i) ?_ ?_ rfl rfl) <;> simp only [wx, wex, wez, stV, seval, IntWalk.iteOmega, IntWalk.toNatUp, reduceCtorEq]
            · obtain rfl : c = 4 := by omega
              have e : upL (shiftF (ofB16 s)) (repL 16 (0 : UInt8)) (4 * 4) = subL s := toL_upL _ (repL_len _ _)
              simp only [lp_renc_2, en2St, e, wx, wy, wz, stV, seval, IntWalk.iteOmega, IntWalk.toNatUp, reduceCtorEq]
              refine loop_st (en4St key s n) (fun c => 4 - c) (fun c => c ≤ 4) 0 (Nat.zero_le _) ?_ ?_
              · refine ent_l (fun i => i) ?_ ?_ rfl rfl <;> simp only [wx, wex, wez, stV, seval, IntWalk.iteOmega, IntWalk.toNatUp, reduceCtorEq, upL_zero, Nat.mul_zero]
              · intro c hc
                have hsl := subL_len s
                have sat : ∀ j, j < 16 → (subL s)[j]? = some (shiftF (ofB16 s) j) := fun j hj => toL_get _ hj
                by_cases hlt3 : c < 4
                · have a0 := sat (4 * c) (by omega)
                  have a1 := sat (4 * c + 1) (by omega)
                  have a2 := sat (4 * c + 2) (by omega)
                  have a3 := sat (4 * c + 3) (by omega)
                  have hcol : ∀ j, j < 4 → (((subL s).drop (4 * c)).take 4)[j]? = some (shiftF (ofB16 s) (4 * c + j)) := fun j hj => by
                    rw [List.getElem?_take, if_pos hj, List.getElem?_drop]; exact sat _ (by omega)
                  have hcl : (((subL s).drop (4 * c)).take 4).length = 4 := by rw [List.length_take, List.length_drop]; omega
                  have hA : [bD (shiftF (ofB16 s) (4 * c)), bD (shiftF (ofB16 s) (4 * c + 1)), bD (shiftF (ofB16 s) (4 * c + 2)), bD (shiftF (ofB16 s) (4 * c + 3))] = (((subL s).drop (4 * c)).take 4).map bD := by
                    have : ((subL s).drop (4 * c)).take 4 = [shiftF (ofB16 s) (4 * c), shiftF (ofB16 s) (4 * c + 1), shiftF (ofB16 s) (4 * c + 2), shiftF (ofB16 s) (4 * c + 3)] := by
                      apply List.ext_getElem?
                      intro j
                      rcases Nat.lt_or_ge j 4 with hj | hj
                      · rw [hcol j hj]
                        rcases j with _ | _ | _ | _ | j <;> first | rfl | omega
                      · rw [List.getElem?_eq_none (by omega), List.getElem?_eq_none (by simpa using hj)]
                    rw [this]; rfl
                  simp only [lp_renc_4, en4St, wx, wy, wz, stV, seval, IntWalk.iteOmega, IntWalk.toNatUp, reduceCtorEq, get_map, hsl, a0, a1, a2, a3, bC_d, hA, hcl]
                  refine loop_st (en3St key s n c) (fun r => 4 - r) (fun r => r ≤ 4) 0 (Nat.zero_le _) ?_ ?_
                  · refine ent_l (fun i => if i = 3 then 96 else i) ?_ ?_ rfl rfl <;> simp only [wx, wex, wez, stV, seval, IntWalk.iteOmega, IntWalk.toNatUp, reduceCtorEq, Nat.add_zero]
                  · intro r hr
                    by_cases hlt4 : r < 4
                    · have hl : (upL (rndF key s n) s (4 * c + r)).length = 16 := by rw [upL_len _ _ (by omega)]; exact hs
                      have t1 : Int.tmod ((r : Int) + 1) 4 = (((r + 1) % 4 : Nat) : Int) := tmodN (r + 1) 4
                      have t2 : Int.tmod ((r : Int) + 2) 4 = (((r + 2) % 4 : Nat) : Int) := tmodN (r + 2) 4
                      have t3 : Int.tmod ((r : Int) + 3) 4 = (((r + 3) % 4 : Nat) : Int) := tmodN (r + 3) 4
                      have b1 : (r + 1) % 4 < 4 := Nat.mod_lt _ (by decide)
                      have b2 : (r + 2) % 4 < 4 := Nat.mod_lt _ (by decide)
                      have b3 : (r + 3) % 4 < 4 := Nat.mod_lt _ (by decide)
                      have c0 := hcol r hlt4
                      have c1 := hcol _ b1
                      have c2 := hcol _ b2
                      have c3 := hcol _ b3
                      have hk := kat (16 * (n + 1) + r + 4 * c) (by omega)
                      have eidx : r + 4 * c = 4 * c + r := by omega
                      have h3 : 4 * c + r < (upL (rndF key s n) s (4 * c + r)).length := by omega
                      have h5 := upL_step (rndF key s n) s (i := 4 * c + r) (by omega)
                      by_cases hn9 : n + 1 < 10
                      · have hr2 : rndF key s n (4 * c + r) = xorB (mix4 (shiftF (ofB16 s) (4 * c + r)) (shiftF (ofB16 s) (4 * c + (r + 1) % 4)) (shiftF (ofB16 s) (4 * c + (r + 2) % 4)) (shiftF (ofB16 s) (4 * c + (r + 3) % 4))) ((rkK key).getD (16 * (n + 1) + r + 4 * c) 0) := by
                          unfold rndF roundF
                          rw [if_pos hn9]
                          unfold addF mixF keyF
                          rw [show (4 * c + r) / 4 = c by omega, show (4 * c + r) % 4 = r by omega, show 16 * (n + 1) + (4 * c + r) = 16 * (n + 1) + r + 4 * c by omega]
                        rw [hr2] at h5
                        unfold mix4 at h5
                        have w0 := tat (shiftF (ofB16 s) (4 * c + r))
                        have w1 := tat (shiftF (ofB16 s) (4 * c + (r + 1) % 4))
                        have l0 := byte_lt (shiftF (ofB16 s) (4 * c + r))
                        have l1 := byte_lt (shiftF (ofB16 s) (4 * c + (r + 1) % 4))
                        generalize (r + 1) % 4 = r1 at *
                        generalize (r + 2) % 4 = r2 at *
                        generalize (r + 3) % 4 = r3 at *
                        generalize shiftF (ofB16 s) (4 * c + r) = y0 at *
                        generalize shiftF (ofB16 s) (4 * c + r1) = y1 at *
                        generalize shiftF (ofB16 s) (4 * c + r2) = y2 at *
                        generalize shiftF (ofB16 s) (4 * c + r3) = y3 at *
                        generalize (rkK key).getD (16 * (n + 1) + r + 4 * c) 0 = kk at *
                        have x1 := binV_xorB (twB y0) (twB y1)
                        have x2 := binV_xorB (xorB (twB y0) (twB y1)) y1
                        have x3 := binV_xorB (xorB (xorB (twB y0) (twB y1)) y1) y2
                        have x4 := binV_xorB (xorB (xorB (xorB (twB y0) (twB y1)) y1) y2) y3
                        have x5 := binV_xorB (xorB (xorB (xorB (xorB (twB y0) (twB y1)) y1) y2) y3) kk
                        simp only [lp_renc_3, en3St, wx, wy, wz, stV, seval, IntWalk.iteOmega, IntWalk.toNatUp, reduceCtorEq, t1, t2, t3, get_map, hcl, c0, c1, c2, c3, take_map, drop_map, w0, w1, x1, x2, x3, x4, hk, x5, eidx, stO_bs h3 (one_b _), set_bs, h5, hl]
                        refine lop_next (r + 1) (by omega) (by omega) (ent_l (fun i => i) ?_ ?_ rfl rfl) <;> simp only [wx, wex, wez, stV, seval, IntWalk.iteOmega, IntWalk.toNatUp, reduceCtorEq, Nat.add_assoc]
                      · have hr2 : rndF key s n (4 * c + r) = xorB (shiftF (ofB16 s) (4 * c + r)) ((rkK key).getD (16 * (n + 1) + r + 4 * c) 0) := by
                          unfold rndF roundF
                          rw [if_neg hn9]
                          unfold addF keyF
                          rw [show 16 * (n + 1) + (4 * c + r) = 16 * (n + 1) + r + 4 * c by omega]
                        rw [hr2] at h5
                        generalize shiftF (ofB16 s) (4 * c + r) = y0 at *
                        generalize (rkK key).getD (16 * (n + 1) + r + 4 * c) 0 = kk at *
                        have x5 := binV_xorB y0 kk
                        simp only [lp_renc_3, en3St, wx, wy, wz, stV, seval, IntWalk.iteOmega, IntWalk.toNatUp, reduceCtorEq, get_map, hcl, c0, take_map, drop_map, hk, x5, eidx, stO_bs h3 (one_b _), set_bs, h5, hl]
                        refine lop_next (r + 1) (by omega) (by omega) (ent_l (fun i => i) ?_ ?_ rfl rfl) <;> simp only [wx, wex, wez, stV, seval, IntWalk.iteOmega, IntWalk.toNatUp, reduceCtorEq, Nat.add_assoc]
                    · obtain rfl : r = 4 := by omega
                      have e4 : 4 * c + 4 = 4 * (c + 1) := by omega
                      simp only [lp_renc_3, en3St, e4, wx, wy, wz, stV, seval, IntWalk.iteOmega, IntWalk.toNatUp, reduceCtorEq]
                      refine lop_next (c + 1) (by omega) (by omega) (ent_l (fun i => i) ?_ ?_ rfl rfl) <;> simp only [wx, wex, wez, stV, seval, IntWalk.iteOmega, IntWalk.toNatUp, reduceCtorEq]
                · obtain rfl : c = 4 := by omega
                  have e : upL (rndF key s n) s (4 * 4) = toL (rndF key s n) := toL_upL _ hs
                  simp only [lp_renc_4, en4St, e, hnext, wx, wy, wz, stV, seval, IntWalk.iteOmega, IntWalk.toNatUp, reduceCtorEq]
                  refine lop_next (n + 1) (by omega) (by omega) (ent_l (fun i => i) ?_ ?_ rfl rfl) <;> simp only [wx, wex, wez, stV, seval, IntWalk.iteOmega, IntWalk.toNatUp, reduceCtorEq]
        · obtain rfl : n = 10 := by omega
          have e : toL (encF (keyF (rkK key)) (ofB16 b) 10) = blockC key b := rfl
          have hl : (blockC key b).length = 16 := encK_len _ _
          have ht : (blockC key b).take 16 = blockC key b := List.take_of_length_le (by omega)
          simp only [lp_renc_5, en5St, e, wx, wy, wz, stV, seval, IntWalk.iteOmega, IntWalk.toNatUp, reduceCtorEq, hl, len_map, take_map, ht]
          exact ret_f1 (by simp only [St.put, toFr, wx, wy, wz, stV, seval, IntWalk.iteOmega, IntWalk.toNatUp, reduceCtorEq, hl, ht, len_map])
end Go.Proofs.Ytnadfnnkdnakhaa
