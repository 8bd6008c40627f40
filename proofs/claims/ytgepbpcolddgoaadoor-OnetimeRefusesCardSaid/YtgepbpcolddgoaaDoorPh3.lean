/- Layer 2 on data: a block. Own work. -/
import Derived.Test.YtgepbpcolddgoaaDoorPh2
set_option linter.unusedVariables false
set_option linter.unusedSimpArgs false
namespace Go.Proofs.YtgepbpcolddgoaaDoor
open Go.RowKit

theorem ev_g {G : Glob} {n : Nat} {c : C} (h : G.at n = some c) (f : Nat → V) : ev G f (.g n) = .w (.c c) := by simp [ev, h]
theorem getD_some {l : List UInt32} {i : Nat} (h : i < l.length) : l[i]? = some (l.getD i 0) := by simp [h]
theorem eight {l : List UInt32} (h : l.length = 8) : ∃ a b c d e f g i, l = [a, b, c, d, e, f, g, i] := by
  match l, h with
  | [a, b, c, d, e, f, g, i], _ => exact ⟨a, b, c, d, e, f, g, i, rfl⟩
def Eight.list (s : Eight) : List UInt32 := [s.a, s.b, s.c, s.d, s.e, s.f, s.g, s.h]
theorem step_a (s : Eight) (k w : UInt32) : (s.step k w).a = addW (addW (addW (addW (addW s.h (bigE s.e)) (chW s.e s.f s.g)) k) w) (addW (bigA s.a) (majW s.a s.b s.c)) := rfl
theorem step_b (s : Eight) (k w : UInt32) : (s.step k w).b = s.a := rfl
theorem step_c (s : Eight) (k w : UInt32) : (s.step k w).c = s.b := rfl
theorem step_d (s : Eight) (k w : UInt32) : (s.step k w).d = s.c := rfl
theorem step_e (s : Eight) (k w : UInt32) : (s.step k w).e = addW s.d (addW (addW (addW (addW s.h (bigE s.e)) (chW s.e s.f s.g)) k) w) := rfl
theorem step_f (s : Eight) (k w : UInt32) : (s.step k w).f = s.e := rfl
theorem step_g (s : Eight) (k w : UInt32) : (s.step k w).g = s.f := rfl
theorem step_h (s : Eight) (k w : UInt32) : (s.step k w).h = s.g := rfl
theorem rounds_at (s : Eight) (k w : List UInt32) (n m : Nat) (h : n = m) : s.rounds k w n = s.rounds k w m := by rw [h]

def blSt1 (h : List UInt32) (b : List UInt8) (s : Eight) (n : Nat) : St := ⟨ofL [(2, .w (.c (.pa 1 1))), (4, .w (.c (.pa 2 1))), (5, .w (.c (.pa 3 1))), (6, .w (.c (.d (wD s.a)))), (7, .w (.c (.d (wD s.b)))), (8, .w (.c (.d (wD s.c)))), (9, .w (.c (.d (wD s.d)))), (10, .w (.c (.d (wD s.e)))), (11, .w (.c (.d (wD s.f)))), (12, .w (.c (.d (wD s.g)))), (13, .w (.c (.d (wD s.h)))), (37, .w (.c (.d (.int .i64 (n : Int)))))],
  hL [(1, .row 1 (h.map wD)), (2, .row 1 ((List.replicate 8 (0 : UInt32)).map wD)), (3, .row 1 ((sched b).map wD))], uL [1, 2, 3]⟩
def blR1 (h : List UInt32) (b : List UInt8) (n : Nat) : St := blSt1 h b ((Eight.of h).rounds constK (sched b) n) n
def sumTo (s : Eight) (h : List UInt32) (k : Nat) : List UInt32 := (s.sum h).take k ++ h.drop k
def blSt2 (h : List UInt32) (s : Eight) (n : Nat) : St := ⟨ofL [(2, .w (.c (.pa 1 1))), (4, .w (.c (.pa 2 1))), (108, .w (.c (.d (.agg (s.list.map wD))))), (109, .w (.c (.d (.int .i64 (n : Int)))))],
  hL [(1, .row 1 ((sumTo s h n).map wD)), (2, .row 1 ((List.replicate 8 (0 : UInt32)).map wD))], uL [1, 2]⟩
def lp_block_0 : SCode :=
  .seq (.reg [⟨(some 38), .bin .lss (.t 37) (.k (.c (.d (.int .i64 64)))), none⟩])
  (.seq (.cond (.t 38) (.skip)
   (.exit 0))
  (.seq (.block 1 (.seq (.reg [⟨(some 39), .mv (.t 37), none⟩,
     ⟨(some 14), .mv (.t 39), none⟩])
   (.seq (.reg [⟨(some 40), .mv (.t 13), none⟩,
     ⟨(some 41), .mv (.t 10), none⟩,
     ⟨(some 42), .call 50 [(.t 41), (.k (.c (.d (.int .i64 6))))] none, none⟩,
     ⟨(some 43), .mv (.t 10), none⟩,
     ⟨(some 44), .call 50 [(.t 43), (.k (.c (.d (.int .i64 11))))] none, none⟩,
     ⟨(some 45), .bin .xor (.t 42) (.t 44), none⟩,
     ⟨(some 46), .mv (.t 10), none⟩,
     ⟨(some 47), .call 50 [(.t 46), (.k (.c (.d (.int .i64 25))))] none, none⟩,
     ⟨(some 48), .bin .xor (.t 45) (.t 47), none⟩,
     ⟨(some 49), .bin .add (.t 40) (.t 48), none⟩,
     ⟨(some 50), .mv (.t 10), none⟩,
     ⟨(some 51), .mv (.t 11), none⟩,
     ⟨(some 52), .bin .and (.t 50) (.t 51), none⟩,
     ⟨(some 53), .mv (.t 10), none⟩,
     ⟨(some 54), .un .xor (.t 53), none⟩,
     ⟨(some 55), .mv (.t 12), none⟩,
     ⟨(some 56), .bin .and (.t 54) (.t 55), none⟩,
     ⟨(some 57), .bin .xor (.t 52) (.t 56), none⟩,
     ⟨(some 58), .bin .add (.t 49) (.t 57), none⟩,
     ⟨(some 59), .mv (.t 14), none⟩,
     ⟨(some 60), .idxPa 1 64 (.g 1) (.t 59), none⟩,
     ⟨(some 61), .load .sc (.t 60), none⟩,
     ⟨(some 62), .bin .add (.t 58) (.t 61), none⟩,
     ⟨(some 63), .mv (.t 14), none⟩,
     ⟨(some 64), .idxPa 1 64 (.t 5) (.t 63), none⟩,
     ⟨(some 65), .load .sc (.t 64), none⟩,
     ⟨(some 66), .bin .add (.t 62) (.t 65), none⟩,
     ⟨(some 15), .mv (.t 66), none⟩])
   (.seq (.reg [⟨(some 67), .mv (.t 6), none⟩,
     ⟨(some 68), .call 50 [(.t 67), (.k (.c (.d (.int .i64 2))))] none, none⟩,
     ⟨(some 69), .mv (.t 6), none⟩,
     ⟨(some 70), .call 50 [(.t 69), (.k (.c (.d (.int .i64 13))))] none, none⟩,
     ⟨(some 71), .bin .xor (.t 68) (.t 70), none⟩,
     ⟨(some 72), .mv (.t 6), none⟩,
     ⟨(some 73), .call 50 [(.t 72), (.k (.c (.d (.int .i64 22))))] none, none⟩,
     ⟨(some 74), .bin .xor (.t 71) (.t 73), none⟩,
     ⟨(some 75), .mv (.t 6), none⟩,
     ⟨(some 76), .mv (.t 7), none⟩,
     ⟨(some 77), .bin .and (.t 75) (.t 76), none⟩,
     ⟨(some 78), .mv (.t 6), none⟩,
     ⟨(some 79), .mv (.t 8), none⟩,
     ⟨(some 80), .bin .and (.t 78) (.t 79), none⟩,
     ⟨(some 81), .bin .xor (.t 77) (.t 80), none⟩,
     ⟨(some 82), .mv (.t 7), none⟩,
     ⟨(some 83), .mv (.t 8), none⟩,
     ⟨(some 84), .bin .and (.t 82) (.t 83), none⟩,
     ⟨(some 85), .bin .xor (.t 81) (.t 84), none⟩,
     ⟨(some 86), .bin .add (.t 74) (.t 85), none⟩,
     ⟨(some 16), .mv (.t 86), none⟩])
   (.reg [⟨(some 87), .mv (.t 12), none⟩,
     ⟨(some 88), .mv (.t 11), none⟩,
     ⟨(some 89), .mv (.t 10), none⟩,
     ⟨(some 90), .mv (.t 9), none⟩,
     ⟨(some 91), .mv (.t 15), none⟩,
     ⟨(some 92), .bin .add (.t 90) (.t 91), none⟩,
     ⟨(some 93), .mv (.t 8), none⟩,
     ⟨(some 94), .mv (.t 7), none⟩,
     ⟨(some 95), .mv (.t 6), none⟩,
     ⟨(some 96), .mv (.t 15), none⟩,
     ⟨(some 97), .mv (.t 16), none⟩,
     ⟨(some 98), .bin .add (.t 96) (.t 97), none⟩,
     ⟨(some 13), .mv (.t 87), none⟩,
     ⟨(some 12), .mv (.t 88), none⟩,
     ⟨(some 11), .mv (.t 89), none⟩,
     ⟨(some 10), .mv (.t 92), none⟩,
     ⟨(some 9), .mv (.t 93), none⟩,
     ⟨(some 8), .mv (.t 94), none⟩,
     ⟨(some 7), .mv (.t 95), none⟩,
     ⟨(some 6), .mv (.t 98), none⟩])))))
  (.reg [⟨(some 99), .bin .add (.t 37) (.k (.c (.d (.int .i64 1)))), none⟩,
    ⟨(some 37), .mv (.t 99), none⟩])))
def lp_block_1 : SCode :=
  .seq (.reg [⟨(some 110), .bin .lss (.t 109) (.k (.c (.d (.int .i64 8)))), none⟩])
  (.seq (.cond (.t 110) (.skip)
   (.exit 2))
  (.seq (.block 3 (.seq (.reg [⟨(some 111), .mv (.t 109), none⟩,
     ⟨(some 112), .idxArr 1 8 .sc (.t 108) (.t 109), none⟩,
     ⟨(some 17), .mv (.t 111), none⟩,
     ⟨(some 18), .mv (.t 112), none⟩])
   (.reg [⟨(some 113), .mv (.t 17), none⟩,
     ⟨(some 114), .idxPa 1 8 (.t 2) (.t 113), none⟩,
     ⟨(some 115), .load .sc (.t 114), none⟩,
     ⟨(some 116), .mv (.t 18), none⟩,
     ⟨(some 117), .bin .add (.t 115) (.t 116), none⟩,
     ⟨(some 118), .idxPa 1 8 (.t 2) (.t 113), none⟩,
     ⟨none, .store .sc (.t 118) (.t 117), none⟩])))
  (.reg [⟨(some 119), .bin .add (.t 109) (.k (.c (.d (.int .i64 1)))), none⟩,
    ⟨(some 109), .mv (.t 119), none⟩])))
def sf_block : SFn := ⟨2, 121,
  .seq (.reg [⟨(some 2), .box .ownArr (.t 0), none⟩,
    ⟨(some 4), .allocArr [(.int .u32 0), (.int .u32 0), (.int .u32 0), (.int .u32 0), (.int .u32 0), (.int .u32 0), (.int .u32 0), (.int .u32 0)], none⟩])
  (.seq (.reg [⟨(some 19), .mv (.t 1), none⟩,
    ⟨(some 20), .call 49 [(.t 19)] none, none⟩,
    ⟨(some 5), .allocArr [(.int .u32 0), (.int .u32 0), (.int .u32 0), (.int .u32 0), (.int .u32 0), (.int .u32 0), (.int .u32 0), (.int .u32 0), (.int .u32 0), (.int .u32 0), (.int .u32 0), (.int .u32 0), (.int .u32 0), (.int .u32 0), (.int .u32 0), (.int .u32 0), (.int .u32 0), (.int .u32 0), (.int .u32 0), (.int .u32 0), (.int .u32 0), (.int .u32 0), (.int .u32 0), (.int .u32 0), (.int .u32 0), (.int .u32 0), (.int .u32 0), (.int .u32 0), (.int .u32 0), (.int .u32 0), (.int .u32 0), (.int .u32 0), (.int .u32 0), (.int .u32 0), (.int .u32 0), (.int .u32 0), (.int .u32 0), (.int .u32 0), (.int .u32 0), (.int .u32 0), (.int .u32 0), (.int .u32 0), (.int .u32 0), (.int .u32 0), (.int .u32 0), (.int .u32 0), (.int .u32 0), (.int .u32 0), (.int .u32 0), (.int .u32 0), (.int .u32 0), (.int .u32 0), (.int .u32 0), (.int .u32 0), (.int .u32 0), (.int .u32 0), (.int .u32 0), (.int .u32 0), (.int .u32 0), (.int .u32 0), (.int .u32 0), (.int .u32 0), (.int .u32 0), (.int .u32 0)], none⟩,
    ⟨none, .store (.ag 64) (.t 5) (.t 20), none⟩])
  (.seq (.reg [⟨(some 21), .idxPa 1 8 (.t 2) (.k (.c (.d (.int .i64 0)))), none⟩,
    ⟨(some 22), .load .sc (.t 21), none⟩,
    ⟨(some 23), .idxPa 1 8 (.t 2) (.k (.c (.d (.int .i64 1)))), none⟩,
    ⟨(some 24), .load .sc (.t 23), none⟩,
    ⟨(some 25), .idxPa 1 8 (.t 2) (.k (.c (.d (.int .i64 2)))), none⟩,
    ⟨(some 26), .load .sc (.t 25), none⟩,
    ⟨(some 27), .idxPa 1 8 (.t 2) (.k (.c (.d (.int .i64 3)))), none⟩,
    ⟨(some 28), .load .sc (.t 27), none⟩,
    ⟨(some 29), .idxPa 1 8 (.t 2) (.k (.c (.d (.int .i64 4)))), none⟩,
    ⟨(some 30), .load .sc (.t 29), none⟩,
    ⟨(some 31), .idxPa 1 8 (.t 2) (.k (.c (.d (.int .i64 5)))), none⟩,
    ⟨(some 32), .load .sc (.t 31), none⟩,
    ⟨(some 33), .idxPa 1 8 (.t 2) (.k (.c (.d (.int .i64 6)))), none⟩,
    ⟨(some 34), .load .sc (.t 33), none⟩,
    ⟨(some 35), .idxPa 1 8 (.t 2) (.k (.c (.d (.int .i64 7)))), none⟩,
    ⟨(some 36), .load .sc (.t 35), none⟩,
    ⟨(some 6), .mv (.t 22), none⟩,
    ⟨(some 7), .mv (.t 24), none⟩,
    ⟨(some 8), .mv (.t 26), none⟩,
    ⟨(some 9), .mv (.t 28), none⟩,
    ⟨(some 10), .mv (.t 30), none⟩,
    ⟨(some 11), .mv (.t 32), none⟩,
    ⟨(some 12), .mv (.t 34), none⟩,
    ⟨(some 13), .mv (.t 36), none⟩])
  (.seq (.seq (.reg [⟨(some 37), .mv (.k (.c (.d (.int .i64 0)))), none⟩])
  (.block 0 (.loop lp_block_0)))
  (.seq (.seq (.reg [⟨(some 100), .mv (.t 6), none⟩,
    ⟨(some 101), .mv (.t 7), none⟩,
    ⟨(some 102), .mv (.t 8), none⟩,
    ⟨(some 103), .mv (.t 9), none⟩,
    ⟨(some 104), .mv (.t 10), none⟩,
    ⟨(some 105), .mv (.t 11), none⟩,
    ⟨(some 106), .mv (.t 12), none⟩,
    ⟨(some 107), .mv (.t 13), none⟩,
    ⟨(some 108), .build [(.d (.int .u32 0)), (.d (.int .u32 0)), (.d (.int .u32 0)), (.d (.int .u32 0)), (.d (.int .u32 0)), (.d (.int .u32 0)), (.d (.int .u32 0)), (.d (.int .u32 0))] [(0, 1, (.t 100)), (1, 1, (.t 101)), (2, 1, (.t 102)), (3, 1, (.t 103)), (4, 1, (.t 104)), (5, 1, (.t 105)), (6, 1, (.t 106)), (7, 1, (.t 107))], none⟩,
    ⟨(some 109), .mv (.k (.c (.d (.int .i64 0)))), none⟩])
  (.block 2 (.loop lp_block_1)))
  (.seq (.reg [⟨(some 120), .load (.ag 8) (.t 2), none⟩,
    ⟨none, .store (.ag 8) (.t 4) (.t 120), none⟩])
  (.ret)))))),
  [(4, (some (.ag 8)))]⟩
theorem cf_block : compFn Tryd.prog { own := [2], comp := [], frz := [], nils := [] } Tryd.f48 = some sf_block := by kernel_rfl
set_option maxHeartbeats 1600000 in
theorem block_c (G : Glob) (hG : G.at 1 = some (.ra (constK.map wD))) (h : List UInt32) (b : List UInt8) (hh : h.length = 8) (hb : b.length = 64) : Den Tryd.prog G 48 [.agg (h.map wD), .sl (b.map bD)] (.w (.c (.d (.agg ((blockK h b).map wD))))) := by
  refine den_walk Tryd.func48 cf_block rfl rfl ?_
  have hsl : (sched b).length = 64 := schedN_len b 48
  have eg := @ev_g G 1 _ hG
  have hcl : constK.length = 64 := constK_len
  obtain ⟨h0, h1, h2, h3, h4, h5, h6, h7, rfl⟩ := eight hh
  simp only [sf_block, putAll, wx, stV, seval, IntWalk.iteOmega, IntWalk.toNatUp, reduceCtorEq]
  refine st_call (spread_c G b hb) rfl (.inl rfl) ?_
  simp only [wx, stV, seval, IntWalk.iteOmega, IntWalk.toNatUp, reduceCtorEq, hsl]
  refine loop_st (blR1 [h0, h1, h2, h3, h4, h5, h6, h7] b) (fun n => 64 - n) (fun n => n ≤ 64) 0 (Nat.zero_le _) ?_ ?_
  · refine ent_l (fun i => match i with | 1 => 16 | 2 => 32 | _ => 40) ?_ ?_ rfl rfl <;> simp only [blR1, blSt1, wx, wex, stV, seval, IntWalk.iteOmega, IntWalk.toNatUp, reduceCtorEq]
    · exact ⟨rfl, rfl, rfl, rfl, rfl, rfl, rfl, rfl⟩
    · rfl
  · intro n hn
    by_cases hlt : n < 64
    · have e1 : IntKind.i64.wrap ((n : Int) + 1) = ((n + 1 : Nat) : Int) := by rw [IntWalk.i64_in _ (by omega)]; rfl
      have g1 : (constK.map wD)[n]? = some (wD (constK.getD n 0)) := by rw [get_map, getD_some (by omega)]; rfl
      have g2 : ((sched b).map wD)[n]? = some (wD ((sched b).getD n 0)) := by rw [get_map, getD_some (by omega)]; rfl
      have hr : (Eight.of [h0, h1, h2, h3, h4, h5, h6, h7]).rounds constK (sched b) (n + 1) = ((Eight.of [h0, h1, h2, h3, h4, h5, h6, h7]).rounds constK (sched b) n).step (constK.getD n 0) ((sched b).getD n 0) := rfl
      generalize hs : (Eight.of [h0, h1, h2, h3, h4, h5, h6, h7]).rounds constK (sched b) n = s at hr
      simp only [lp_block_0, blR1, blSt1, hs, wx, stV, seval, IntWalk.iteOmega, IntWalk.toNatUp, reduceCtorEq, eg, g1, g2, e1]
      refine st_call (turn_c G _ 6 (by decide) (by decide)) rfl (.inr rfl) ?_
      simp only [wx, stV, seval, IntWalk.iteOmega, IntWalk.toNatUp, reduceCtorEq]
      refine st_call (turn_c G _ 11 (by decide) (by decide)) rfl (.inr rfl) ?_
      simp only [wx, stV, seval, IntWalk.iteOmega, IntWalk.toNatUp, reduceCtorEq]
      refine st_call (turn_c G _ 25 (by decide) (by decide)) rfl (.inr rfl) ?_
      simp only [wx, stV, seval, IntWalk.iteOmega, IntWalk.toNatUp, reduceCtorEq, eg, g1, g2, hcl]
      refine st_call (turn_c G _ 2 (by decide) (by decide)) rfl (.inr rfl) ?_
      simp only [wx, stV, seval, IntWalk.iteOmega, IntWalk.toNatUp, reduceCtorEq]
      refine st_call (turn_c G _ 13 (by decide) (by decide)) rfl (.inr rfl) ?_
      simp only [wx, stV, seval, IntWalk.iteOmega, IntWalk.toNatUp, reduceCtorEq]
      refine st_call (turn_c G _ 22 (by decide) (by decide)) rfl (.inr rfl) ?_
      simp only [wx, stV, seval, IntWalk.iteOmega, IntWalk.toNatUp, reduceCtorEq, e1]
      refine lop_next (n + 1) (by omega) (by omega) ?_
      rw [blR1, hr]
      refine (ent_l id ?_ ?_ rfl rfl) <;> simp only [wx, wex, stV, seval, IntWalk.iteOmega, IntWalk.toNatUp, reduceCtorEq, step_a, step_b, step_c, step_d, step_e, step_f, step_g, step_h]
      exact ⟨rfl, rfl⟩
    · obtain rfl : n = 64 := by omega
      have hK : blockK [h0, h1, h2, h3, h4, h5, h6, h7] b = ((Eight.of [h0, h1, h2, h3, h4, h5, h6, h7]).rounds constK (sched b) 64).sum [h0, h1, h2, h3, h4, h5, h6, h7] := rfl
      rw [hK]
      simp only [blR1]
      generalize (Eight.of [h0, h1, h2, h3, h4, h5, h6, h7]).rounds constK (sched b) 64 = s
      simp only [lp_block_0, blSt1, wx, stV, seval, IntWalk.iteOmega, IntWalk.toNatUp, reduceCtorEq]
      refine loop_st (blSt2 [h0, h1, h2, h3, h4, h5, h6, h7] s) (fun n => 8 - n) (fun n => n ≤ 8) 0 (Nat.zero_le _) ?_ ?_
      · refine ent_l id ?_ ?_ rfl rfl <;> simp only [wx, wex, stV, seval, IntWalk.iteOmega, IntWalk.toNatUp, reduceCtorEq, blSt2]
        · rfl
        · rfl
      · have e8 : s.sum [h0, h1, h2, h3, h4, h5, h6, h7] = [addW h0 s.a, addW h1 s.b, addW h2 s.c, addW h3 s.d, addW h4 s.e, addW h5 s.f, addW h6 s.g, addW h7 s.h] := rfl
        intro n hn
        have hc : n = 8 ∨ n = 0 ∨ n = 1 ∨ n = 2 ∨ n = 3 ∨ n = 4 ∨ n = 5 ∨ n = 6 ∨ n = 7 := by omega
        rcases hc with rfl | rfl | rfl | rfl | rfl | rfl | rfl | rfl | rfl
        · simp only [lp_block_1, blSt2, sumTo, e8, Eight.list, wx, stV, seval, IntWalk.iteOmega, IntWalk.toNatUp, reduceCtorEq]
          exact ret_d (by simp only [wx, stV, seval, IntWalk.iteOmega, IntWalk.toNatUp, reduceCtorEq])
        all_goals
          simp only [lp_block_1, blSt2, sumTo, e8, Eight.list, wx, wy, stV, seval, IntWalk.iteOmega, IntWalk.toNatUp, reduceCtorEq]
          first | refine lop_next 1 (by decide) (by decide) ?_ | refine lop_next 2 (by decide) (by decide) ?_ | refine lop_next 3 (by decide) (by decide) ?_ | refine lop_next 4 (by decide) (by decide) ?_ | refine lop_next 5 (by decide) (by decide) ?_ | refine lop_next 6 (by decide) (by decide) ?_ | refine lop_next 7 (by decide) (by decide) ?_ | refine lop_next 8 (by decide) (by decide) ?_
          refine ent_l id ?_ ?_ rfl rfl <;> simp only [wx, wex, stV, seval, IntWalk.iteOmega, IntWalk.toNatUp, reduceCtorEq, sumTo, e8, Eight.list] <;> rfl

theorem getD_someB {l : List UInt8} {i : Nat} (h : i < l.length) : l[i]? = some (l.getD i 0) := by simp [h]
def rbSt1 (h k : List UInt32) (b : List UInt8) (t : Nat) : St := ⟨ofL [(0, .w (.c (.d (.sl (h.map wD))))), (1, .w (.c (.d (.sl (k.map wD))))), (2, .w (.c (.d (.sl (b.map bD))))), (7, .w (.c (.pa 1 1))), (8, .w (.c (.d (.int .i64 (t : Int)))))],
  hL [(1, .row 1 ((sched16 b t ++ List.replicate (64 - t) 0).map wD))], uL [1]⟩
def rbSt2 (h k : List UInt32) (b : List UInt8) (n : Nat) : St := ⟨ofL [(0, .w (.c (.d (.sl (h.map wD))))), (1, .w (.c (.d (.sl (k.map wD))))), (7, .w (.c (.pa 1 1))), (9, .w (.c (.d (.int .i64 ((16 + n : Nat) : Int)))))],
  hL [(1, .row 1 ((schedN b n ++ List.replicate (48 - n) 0).map wD))], uL [1]⟩
def rbSt3 (h : List UInt32) (b : List UInt8) (s : Eight) (n : Nat) : St := ⟨ofL [(0, .w (.c (.d (.sl (h.map wD))))), (1, .w (.c (.d (.sl (constK.map wD))))), (7, .w (.c (.pa 1 1))), (12, .w (.c (.d (wD s.a)))), (13, .w (.c (.d (wD s.b)))), (14, .w (.c (.d (wD s.c)))), (15, .w (.c (.d (wD s.d)))), (16, .w (.c (.d (wD s.e)))), (17, .w (.c (.d (wD s.f)))), (18, .w (.c (.d (wD s.g)))), (19, .w (.c (.d (wD s.h)))), (20, .w (.c (.d (.int .i64 (n : Int)))))],
  hL [(1, .row 1 ((sched b).map wD))], uL [1]⟩
def rbR3 (h : List UInt32) (b : List UInt8) (n : Nat) : St := rbSt3 h b ((Eight.of h).rounds constK (sched b) n) n
def lp_rblock_0 : SCode :=
  .seq (.seq (.reg [⟨(some 23), .mv (.t 8), none⟩,
    ⟨(some 24), .bin .lss (.t 23) (.k (.c (.d (.int .i64 16)))), none⟩])
  (.cond (.t 24) (.skip)
   (.exit 0)))
  (.seq (.block 1 (.reg [⟨(some 27), .mv (.t 8), none⟩,
     ⟨(some 28), .mv (.t 2), none⟩,
     ⟨(some 29), .mv (.t 8), none⟩,
     ⟨(some 30), .bin .mul (.k (.c (.d (.int .i64 4)))) (.t 29), none⟩,
     ⟨(some 31), .idxSl 1 (.t 28) (.t 30), none⟩,
     ⟨(some 32), .load .sc (.t 31), none⟩,
     ⟨(some 33), .conv .u32 (.t 32), none⟩,
     ⟨(some 34), .bin .shl (.t 33) (.k (.c (.d (.int .u64 24)))), none⟩,
     ⟨(some 35), .mv (.t 2), none⟩,
     ⟨(some 36), .mv (.t 8), none⟩,
     ⟨(some 37), .bin .mul (.k (.c (.d (.int .i64 4)))) (.t 36), none⟩,
     ⟨(some 38), .bin .add (.t 37) (.k (.c (.d (.int .i64 1)))), none⟩,
     ⟨(some 39), .idxSl 1 (.t 35) (.t 38), none⟩,
     ⟨(some 40), .load .sc (.t 39), none⟩,
     ⟨(some 41), .conv .u32 (.t 40), none⟩,
     ⟨(some 42), .bin .shl (.t 41) (.k (.c (.d (.int .u64 16)))), none⟩,
     ⟨(some 43), .bin .or (.t 34) (.t 42), none⟩,
     ⟨(some 44), .mv (.t 2), none⟩,
     ⟨(some 45), .mv (.t 8), none⟩,
     ⟨(some 46), .bin .mul (.k (.c (.d (.int .i64 4)))) (.t 45), none⟩,
     ⟨(some 47), .bin .add (.t 46) (.k (.c (.d (.int .i64 2)))), none⟩,
     ⟨(some 48), .idxSl 1 (.t 44) (.t 47), none⟩,
     ⟨(some 49), .load .sc (.t 48), none⟩,
     ⟨(some 50), .conv .u32 (.t 49), none⟩,
     ⟨(some 51), .bin .shl (.t 50) (.k (.c (.d (.int .u64 8)))), none⟩,
     ⟨(some 52), .bin .or (.t 43) (.t 51), none⟩,
     ⟨(some 53), .mv (.t 2), none⟩,
     ⟨(some 54), .mv (.t 8), none⟩,
     ⟨(some 55), .bin .mul (.k (.c (.d (.int .i64 4)))) (.t 54), none⟩,
     ⟨(some 56), .bin .add (.t 55) (.k (.c (.d (.int .i64 3)))), none⟩,
     ⟨(some 57), .idxSl 1 (.t 53) (.t 56), none⟩,
     ⟨(some 58), .load .sc (.t 57), none⟩,
     ⟨(some 59), .conv .u32 (.t 58), none⟩,
     ⟨(some 60), .bin .or (.t 52) (.t 59), none⟩,
     ⟨(some 61), .idxPa 1 64 (.t 7) (.t 27), none⟩,
     ⟨none, .store .sc (.t 61) (.t 60), none⟩]))
  (.reg [⟨(some 25), .mv (.t 8), none⟩,
    ⟨(some 26), .bin .add (.t 25) (.k (.c (.d (.int .i64 1)))), none⟩,
    ⟨(some 8), .mv (.t 26), none⟩]))
def lp_rblock_1 : SCode :=
  .seq (.seq (.reg [⟨(some 62), .mv (.t 9), none⟩,
    ⟨(some 63), .bin .lss (.t 62) (.k (.c (.d (.int .i64 64)))), none⟩])
  (.cond (.t 63) (.skip)
   (.exit 2)))
  (.seq (.block 3 (.seq (.reg [⟨(some 66), .mv (.t 9), none⟩,
     ⟨(some 67), .bin .sub (.t 66) (.k (.c (.d (.int .i64 15)))), none⟩,
     ⟨(some 68), .idxPa 1 64 (.t 7) (.t 67), none⟩,
     ⟨(some 69), .load .sc (.t 68), none⟩,
     ⟨(some 70), .mv (.t 9), none⟩,
     ⟨(some 71), .bin .sub (.t 70) (.k (.c (.d (.int .i64 2)))), none⟩,
     ⟨(some 72), .idxPa 1 64 (.t 7) (.t 71), none⟩,
     ⟨(some 73), .load .sc (.t 72), none⟩,
     ⟨(some 10), .mv (.t 69), none⟩,
     ⟨(some 11), .mv (.t 73), none⟩])
   (.reg [⟨(some 74), .mv (.t 9), none⟩,
     ⟨(some 75), .mv (.t 11), none⟩,
     ⟨(some 76), .call 47 [(.t 75), (.k (.c (.d (.int .i64 17))))] none, none⟩,
     ⟨(some 77), .mv (.t 11), none⟩,
     ⟨(some 78), .call 47 [(.t 77), (.k (.c (.d (.int .i64 19))))] none, none⟩,
     ⟨(some 79), .bin .xor (.t 76) (.t 78), none⟩,
     ⟨(some 80), .mv (.t 11), none⟩,
     ⟨(some 81), .bin .shr (.t 80) (.k (.c (.d (.int .u64 10)))), none⟩,
     ⟨(some 82), .bin .xor (.t 79) (.t 81), none⟩,
     ⟨(some 83), .mv (.t 9), none⟩,
     ⟨(some 84), .bin .sub (.t 83) (.k (.c (.d (.int .i64 7)))), none⟩,
     ⟨(some 85), .idxPa 1 64 (.t 7) (.t 84), none⟩,
     ⟨(some 86), .load .sc (.t 85), none⟩,
     ⟨(some 87), .bin .add (.t 82) (.t 86), none⟩,
     ⟨(some 88), .mv (.t 10), none⟩,
     ⟨(some 89), .call 47 [(.t 88), (.k (.c (.d (.int .i64 7))))] none, none⟩,
     ⟨(some 90), .mv (.t 10), none⟩,
     ⟨(some 91), .call 47 [(.t 90), (.k (.c (.d (.int .i64 18))))] none, none⟩,
     ⟨(some 92), .bin .xor (.t 89) (.t 91), none⟩,
     ⟨(some 93), .mv (.t 10), none⟩,
     ⟨(some 94), .bin .shr (.t 93) (.k (.c (.d (.int .u64 3)))), none⟩,
     ⟨(some 95), .bin .xor (.t 92) (.t 94), none⟩,
     ⟨(some 96), .bin .add (.t 87) (.t 95), none⟩,
     ⟨(some 97), .mv (.t 9), none⟩,
     ⟨(some 98), .bin .sub (.t 97) (.k (.c (.d (.int .i64 16)))), none⟩,
     ⟨(some 99), .idxPa 1 64 (.t 7) (.t 98), none⟩,
     ⟨(some 100), .load .sc (.t 99), none⟩,
     ⟨(some 101), .bin .add (.t 96) (.t 100), none⟩,
     ⟨(some 102), .idxPa 1 64 (.t 7) (.t 74), none⟩,
     ⟨none, .store .sc (.t 102) (.t 101), none⟩])))
  (.reg [⟨(some 64), .mv (.t 9), none⟩,
    ⟨(some 65), .bin .add (.t 64) (.k (.c (.d (.int .i64 1)))), none⟩,
    ⟨(some 9), .mv (.t 65), none⟩]))
def lp_rblock_2 : SCode :=
  .seq (.seq (.reg [⟨(some 127), .mv (.t 20), none⟩,
    ⟨(some 128), .bin .lss (.t 127) (.k (.c (.d (.int .i64 64)))), none⟩])
  (.cond (.t 128) (.skip)
   (.exit 4)))
  (.seq (.block 5 (.seq (.reg [⟨(some 131), .mv (.t 19), none⟩,
     ⟨(some 132), .mv (.t 16), none⟩,
     ⟨(some 133), .call 47 [(.t 132), (.k (.c (.d (.int .i64 6))))] none, none⟩,
     ⟨(some 134), .mv (.t 16), none⟩,
     ⟨(some 135), .call 47 [(.t 134), (.k (.c (.d (.int .i64 11))))] none, none⟩,
     ⟨(some 136), .bin .xor (.t 133) (.t 135), none⟩,
     ⟨(some 137), .mv (.t 16), none⟩,
     ⟨(some 138), .call 47 [(.t 137), (.k (.c (.d (.int .i64 25))))] none, none⟩,
     ⟨(some 139), .bin .xor (.t 136) (.t 138), none⟩,
     ⟨(some 140), .bin .add (.t 131) (.t 139), none⟩,
     ⟨(some 141), .mv (.t 16), none⟩,
     ⟨(some 142), .mv (.t 17), none⟩,
     ⟨(some 143), .bin .and (.t 141) (.t 142), none⟩,
     ⟨(some 144), .mv (.t 16), none⟩,
     ⟨(some 145), .un .xor (.t 144), none⟩,
     ⟨(some 146), .mv (.t 18), none⟩,
     ⟨(some 147), .bin .and (.t 145) (.t 146), none⟩,
     ⟨(some 148), .bin .xor (.t 143) (.t 147), none⟩,
     ⟨(some 149), .bin .add (.t 140) (.t 148), none⟩,
     ⟨(some 150), .mv (.t 1), none⟩,
     ⟨(some 151), .mv (.t 20), none⟩,
     ⟨(some 152), .idxSl 1 (.t 150) (.t 151), none⟩,
     ⟨(some 153), .load .sc (.t 152), none⟩,
     ⟨(some 154), .bin .add (.t 149) (.t 153), none⟩,
     ⟨(some 155), .mv (.t 20), none⟩,
     ⟨(some 156), .idxPa 1 64 (.t 7) (.t 155), none⟩,
     ⟨(some 157), .load .sc (.t 156), none⟩,
     ⟨(some 158), .bin .add (.t 154) (.t 157), none⟩,
     ⟨(some 21), .mv (.t 158), none⟩])
   (.seq (.reg [⟨(some 159), .mv (.t 12), none⟩,
     ⟨(some 160), .call 47 [(.t 159), (.k (.c (.d (.int .i64 2))))] none, none⟩,
     ⟨(some 161), .mv (.t 12), none⟩,
     ⟨(some 162), .call 47 [(.t 161), (.k (.c (.d (.int .i64 13))))] none, none⟩,
     ⟨(some 163), .bin .xor (.t 160) (.t 162), none⟩,
     ⟨(some 164), .mv (.t 12), none⟩,
     ⟨(some 165), .call 47 [(.t 164), (.k (.c (.d (.int .i64 22))))] none, none⟩,
     ⟨(some 166), .bin .xor (.t 163) (.t 165), none⟩,
     ⟨(some 167), .mv (.t 12), none⟩,
     ⟨(some 168), .mv (.t 13), none⟩,
     ⟨(some 169), .bin .and (.t 167) (.t 168), none⟩,
     ⟨(some 170), .mv (.t 12), none⟩,
     ⟨(some 171), .mv (.t 14), none⟩,
     ⟨(some 172), .bin .and (.t 170) (.t 171), none⟩,
     ⟨(some 173), .bin .xor (.t 169) (.t 172), none⟩,
     ⟨(some 174), .mv (.t 13), none⟩,
     ⟨(some 175), .mv (.t 14), none⟩,
     ⟨(some 176), .bin .and (.t 174) (.t 175), none⟩,
     ⟨(some 177), .bin .xor (.t 173) (.t 176), none⟩,
     ⟨(some 178), .bin .add (.t 166) (.t 177), none⟩,
     ⟨(some 22), .mv (.t 178), none⟩])
   (.reg [⟨(some 179), .mv (.t 21), none⟩,
     ⟨(some 180), .mv (.t 22), none⟩,
     ⟨(some 181), .bin .add (.t 179) (.t 180), none⟩,
     ⟨(some 182), .mv (.t 12), none⟩,
     ⟨(some 183), .mv (.t 13), none⟩,
     ⟨(some 184), .mv (.t 14), none⟩,
     ⟨(some 185), .mv (.t 15), none⟩,
     ⟨(some 186), .mv (.t 21), none⟩,
     ⟨(some 187), .bin .add (.t 185) (.t 186), none⟩,
     ⟨(some 188), .mv (.t 16), none⟩,
     ⟨(some 189), .mv (.t 17), none⟩,
     ⟨(some 190), .mv (.t 18), none⟩,
     ⟨(some 12), .mv (.t 181), none⟩,
     ⟨(some 13), .mv (.t 182), none⟩,
     ⟨(some 14), .mv (.t 183), none⟩,
     ⟨(some 15), .mv (.t 184), none⟩,
     ⟨(some 16), .mv (.t 187), none⟩,
     ⟨(some 17), .mv (.t 188), none⟩,
     ⟨(some 18), .mv (.t 189), none⟩,
     ⟨(some 19), .mv (.t 190), none⟩]))))
  (.reg [⟨(some 129), .mv (.t 20), none⟩,
    ⟨(some 130), .bin .add (.t 129) (.k (.c (.d (.int .i64 1)))), none⟩,
    ⟨(some 20), .mv (.t 130), none⟩]))
def sf_rblock : SFn := ⟨3, 232,
  .seq (.reg [⟨(some 6), .mv (.k (.c .nil)), none⟩])
  (.seq (.reg [⟨(some 7), .allocArr [(.int .u32 0), (.int .u32 0), (.int .u32 0), (.int .u32 0), (.int .u32 0), (.int .u32 0), (.int .u32 0), (.int .u32 0), (.int .u32 0), (.int .u32 0), (.int .u32 0), (.int .u32 0), (.int .u32 0), (.int .u32 0), (.int .u32 0), (.int .u32 0), (.int .u32 0), (.int .u32 0), (.int .u32 0), (.int .u32 0), (.int .u32 0), (.int .u32 0), (.int .u32 0), (.int .u32 0), (.int .u32 0), (.int .u32 0), (.int .u32 0), (.int .u32 0), (.int .u32 0), (.int .u32 0), (.int .u32 0), (.int .u32 0), (.int .u32 0), (.int .u32 0), (.int .u32 0), (.int .u32 0), (.int .u32 0), (.int .u32 0), (.int .u32 0), (.int .u32 0), (.int .u32 0), (.int .u32 0), (.int .u32 0), (.int .u32 0), (.int .u32 0), (.int .u32 0), (.int .u32 0), (.int .u32 0), (.int .u32 0), (.int .u32 0), (.int .u32 0), (.int .u32 0), (.int .u32 0), (.int .u32 0), (.int .u32 0), (.int .u32 0), (.int .u32 0), (.int .u32 0), (.int .u32 0), (.int .u32 0), (.int .u32 0), (.int .u32 0), (.int .u32 0), (.int .u32 0)], none⟩])
  (.seq (.seq (.reg [⟨(some 8), .mv (.k (.c (.d (.int .i64 0)))), none⟩])
  (.block 0 (.loop lp_rblock_0)))
  (.seq (.seq (.reg [⟨(some 9), .mv (.k (.c (.d (.int .i64 16)))), none⟩])
  (.block 2 (.loop lp_rblock_1)))
  (.seq (.reg [⟨(some 103), .mv (.t 0), none⟩,
    ⟨(some 104), .idxSl 1 (.t 103) (.k (.c (.d (.int .i64 0)))), none⟩,
    ⟨(some 105), .load .sc (.t 104), none⟩,
    ⟨(some 106), .mv (.t 0), none⟩,
    ⟨(some 107), .idxSl 1 (.t 106) (.k (.c (.d (.int .i64 1)))), none⟩,
    ⟨(some 108), .load .sc (.t 107), none⟩,
    ⟨(some 109), .mv (.t 0), none⟩,
    ⟨(some 110), .idxSl 1 (.t 109) (.k (.c (.d (.int .i64 2)))), none⟩,
    ⟨(some 111), .load .sc (.t 110), none⟩,
    ⟨(some 112), .mv (.t 0), none⟩,
    ⟨(some 113), .idxSl 1 (.t 112) (.k (.c (.d (.int .i64 3)))), none⟩,
    ⟨(some 114), .load .sc (.t 113), none⟩,
    ⟨(some 115), .mv (.t 0), none⟩,
    ⟨(some 116), .idxSl 1 (.t 115) (.k (.c (.d (.int .i64 4)))), none⟩,
    ⟨(some 117), .load .sc (.t 116), none⟩,
    ⟨(some 118), .mv (.t 0), none⟩,
    ⟨(some 119), .idxSl 1 (.t 118) (.k (.c (.d (.int .i64 5)))), none⟩,
    ⟨(some 120), .load .sc (.t 119), none⟩,
    ⟨(some 121), .mv (.t 0), none⟩,
    ⟨(some 122), .idxSl 1 (.t 121) (.k (.c (.d (.int .i64 6)))), none⟩,
    ⟨(some 123), .load .sc (.t 122), none⟩,
    ⟨(some 124), .mv (.t 0), none⟩,
    ⟨(some 125), .idxSl 1 (.t 124) (.k (.c (.d (.int .i64 7)))), none⟩,
    ⟨(some 126), .load .sc (.t 125), none⟩,
    ⟨(some 12), .mv (.t 105), none⟩,
    ⟨(some 13), .mv (.t 108), none⟩,
    ⟨(some 14), .mv (.t 111), none⟩,
    ⟨(some 15), .mv (.t 114), none⟩,
    ⟨(some 16), .mv (.t 117), none⟩,
    ⟨(some 17), .mv (.t 120), none⟩,
    ⟨(some 18), .mv (.t 123), none⟩,
    ⟨(some 19), .mv (.t 126), none⟩])
  (.seq (.seq (.reg [⟨(some 20), .mv (.k (.c (.d (.int .i64 0)))), none⟩])
  (.block 4 (.loop lp_rblock_2)))
  (.seq (.reg [⟨(some 191), .mv (.t 0), none⟩,
    ⟨(some 192), .idxSl 1 (.t 191) (.k (.c (.d (.int .i64 0)))), none⟩,
    ⟨(some 193), .load .sc (.t 192), none⟩,
    ⟨(some 194), .mv (.t 12), none⟩,
    ⟨(some 195), .bin .add (.t 193) (.t 194), none⟩,
    ⟨(some 196), .mv (.t 0), none⟩,
    ⟨(some 197), .idxSl 1 (.t 196) (.k (.c (.d (.int .i64 1)))), none⟩,
    ⟨(some 198), .load .sc (.t 197), none⟩,
    ⟨(some 199), .mv (.t 13), none⟩,
    ⟨(some 200), .bin .add (.t 198) (.t 199), none⟩,
    ⟨(some 201), .mv (.t 0), none⟩,
    ⟨(some 202), .idxSl 1 (.t 201) (.k (.c (.d (.int .i64 2)))), none⟩,
    ⟨(some 203), .load .sc (.t 202), none⟩,
    ⟨(some 204), .mv (.t 14), none⟩,
    ⟨(some 205), .bin .add (.t 203) (.t 204), none⟩,
    ⟨(some 206), .mv (.t 0), none⟩,
    ⟨(some 207), .idxSl 1 (.t 206) (.k (.c (.d (.int .i64 3)))), none⟩,
    ⟨(some 208), .load .sc (.t 207), none⟩,
    ⟨(some 209), .mv (.t 15), none⟩,
    ⟨(some 210), .bin .add (.t 208) (.t 209), none⟩,
    ⟨(some 211), .mv (.t 0), none⟩,
    ⟨(some 212), .idxSl 1 (.t 211) (.k (.c (.d (.int .i64 4)))), none⟩,
    ⟨(some 213), .load .sc (.t 212), none⟩,
    ⟨(some 214), .mv (.t 16), none⟩,
    ⟨(some 215), .bin .add (.t 213) (.t 214), none⟩,
    ⟨(some 216), .mv (.t 0), none⟩,
    ⟨(some 217), .idxSl 1 (.t 216) (.k (.c (.d (.int .i64 5)))), none⟩,
    ⟨(some 218), .load .sc (.t 217), none⟩,
    ⟨(some 219), .mv (.t 17), none⟩,
    ⟨(some 220), .bin .add (.t 218) (.t 219), none⟩,
    ⟨(some 221), .mv (.t 0), none⟩,
    ⟨(some 222), .idxSl 1 (.t 221) (.k (.c (.d (.int .i64 6)))), none⟩,
    ⟨(some 223), .load .sc (.t 222), none⟩,
    ⟨(some 224), .mv (.t 18), none⟩,
    ⟨(some 225), .bin .add (.t 223) (.t 224), none⟩,
    ⟨(some 226), .mv (.t 0), none⟩,
    ⟨(some 227), .idxSl 1 (.t 226) (.k (.c (.d (.int .i64 7)))), none⟩,
    ⟨(some 228), .load .sc (.t 227), none⟩,
    ⟨(some 229), .mv (.t 19), none⟩,
    ⟨(some 230), .bin .add (.t 228) (.t 229), none⟩,
    ⟨(some 231), .bldSl true 8 1 (.int .u32 0) [(0, (.t 195)), (1, (.t 200)), (2, (.t 205)), (3, (.t 210)), (4, (.t 215)), (5, (.t 220)), (6, (.t 225)), (7, (.t 230))], none⟩,
    ⟨(some 6), .mv (.t 231), none⟩])
  (.ret))))))),
  [(6, none)]⟩
theorem cf_rblock : compFn Tryd.prog { own := [231], comp := [], frz := [], nils := [] } Tryd.f43 = some sf_rblock := by kernel_rfl
set_option maxHeartbeats 1600000 in
theorem rblock_c (G : Glob) (h : List UInt32) (b : List UInt8) (hh : h.length = 8) (hb : b.length = 64) : Den Tryd.prog G 43 [.sl (h.map wD), .sl (constK.map wD), .sl (b.map bD)] (.w (.c (.fr 1 ((blockK h b).map wD)))) := by
  refine den_walk Tryd.func43 cf_rblock rfl rfl ?_
  have hsl : (sched b).length = 64 := schedN_len b 48
  have hcl : constK.length = 64 := constK_len
  simp only [sf_rblock, putAll, wx, stV, seval, IntWalk.iteOmega, IntWalk.toNatUp, reduceCtorEq]
  refine loop_st (rbSt1 h constK b) (fun t => 16 - t) (fun t => t ≤ 16) 0 (Nat.zero_le _) ?_ ?_
  · refine ent_l (fun _ => 56) ?_ ?_ rfl rfl <;> simp only [wx, wex, stV, seval, IntWalk.iteOmega, IntWalk.toNatUp, reduceCtorEq]
    rfl
  · intro t ht
    by_cases hlt : t < 16
    · have e0 : IntKind.i64.wrap (4 * (t : Int)) = ((4 * t : Nat) : Int) := by rw [IntWalk.i64_in _ (by omega)]; omega
      have e1 : IntKind.i64.wrap (((4 * t : Nat) : Int) + 1) = ((4 * t + 1 : Nat) : Int) := by rw [IntWalk.i64_in _ (by omega)]; omega
      have e2 : IntKind.i64.wrap (((4 * t : Nat) : Int) + 2) = ((4 * t + 2 : Nat) : Int) := by rw [IntWalk.i64_in _ (by omega)]; omega
      have e3 : IntKind.i64.wrap (((4 * t : Nat) : Int) + 3) = ((4 * t + 3 : Nat) : Int) := by rw [IntWalk.i64_in _ (by omega)]; omega
      have e4 : IntKind.i64.wrap ((t : Int) + 1) = ((t + 1 : Nat) : Int) := by rw [IntWalk.i64_in _ (by omega)]; omega
      have g : ∀ k, k < 64 → (b.map bD)[k]? = some (bD (b.getD k 0)) := fun k hk => by rw [get_map, getD_someB (by omega)]; rfl
      have g0 := g (4 * t) (by omega)
      have g1 := g (4 * t + 1) (by omega)
      have g2 := g (4 * t + 2) (by omega)
      have g3 := g (4 * t + 3) (by omega)
      have h1 : t < (sched16 b t ++ List.replicate (64 - t) 0).length := by rw [List.length_append, sched16_len, List.length_replicate]; omega
      have h2 := set_next (sched16 b t) 0 (wordAt b t) (64 - t) (by omega)
      rw [sched16_len] at h2
      have h3 : sched16 b t ++ [wordAt b t] = sched16 b (t + 1) := by simp [sched16, List.range_succ]
      have h4 : 64 - t - 1 = 64 - (t + 1) := by omega
      rw [h3, h4] at h2
      simp only [wordAt] at h2
      have m24 : min (24 : Int).toNat 32 = 24 := by decide
      have m16 : min (16 : Int).toNat 32 = 16 := by decide
      have m8 : min (8 : Int).toNat 32 = 8 := by decide
      simp only [lp_rblock_0, rbSt1, wx, stV, seval, IntWalk.iteOmega, IntWalk.toNatUp, reduceCtorEq, e0, e1, e2, e3, e4, g0, g1, g2, g3, Nat.zero_add, stO_ws h1 (one_w _), set_ws, h2]
      refine lop_next (t + 1) (by omega) (by omega) (ent_l id ?_ ?_ rfl rfl) <;> simp only [wx, wex, stV, seval, IntWalk.iteOmega, IntWalk.toNatUp, reduceCtorEq]
    · obtain rfl : t = 16 := by omega
      simp only [lp_rblock_0, rbSt1, wx, stV, seval, IntWalk.iteOmega, IntWalk.toNatUp, reduceCtorEq]
      refine loop_st (rbSt2 h constK b) (fun n => 48 - n) (fun n => n ≤ 48) 0 (Nat.zero_le _) ?_ ?_
      · have h0 : sched16 b 16 = schedN b 0 := rfl
        refine ent_l id ?_ ?_ rfl rfl <;> simp only [wx, wex, stV, seval, IntWalk.iteOmega, IntWalk.toNatUp, reduceCtorEq, h0]
      · intro n hn
        by_cases hlt : n < 48
        · have hl := schedN_len b n
          have w1 : ∀ k : Nat, k ≤ 16 → IntKind.i64.wrap (((16 + n : Nat) : Int) - (k : Int)) = ((16 + n - k : Nat) : Int) := fun k hk => by rw [IntWalk.i64_in _ (by omega)]; omega
          have e15 : IntKind.i64.wrap (((16 + n : Nat) : Int) - 15) = ((16 + n - 15 : Nat) : Int) := w1 15 (by decide)
          have e2 : IntKind.i64.wrap (((16 + n : Nat) : Int) - 2) = ((16 + n - 2 : Nat) : Int) := w1 2 (by decide)
          have e7 : IntKind.i64.wrap (((16 + n : Nat) : Int) - 7) = ((16 + n - 7 : Nat) : Int) := w1 7 (by decide)
          have e16 : IntKind.i64.wrap (((16 + n : Nat) : Int) - 16) = ((16 + n - 16 : Nat) : Int) := w1 16 (by decide)
          have e0 : IntKind.i64.wrap (((16 + n : Nat) : Int) + 1) = ((16 + (n + 1) : Nat) : Int) := by rw [IntWalk.i64_in _ (by omega)]; omega
          have g : ∀ k, k < 16 + n → ((schedN b n ++ List.replicate (48 - n) 0).map wD)[k]? = some (wD ((schedN b n).getD k 0)) := fun k hk => by
            rw [List.getElem?_map, get_of (by omega)]; rfl
          have g15 := g (16 + n - 15) (by omega)
          have g2 := g (16 + n - 2) (by omega)
          have g7 := g (16 + n - 7) (by omega)
          have g16 := g (16 + n - 16) (by omega)
          simp only [lp_rblock_1, rbSt2, wx, stV, seval, IntWalk.iteOmega, IntWalk.toNatUp, reduceCtorEq, e15, e2, e7, e16, e0, g15, g2, g7, g16]
          refine st_call (rturn_c G _ 17 (by decide) (by decide)) rfl (.inr rfl) ?_
          simp only [wx, stV, seval, IntWalk.iteOmega, IntWalk.toNatUp, reduceCtorEq]
          refine st_call (rturn_c G _ 19 (by decide) (by decide)) rfl (.inr rfl) ?_
          simp only [wx, stV, seval, IntWalk.iteOmega, IntWalk.toNatUp, reduceCtorEq, e15, e2, e7, e16, e0, g15, g2, g7, g16]
          refine st_call (rturn_c G _ 7 (by decide) (by decide)) rfl (.inr rfl) ?_
          simp only [wx, stV, seval, IntWalk.iteOmega, IntWalk.toNatUp, reduceCtorEq]
          refine st_call (rturn_c G _ 18 (by decide) (by decide)) rfl (.inr rfl) ?_
          have h1 : 16 + n < (schedN b n ++ List.replicate (48 - n) 0).length := by rw [List.length_append, hl, List.length_replicate]; omega
          have h2 := set_next (schedN b n) 0 (nextW (schedN b n) (16 + n)) (48 - n) (by omega)
          rw [hl] at h2
          have h4 : 48 - n - 1 = 48 - (n + 1) := by omega
          have h3 : schedN b n ++ [nextW (schedN b n) (16 + n)] = schedN b (n + 1) := rfl
          rw [h3, h4] at h2
          simp only [nextW, smallA, smallB] at h2
          simp only [wx, stV, seval, IntWalk.iteOmega, IntWalk.toNatUp, reduceCtorEq, e15, e2, e7, e16, e0, g15, g2, g7, g16, stO_ws h1 (one_w _), set_ws, h2]
          refine lop_next (n + 1) (by omega) (by omega) (ent_l id ?_ ?_ rfl rfl) <;> simp only [wx, wex, stV, seval, IntWalk.iteOmega, IntWalk.toNatUp, reduceCtorEq]
        · have hn48 : n = 48 := by omega
          have h0 : 48 - n = 0 := by omega
          obtain ⟨h0', h1, h2, h3, h4, h5, h6, h7, rfl⟩ := eight hh
          simp only [lp_rblock_1, rbSt2, wx, stV, seval, IntWalk.iteOmega, IntWalk.toNatUp, reduceCtorEq, h0, List.append_nil, List.replicate_zero, ← sched_at b n hn48]
          refine loop_st (rbR3 [h0', h1, h2, h3, h4, h5, h6, h7] b) (fun n => 64 - n) (fun n => n ≤ 64) 0 (Nat.zero_le _) ?_ ?_
          · refine ent_l id ?_ ?_ rfl rfl <;> simp only [rbR3, rbSt3, wx, wex, stV, seval, IntWalk.iteOmega, IntWalk.toNatUp, reduceCtorEq]
            exact ⟨rfl, rfl, rfl, rfl, rfl, rfl, rfl, rfl⟩
          · clear hn hlt hn48 h0
            intro n hn
            by_cases hlt : n < 64
            · have e1 : IntKind.i64.wrap ((n : Int) + 1) = ((n + 1 : Nat) : Int) := by rw [IntWalk.i64_in _ (by omega)]; rfl
              have g1 : (constK.map wD)[n]? = some (wD (constK.getD n 0)) := by rw [get_map, getD_some (by omega)]; rfl
              have g2 : ((sched b).map wD)[n]? = some (wD ((sched b).getD n 0)) := by rw [get_map, getD_some (by omega)]; rfl
              have hr : (Eight.of [h0', h1, h2, h3, h4, h5, h6, h7]).rounds constK (sched b) (n + 1) = ((Eight.of [h0', h1, h2, h3, h4, h5, h6, h7]).rounds constK (sched b) n).step (constK.getD n 0) ((sched b).getD n 0) := rfl
              generalize hs : (Eight.of [h0', h1, h2, h3, h4, h5, h6, h7]).rounds constK (sched b) n = s at hr
              simp only [lp_rblock_2, rbR3, rbSt3, hs, wx, stV, seval, IntWalk.iteOmega, IntWalk.toNatUp, reduceCtorEq, hcl, hsl, g1, g2, e1]
              refine st_call (rturn_c G _ 6 (by decide) (by decide)) rfl (.inr rfl) ?_
              simp only [wx, stV, seval, IntWalk.iteOmega, IntWalk.toNatUp, reduceCtorEq]
              refine st_call (rturn_c G _ 11 (by decide) (by decide)) rfl (.inr rfl) ?_
              simp only [wx, stV, seval, IntWalk.iteOmega, IntWalk.toNatUp, reduceCtorEq]
              refine st_call (rturn_c G _ 25 (by decide) (by decide)) rfl (.inr rfl) ?_
              simp only [wx, stV, seval, IntWalk.iteOmega, IntWalk.toNatUp, reduceCtorEq, g1, g2, hcl, hsl]
              refine st_call (rturn_c G _ 2 (by decide) (by decide)) rfl (.inr rfl) ?_
              simp only [wx, stV, seval, IntWalk.iteOmega, IntWalk.toNatUp, reduceCtorEq]
              refine st_call (rturn_c G _ 13 (by decide) (by decide)) rfl (.inr rfl) ?_
              simp only [wx, stV, seval, IntWalk.iteOmega, IntWalk.toNatUp, reduceCtorEq]
              refine st_call (rturn_c G _ 22 (by decide) (by decide)) rfl (.inr rfl) ?_
              simp only [wx, stV, seval, IntWalk.iteOmega, IntWalk.toNatUp, reduceCtorEq, e1]
              refine lop_next (n + 1) (by omega) (by omega) ?_
              rw [rbR3, hr]
              refine (ent_l id ?_ ?_ rfl rfl) <;> simp only [wx, wex, stV, seval, IntWalk.iteOmega, IntWalk.toNatUp, reduceCtorEq, step_a, step_b, step_c, step_d, step_e, step_f, step_g, step_h]
              exact ⟨rfl, rfl⟩
            · obtain rfl : n = 64 := by omega
              have hK : blockK [h0', h1, h2, h3, h4, h5, h6, h7] b = ((Eight.of [h0', h1, h2, h3, h4, h5, h6, h7]).rounds constK (sched b) 64).sum [h0', h1, h2, h3, h4, h5, h6, h7] := rfl
              rw [hK]
              simp only [rbR3]
              generalize (Eight.of [h0', h1, h2, h3, h4, h5, h6, h7]).rounds constK (sched b) 64 = s
              have e8 : s.sum [h0', h1, h2, h3, h4, h5, h6, h7] = [addW h0' s.a, addW h1 s.b, addW h2 s.c, addW h3 s.d, addW h4 s.e, addW h5 s.f, addW h6 s.g, addW h7 s.h] := rfl
              simp only [lp_rblock_2, rbSt3, e8, wx, stV, seval, IntWalk.iteOmega, IntWalk.toNatUp, reduceCtorEq]
              exact ret_own (id := 1848) (n := 8) (s := 1) (by simp only [wx, stV, seval, IntWalk.iteOmega, IntWalk.toNatUp, reduceCtorEq]) (by simp only [wx, stV, seval, IntWalk.iteOmega, IntWalk.toNatUp, reduceCtorEq] <;> rfl) rfl
end Go.Proofs.YtgepbpcolddgoaaDoor
