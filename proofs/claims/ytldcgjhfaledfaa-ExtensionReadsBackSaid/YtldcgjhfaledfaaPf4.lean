/- Layer 17 on data: the reference. Own work. -/
import Derived.Test.YtldcgjhfaledfaaPf3
import Derived.Test.YtldcgjhfaledfaaPf2
import Derived.Test.YtldcgjhfaledfaaPo5
set_option linter.unusedVariables false
set_option linter.unusedSimpArgs false
namespace Go.Proofs.Ytldcgjhfaledfaa
open Go.RowKit

theorem tdiv4r (n : Nat) : Int.tdiv (4 + (n : Int) + 3) 4 = (((4 + n + 3) / 4 : Nat) : Int) := by
  rw [Int.tdiv_eq_ediv_of_nonneg (by omega)]; omega
def sf_rxsz : SFn := ⟨1, 28,
  .seq (.reg [⟨(some 1), .box .roBox (.t 0), none⟩,
    ⟨(some 2), .mv (.k (.c (.d (.int .i64 0)))), none⟩,
    ⟨(some 3), .mv (.k (.c (.d (.int .i64 0)))), none⟩])
  (.seq (.seq (.reg [⟨(some 5), .fieldAddr 0 (.t 1), none⟩,
    ⟨(some 6), .load .sc (.t 5), none⟩,
    ⟨(some 7), .bin .lss (.t 6) (.k (.c (.d (.int .i64 0)))), none⟩,
    ⟨(some 8), .mv (.t 7), none⟩,
    ⟨(some 9), .fieldAddr 0 (.t 1), (some (8, false))⟩,
    ⟨(some 10), .load .sc (.t 9), (some (8, false))⟩,
    ⟨(some 11), .bin .gtr (.t 10) (.k (.c (.d (.int .i64 65535)))), (some (8, false))⟩,
    ⟨(some 12), .pick (.t 8) (.k (.c (.d (.bool true)))) (.t 11), none⟩])
  (.cond (.t 12) (.seq (.reg [⟨(some 2), .mv (.k (.c (.d (.int .i64 0)))), none⟩,
     ⟨(some 3), .mv (.k (.c (.d (.int .i64 4)))), none⟩])
   (.ret))
   (.skip)))
  (.seq (.seq (.reg [⟨(some 13), .fieldAddr 1 (.t 1), none⟩,
    ⟨(some 14), .load .sc (.t 13), none⟩,
    ⟨(some 15), .len (.t 14), none⟩,
    ⟨(some 16), .bin .gtr (.t 15) (.k (.c (.d (.int .i64 1232)))), none⟩])
  (.cond (.t 16) (.seq (.reg [⟨(some 2), .mv (.k (.c (.d (.int .i64 0)))), none⟩,
     ⟨(some 3), .mv (.k (.c (.d (.int .i64 2)))), none⟩])
   (.ret))
   (.skip)))
  (.seq (.reg [⟨(some 17), .fieldAddr 1 (.t 1), none⟩,
    ⟨(some 18), .load .sc (.t 17), none⟩,
    ⟨(some 19), .len (.t 18), none⟩,
    ⟨(some 20), .bin .add (.k (.c (.d (.int .i64 4)))) (.t 19), none⟩,
    ⟨(some 21), .bin .add (.t 20) (.k (.c (.d (.int .i64 3)))), none⟩,
    ⟨(some 22), .bin .quo (.t 21) (.k (.c (.d (.int .i64 4)))), none⟩,
    ⟨(some 23), .bin .mul (.t 22) (.k (.c (.d (.int .i64 4)))), none⟩,
    ⟨(some 24), .max [(.k (.c (.d (.int .i64 16)))), (.t 23)], none⟩,
    ⟨(some 4), .mv (.t 24), none⟩])
  (.seq (.seq (.reg [⟨(some 25), .mv (.t 4), none⟩,
    ⟨(some 26), .bin .gtr (.t 25) (.k (.c (.d (.int .i64 1232)))), none⟩])
  (.cond (.t 26) (.seq (.reg [⟨(some 2), .mv (.k (.c (.d (.int .i64 0)))), none⟩,
     ⟨(some 3), .mv (.k (.c (.d (.int .i64 2)))), none⟩])
   (.ret))
   (.skip)))
  (.seq (.reg [⟨(some 27), .mv (.t 4), none⟩,
    ⟨(some 2), .mv (.t 27), none⟩,
    ⟨(some 3), .mv (.k (.c (.d (.int .i64 0)))), none⟩])
  (.ret)))))),
  [(2, none), (3, none)]⟩
theorem cf_rxsz : compFn Try.prog { own := [], comp := [], frz := [], nils := [] } Try.f10 = some sf_rxsz := by kernel_rfl
set_option maxHeartbeats 1600000 in
theorem rxsz_c (G : Glob) (f : Fd) : Den Try.prog G 10 [fdD f] (.tup [.c (.d (.int .i64 (xsN f : Int))), .c (.d (.int .i64 (xsE f)))]) := by
  refine den_walk Try.func10 cf_rxsz rfl rfl ?_
  unfold fdD
  rcases Int.lt_or_le f.ty 0 with h1 | h1
  · obtain ⟨e1, e2⟩ := xs_err (f := f) (.inl h1)
    rw [e1, e2]
    simp only [sf_rxsz, putAll, wx, wy, wz, stV, seval, IntWalk.iteOmega, IntWalk.toNatUp, reduceCtorEq]
    exact ret_d2 (by simp only [wx, wy, wz, stV, seval, IntWalk.iteOmega, IntWalk.toNatUp, reduceCtorEq]) (by simp only [wx, wy, wz, stV, seval, IntWalk.iteOmega, IntWalk.toNatUp, reduceCtorEq])
  · rcases Int.lt_or_le 65535 f.ty with h2 | h2
    · obtain ⟨e1, e2⟩ := xs_err (f := f) (.inr h2)
      rw [e1, e2]
      have g : (f.ty > 65535) = True := eq_true h2
      simp only [sf_rxsz, putAll, wx, wy, wz, stV, seval, IntWalk.iteOmega, IntWalk.toNatUp, reduceCtorEq, g]
      exact ret_d2 (by simp only [wx, wy, wz, stV, seval, IntWalk.iteOmega, IntWalk.toNatUp, reduceCtorEq]) (by simp only [wx, wy, wz, stV, seval, IntWalk.iteOmega, IntWalk.toNatUp, reduceCtorEq])
    · have g : (f.ty > 65535) = False := eq_false (by omega)
      rcases Nat.lt_or_ge 1232 f.da.length with h0 | h0
      · have h4 : 1232 < xsT f := by have := xsT_len f; omega
        obtain ⟨e1, e2⟩ := xs_long h1 h2 h4
        rw [e1, e2]
        have g0 : ((f.da.length : Int) > 1232) = True := eq_true (by omega)
        simp only [sf_rxsz, putAll, wx, wy, wz, stV, seval, IntWalk.iteOmega, IntWalk.toNatUp, reduceCtorEq, g, g0]
        exact ret_d2 (by simp only [wx, wy, wz, stV, seval, IntWalk.iteOmega, IntWalk.toNatUp, reduceCtorEq]) (by simp only [wx, wy, wz, stV, seval, IntWalk.iteOmega, IntWalk.toNatUp, reduceCtorEq])
      · have g0 : ((f.da.length : Int) > 1232) = False := eq_false (by omega)
        have hq := tdiv4r f.da.length
        have hm : (((4 + f.da.length + 3) / 4 : Nat) : Int) * 4 = (((4 + f.da.length + 3) / 4 * 4 : Nat) : Int) := by omega
        have hb : (4 + f.da.length + 3) / 4 ≤ 1240 := by omega
        rcases Nat.lt_or_ge 16 ((4 + f.da.length + 3) / 4 * 4) with h3 | h3
        · have hT := xsT_hi h3
          rcases Nat.lt_or_ge 1232 (xsT f) with h4 | h4
          · obtain ⟨e1, e2⟩ := xs_long h1 h2 h4
            rw [e1, e2]
            rw [hT] at h4
            generalize (4 + f.da.length + 3) / 4 = Y at *
            have g3 : ((Y : Int) * 4 > 16) = True := eq_true (by omega)
            have g4 : ((Y : Int) * 4 > 1232) = True := eq_true (by omega)
            simp only [sf_rxsz, putAll, wx, wy, wz, stV, seval, IntWalk.iteOmega, IntWalk.toNatUp, reduceCtorEq, g, g0, hq, g3, g4, List.foldl_cons, List.foldl_nil]
            exact ret_d2 (by simp only [wx, wy, wz, stV, seval, IntWalk.iteOmega, IntWalk.toNatUp, reduceCtorEq]) (by simp only [wx, wy, wz, stV, seval, IntWalk.iteOmega, IntWalk.toNatUp, reduceCtorEq])
          · obtain ⟨e1, e2⟩ := xs_fit h1 h2 h4
            rw [e1, e2, hT]
            rw [hT] at h4
            generalize (4 + f.da.length + 3) / 4 = Y at *
            have g3 : ((Y : Int) * 4 > 16) = True := eq_true (by omega)
            have g4 : ((Y : Int) * 4 > 1232) = False := eq_false (by omega)
            simp only [sf_rxsz, putAll, wx, wy, wz, stV, seval, IntWalk.iteOmega, IntWalk.toNatUp, reduceCtorEq, g, g0, hq, g3, g4, List.foldl_cons, List.foldl_nil]
            exact ret_d2 (by simp only [wx, wy, wz, stV, seval, IntWalk.iteOmega, IntWalk.toNatUp, reduceCtorEq]) (by simp only [wx, wy, wz, stV, seval, IntWalk.iteOmega, IntWalk.toNatUp, reduceCtorEq])
        · have hT := xsT_lo h3
          obtain ⟨e1, e2⟩ := xs_fit h1 h2 (by omega)
          rw [e1, e2, hT]
          generalize (4 + f.da.length + 3) / 4 = Y at *
          have g3 : ((Y : Int) * 4 > 16) = False := eq_false (by omega)
          simp only [sf_rxsz, putAll, wx, wy, wz, stV, seval, IntWalk.iteOmega, IntWalk.toNatUp, reduceCtorEq, g, g0, hq, g3, List.foldl_cons, List.foldl_nil]
          exact ret_d2 (by simp only [wx, wy, wz, stV, seval, IntWalk.iteOmega, IntWalk.toNatUp, reduceCtorEq]) (by simp only [wx, wy, wz, stV, seval, IntWalk.iteOmega, IntWalk.toNatUp, reduceCtorEq])
def re1St (l : List Fd) (i : Nat) : St := ⟨ofL [(0, .w (.c (.d (.sl (l.map fdD))))), (4, .w (.c (.d (.int .i64 (xtot (l.take i) : Int))))), (5, .w (.c (.d (.int .i64 (i : Int)))))], hL [], uL []⟩
def re2St (l : List Fd) (i : Nat) : St := ⟨ofL [(0, .w (.c (.d (.sl (l.map fdD))))), (8, .w (.c (.own 1 1 0 (xall (l.take i)).length))), (9, .w (.c (.d (.int .i64 (i : Int)))))], hL [(1, .row 1 ((xall (l.take i)).map bD))], uL [1]⟩
def re3St (l : List Fd) (i : Nat) (n : Nat) (B A : List UInt8) (j : Nat) : St := ⟨ofL [(0, .w (.c (.d (.sl (l.map fdD))))), (8, .w (.c (.own 1 1 0 A.length))), (9, .w (.c (.d (.int .i64 (i : Int))))), (10, .w (.c (.d (.int .i64 (n : Int))))), (12, .w (.c (.own 2 1 0 (B ++ List.replicate j 0).length)))], hL [(1, .row 1 (A.map bD)), (2, .row 1 ((B ++ List.replicate j 0).map bD))], uL [1, 2]⟩
def lp_rxen_0 : SCode :=
  .seq (.seq (.reg [⟨(some 13), .mv (.t 5), none⟩,
    ⟨(some 14), .mv (.t 0), none⟩,
    ⟨(some 15), .len (.t 14), none⟩,
    ⟨(some 16), .bin .lss (.t 13) (.t 15), none⟩])
  (.cond (.t 16) (.skip)
   (.exit 0)))
  (.seq (.block 1 (.seq (.reg [⟨(some 20), .mv (.t 0), none⟩,
     ⟨(some 21), .mv (.t 5), none⟩,
     ⟨(some 22), .idxSl 2 (.t 20) (.t 21), none⟩,
     ⟨(some 23), .load (.ag 2) (.t 22), none⟩,
     ⟨(some 24), .call 10 [(.t 23)] none, none⟩,
     ⟨(some 19), .mv (.t 24), none⟩,
     ⟨(some 25), .extract (.t 19) 0, none⟩,
     ⟨(some 26), .extract (.t 19) 1, none⟩,
     ⟨(some 6), .mv (.t 25), none⟩,
     ⟨(some 7), .mv (.t 26), none⟩])
   (.seq (.seq (.reg [⟨(some 27), .mv (.t 7), none⟩,
     ⟨(some 28), .bin .neq (.t 27) (.k (.c (.d (.int .i64 0)))), none⟩])
   (.cond (.t 28) (.seq (.reg [⟨(some 29), .mv (.t 7), none⟩,
      ⟨(some 2), .mv (.k (.c .nil)), none⟩,
      ⟨(some 3), .mv (.t 29), none⟩])
    (.ret))
    (.skip)))
   (.reg [⟨(some 30), .mv (.t 4), none⟩,
     ⟨(some 31), .mv (.t 6), none⟩,
     ⟨(some 32), .bin .add (.t 30) (.t 31), none⟩,
     ⟨(some 4), .mv (.t 32), none⟩]))))
  (.reg [⟨(some 17), .mv (.t 5), none⟩,
    ⟨(some 18), .bin .add (.t 17) (.k (.c (.d (.int .i64 1)))), none⟩,
    ⟨(some 5), .mv (.t 18), none⟩]))
def lp_rxen_1 : SCode :=
  .seq (.seq (.reg [⟨(some 70), .mv (.t 12), none⟩,
    ⟨(some 71), .len (.t 70), none⟩,
    ⟨(some 72), .mv (.t 10), none⟩,
    ⟨(some 73), .bin .lss (.t 71) (.t 72), none⟩])
  (.cond (.t 73) (.skip)
   (.exit 4)))
  (.block 5 (.reg [⟨(some 74), .mv (.t 12), none⟩,
     ⟨(some 75), .bldSl false 1 1 (.int .u8 0) [(0, (.k (.c (.d (.int .u8 0)))))], none⟩,
     ⟨(some 76), .app false 1 1 (.t 74) (.t 75), none⟩,
     ⟨(some 12), .mv (.t 76), none⟩]))
def lp_rxen_2 : SCode :=
  .seq (.seq (.reg [⟨(some 39), .mv (.t 9), none⟩,
    ⟨(some 40), .mv (.t 0), none⟩,
    ⟨(some 41), .len (.t 40), none⟩,
    ⟨(some 42), .bin .lss (.t 39) (.t 41), none⟩])
  (.cond (.t 42) (.skip)
   (.exit 2)))
  (.seq (.block 3 (.seq (.reg [⟨(some 46), .mv (.t 0), none⟩,
     ⟨(some 47), .mv (.t 9), none⟩,
     ⟨(some 48), .idxSl 2 (.t 46) (.t 47), none⟩,
     ⟨(some 49), .load (.ag 2) (.t 48), none⟩,
     ⟨(some 50), .call 10 [(.t 49)] none, none⟩,
     ⟨(some 45), .mv (.t 50), none⟩,
     ⟨(some 51), .extract (.t 45) 0, none⟩,
     ⟨(some 52), .extract (.t 45) 1, none⟩,
     ⟨(some 10), .mv (.t 51), none⟩,
     ⟨(some 11), .mv (.t 52), none⟩])
   (.seq (.reg [⟨(some 53), .mv (.t 0), none⟩,
     ⟨(some 54), .mv (.t 9), none⟩,
     ⟨(some 55), .idxSl 2 (.t 53) (.t 54), none⟩,
     ⟨(some 56), .fieldAddr 0 (.t 55), none⟩,
     ⟨(some 57), .load .sc (.t 56), none⟩,
     ⟨(some 58), .conv .u64 (.t 57), none⟩,
     ⟨(some 59), .call 30 [(.t 58), (.k (.c (.d (.int .i64 2))))] none, none⟩,
     ⟨(some 60), .mv (.t 10), none⟩,
     ⟨(some 61), .conv .u64 (.t 60), none⟩,
     ⟨(some 62), .call 30 [(.t 61), (.k (.c (.d (.int .i64 2))))] none, none⟩,
     ⟨(some 63), .mv (.t 0), none⟩,
     ⟨(some 64), .mv (.t 9), none⟩,
     ⟨(some 65), .idxSl 2 (.t 63) (.t 64), none⟩,
     ⟨(some 66), .fieldAddr 1 (.t 65), none⟩,
     ⟨(some 67), .load .sc (.t 66), none⟩,
     ⟨(some 68), .bldSl false 3 1 (.sl []) [(0, (.t 59)), (1, (.t 62)), (2, (.t 67))], none⟩,
     ⟨(some 69), .call 25 [(.t 68)] (some (0, 1)), none⟩,
     ⟨(some 12), .mv (.t 69), none⟩])
   (.seq (.block 4 (.loop lp_rxen_1))
   (.reg [⟨(some 77), .mv (.t 8), none⟩,
     ⟨(some 78), .mv (.t 12), none⟩,
     ⟨(some 79), .app false 1 1 (.t 77) (.t 78), none⟩,
     ⟨(some 8), .mv (.t 79), none⟩])))))
  (.reg [⟨(some 43), .mv (.t 9), none⟩,
    ⟨(some 44), .bin .add (.t 43) (.k (.c (.d (.int .i64 1)))), none⟩,
    ⟨(some 9), .mv (.t 44), none⟩]))
def sf_rxen : SFn := ⟨1, 81,
  .seq (.reg [⟨(some 2), .mv (.k (.c .nil)), none⟩,
    ⟨(some 3), .mv (.k (.c (.d (.int .i64 0)))), none⟩])
  (.seq (.reg [⟨(some 4), .mv (.k (.c (.d (.int .i64 0)))), none⟩])
  (.seq (.seq (.reg [⟨(some 5), .mv (.k (.c (.d (.int .i64 0)))), none⟩])
  (.block 0 (.loop lp_rxen_0)))
  (.seq (.seq (.reg [⟨(some 33), .mv (.t 0), none⟩,
    ⟨(some 34), .len (.t 33), none⟩,
    ⟨(some 35), .bin .gtr (.t 34) (.k (.c (.d (.int .i64 24)))), none⟩])
  (.cond (.t 35) (.seq (.reg [⟨(some 2), .mv (.k (.c .nil)), none⟩,
     ⟨(some 3), .mv (.k (.c (.d (.int .i64 8)))), none⟩])
   (.ret))
   (.skip)))
  (.seq (.seq (.reg [⟨(some 36), .mv (.t 4), none⟩,
    ⟨(some 37), .bin .gtr (.t 36) (.k (.c (.d (.int .i64 1232)))), none⟩])
  (.cond (.t 37) (.seq (.reg [⟨(some 2), .mv (.k (.c .nil)), none⟩,
     ⟨(some 3), .mv (.k (.c (.d (.int .i64 2)))), none⟩])
   (.ret))
   (.skip)))
  (.seq (.reg [⟨(some 38), .bldSl true 0 1 (.int .u8 0) [], none⟩,
    ⟨(some 8), .mv (.t 38), none⟩])
  (.seq (.seq (.reg [⟨(some 9), .mv (.k (.c (.d (.int .i64 0)))), none⟩])
  (.block 2 (.loop lp_rxen_2)))
  (.seq (.reg [⟨(some 80), .mv (.t 8), none⟩,
    ⟨(some 2), .mv (.t 80), none⟩,
    ⟨(some 3), .mv (.k (.c (.d (.int .i64 0)))), none⟩])
  (.ret)))))))),
  [(2, none), (3, none)]⟩
theorem cf_rxen : compFn Try.prog { own := [38, 69], comp := [], frz := [], nils := [] } Try.f12 = some sf_rxen := by kernel_rfl
set_option maxHeartbeats 3200000 in
theorem rxen_c (G : Glob) (l : List Fd) (hl : l.length ≤ 1000000) : Den Try.prog G 12 [.sl (l.map fdD)] (.tup [.c (.d (.sl ((xeB l).map bD))), .c (.d (.int .i64 (xeE l)))]) := by
  refine den_walk Try.func12 cf_rxen rfl rfl ?_
  simp only [sf_rxen, putAll, wx, wy, wz, stV, seval, IntWalk.iteOmega, IntWalk.toNatUp, reduceCtorEq]
  refine loop_st (re1St l) (fun i => l.length - i) (fun i => i ≤ l.length ∧ xfE (l.take i) = 0) 0 ⟨Nat.zero_le _, rfl⟩ ?_ ?_
  · refine ent_l (fun i => i) ?_ ?_ rfl rfl <;> simp only [wx, wex, wez, stV, seval, IntWalk.iteOmega, IntWalk.toNatUp, reduceCtorEq, xtot_nil]
  · rintro i ⟨hi, hok⟩
    have hb := xtot_bd (l.take i) (xfE_0.1 hok)
    rw [List.length_take, Nat.min_eq_left hi] at hb
    by_cases hlt : i < l.length
    · have g := getF hlt
      have c := rxsz_c G (l.getD i default)
      have ht := xtot_take hlt
      have hf := xfE_take hlt hok
      by_cases he : xsE (l.getD i default) = 0
      · obtain ⟨q1, q2, q3⟩ := xsE_0 he
        have eN : xsN (l.getD i default) = xsT (l.getD i default) := (xs_fit q1 q2 q3).2
        rw [he, eN] at c
        rw [he] at hf
        unfold fdD at c
        generalize l.getD i default = x at *
        generalize xsT x = T at *
        simp only [lp_rxen_0, re1St, wx, wy, wz, stV, seval, IntWalk.iteOmega, IntWalk.toNatUp, reduceCtorEq, get_map, g, fdD]
        refine st_call (c) rfl (.inl rfl) ?_
        simp only [wx, wy, wz, stV, seval, IntWalk.iteOmega, IntWalk.toNatUp, reduceCtorEq]
        refine lop_next (i + 1) (by omega) ⟨by omega, hf⟩ (ent_l (fun i => i) ?_ ?_ rfl rfl) <;> simp only [wx, wex, wez, stV, seval, IntWalk.iteOmega, IntWalk.toNatUp, reduceCtorEq, ht]
      · obtain ⟨e1, e2⟩ := xeE_err (xfE_stop hlt hok he) he
        have hne : (xsE (l.getD i default) = 0) = False := eq_false he
        rw [e1, e2]
        unfold fdD at c
        generalize xsE (l.getD i default) = e at *
        generalize xsN (l.getD i default) = n at *
        generalize l.getD i default = x at *
        simp only [lp_rxen_0, re1St, wx, wy, wz, stV, seval, IntWalk.iteOmega, IntWalk.toNatUp, reduceCtorEq, get_map, g, fdD]
        refine st_call (c) rfl (.inl rfl) ?_
        simp only [hne, wx, wy, wz, stV, seval, IntWalk.iteOmega, IntWalk.toNatUp, reduceCtorEq]
        exact ret_d2 (by simp only [wx, wy, wz, stV, seval, IntWalk.iteOmega, IntWalk.toNatUp, reduceCtorEq]) (by simp only [wx, wy, wz, stV, seval, IntWalk.iteOmega, IntWalk.toNatUp, reduceCtorEq])
    · have hil : l.take i = l := List.take_of_length_le (by omega)
      rw [hil] at hok
      rcases Nat.lt_or_ge 24 l.length with h24 | h24
      · obtain ⟨e1, e2⟩ := xeE_big hok h24
        rw [e1, e2]
        have g1 : ((l.length : Int) > 24) = True := eq_true (by omega)
        simp only [lp_rxen_0, re1St, wx, wy, wz, stV, seval, IntWalk.iteOmega, IntWalk.toNatUp, reduceCtorEq, g1]
        exact ret_d2 (by simp only [wx, wy, wz, stV, seval, IntWalk.iteOmega, IntWalk.toNatUp, reduceCtorEq]) (by simp only [wx, wy, wz, stV, seval, IntWalk.iteOmega, IntWalk.toNatUp, reduceCtorEq])
      · have g1 : ((l.length : Int) > 24) = False := eq_false (by omega)
        rcases Nat.lt_or_ge 1232 (xtot l) with h12 | h12
        · obtain ⟨e1, e2⟩ := xeE_long hok h24 h12
          rw [e1, e2]
          have g2 : ((xtot l : Int) > 1232) = True := eq_true (by omega)
          simp only [lp_rxen_0, re1St, wx, wy, wz, stV, seval, IntWalk.iteOmega, IntWalk.toNatUp, reduceCtorEq, g1, hil, g2]
          exact ret_d2 (by simp only [wx, wy, wz, stV, seval, IntWalk.iteOmega, IntWalk.toNatUp, reduceCtorEq]) (by simp only [wx, wy, wz, stV, seval, IntWalk.iteOmega, IntWalk.toNatUp, reduceCtorEq])
        · obtain ⟨e1, e2⟩ := xeE_fit hok h24 h12
          rw [e1, e2]
          have g2 : ((xtot l : Int) > 1232) = False := eq_false (by omega)
          simp only [lp_rxen_0, re1St, wx, wy, wz, stV, seval, IntWalk.iteOmega, IntWalk.toNatUp, reduceCtorEq, g1, hil, g2]
          refine loop_st (re2St l) (fun i => l.length - i) (fun i => i ≤ l.length) 0 (Nat.zero_le _) ?_ ?_
          · refine ent_l (fun _ => 304) ?_ ?_ rfl rfl <;> simp only [wx, wex, wez, stV, seval, IntWalk.iteOmega, IntWalk.toNatUp, reduceCtorEq, xall_nil]
          · intro i hi
            by_cases hlt : i < l.length
            · have g := getF hlt
              have hx := xfE_mem hok hlt
              have ha := xall_take hlt
              have h1 := xall_len (l.take (i + 1))
              have h2 := xtot_le l (i + 1)
              rw [ha, List.length_append] at h1
              have es : re2St l i = ⟨ofL [(0, .w (.c (.d (.sl (l.map fdD))))), (8, .w (.c (.own 1 1 0 (xall (l.take i)).length))), (9, .w (.c (.d (.int .i64 (i : Int)))))], hL [(1, .row 1 ((xall (l.take i)).map bD))], uL [1]⟩ := rfl
              rw [es]
              have hA : (xall (l.take i)).length ≤ 1232 := by omega
              generalize hAA : xall (l.take i) = A at *
              generalize l.getD i default = x at *
              obtain ⟨q1, q2, q3⟩ := xsE_0 hx
              have c := rxsz_c G x
              have eN : xsN x = xsT x := (xs_fit q1 q2 q3).2
              rw [hx, eN] at c
              have c3 := rputk_c G x.ty.toNat 2 (by decide)
              rw [show (2 : Int).toNat = 2 from rfl, show ((x.ty.toNat : Nat) : Int) = x.ty by omega] at c3
              have c4 := rputk_c G (xsT x) 2 (by decide)
              rw [show (2 : Int).toNat = 2 from rfl] at c4
              have hl1 := xsT_len x
              have cj := rjoin_c G [putL x.ty.toNat 2, putL (xsT x) 2, x.da] (by simp) (by simp [putL_length]; omega)
              simp only [List.map_cons, List.map_nil, List.flatten_cons, List.flatten_nil, List.append_nil] at cj
              have eB : xfB x = (putL x.ty.toNat 2 ++ (putL (xsT x) 2 ++ x.da)) ++ List.replicate (xsT x - 4 - x.da.length) 0 := by
                unfold xfB; simp only [List.append_assoc]
              have lB : (putL x.ty.toNat 2 ++ (putL (xsT x) 2 ++ x.da)).length = 4 + x.da.length := by simp [putL_length]; omega
              rw [eB] at ha h1
              unfold fdD at c
              generalize putL x.ty.toNat 2 ++ (putL (xsT x) 2 ++ x.da) = B at *
              generalize putL x.ty.toNat 2 = B1 at *
              generalize putL (xsT x) 2 = B2 at *
              generalize xsT x = T at *
              clear eB eN hx
              simp only [lp_rxen_2, wx, wy, wz, stV, seval, IntWalk.iteOmega, IntWalk.toNatUp, reduceCtorEq, get_map, g, fdD]

              refine st_call (c) rfl (.inl rfl) ?_
              simp only [get_map, g, fdD, wx, wy, wz, stV, seval, IntWalk.iteOmega, IntWalk.toNatUp, reduceCtorEq]
              refine st_call (c3) rfl (.inl rfl) ?_
              simp only [wx, wy, wz, stV, seval, IntWalk.iteOmega, IntWalk.toNatUp, reduceCtorEq]
              refine st_call (c4) rfl (.inl rfl) ?_
              simp only [get_map, g, fdD, wx, wy, wz, stV, seval, IntWalk.iteOmega, IntWalk.toNatUp, reduceCtorEq]
              refine st_call (cj) rfl (.inl rfl) ?_
              simp only [wx, wy, wz, stV, seval, IntWalk.iteOmega, IntWalk.toNatUp, reduceCtorEq]
              refine loop_st (re3St l i T B A) (fun j => T - 4 - x.da.length - j) (fun j => j ≤ T - 4 - x.da.length) 0 (Nat.zero_le _) ?_ ?_
              · refine ent_l (fun i => if i = 1 then 1 else 552) ?_ ?_ rfl rfl <;> simp only [wx, wex, wez, stV, seval, IntWalk.iteOmega, IntWalk.toNatUp, reduceCtorEq]
              · intro j hj
                have hj2 : (B ++ List.replicate j (0 : UInt8)).length = 4 + x.da.length + j := by simp [lB]
                by_cases hjl : j < T - 4 - x.da.length
                · have hr : B ++ List.replicate (j + 1) (0 : UInt8) = (B ++ List.replicate j 0) ++ [0] := by rw [List.replicate_succ', List.append_assoc]
                  have er : re3St l i T B A j = ⟨ofL [(0, .w (.c (.d (.sl (l.map fdD))))), (8, .w (.c (.own 1 1 0 A.length))), (9, .w (.c (.d (.int .i64 (i : Int))))), (10, .w (.c (.d (.int .i64 (T : Int))))), (12, .w (.c (.own 2 1 0 (B ++ List.replicate j 0).length)))], hL [(1, .row 1 (A.map bD)), (2, .row 1 ((B ++ List.replicate j 0).map bD))], uL [1, 2]⟩ := rfl
                  rw [er]
                  generalize hC : B ++ List.replicate j (0 : UInt8) = C at *
                  simp only [lp_rxen_1, wx, wy, wz, stV, seval, IntWalk.iteOmega, IntWalk.toNatUp, reduceCtorEq, srcV]
                  refine lop_next (j + 1) (by omega) (by omega) (ent_l (fun i => if i = 1 then 1 else 608) ?_ ?_ rfl rfl) <;> simp only [hr, hC, List.map_append, bD, wx, wex, wez, stV, seval, IntWalk.iteOmega, IntWalk.toNatUp, reduceCtorEq]
                  all_goals rfl
                · have hje : j = T - 4 - x.da.length := by omega
                  have er : re3St l i T B A j = ⟨ofL [(0, .w (.c (.d (.sl (l.map fdD))))), (8, .w (.c (.own 1 1 0 A.length))), (9, .w (.c (.d (.int .i64 (i : Int))))), (10, .w (.c (.d (.int .i64 (T : Int))))), (12, .w (.c (.own 2 1 0 (B ++ List.replicate j 0).length)))], hL [(1, .row 1 (A.map bD)), (2, .row 1 ((B ++ List.replicate j 0).map bD))], uL [1, 2]⟩ := rfl
                  rw [er]
                  rw [← hje] at ha
                  generalize hC : B ++ List.replicate j (0 : UInt8) = C at *
                  simp only [lp_rxen_1, wx, wy, wz, stV, seval, IntWalk.iteOmega, IntWalk.toNatUp, reduceCtorEq, srcV]
                  refine lop_next (i + 1) (by omega) (by omega) (ent_l (fun _ => 632) ?_ ?_ rfl rfl) <;> simp only [ha, wx, wex, wez, stV, seval, IntWalk.iteOmega, IntWalk.toNatUp, reduceCtorEq]
            · have hil : l.take i = l := List.take_of_length_le (by omega)
              simp only [lp_rxen_2, re2St, wx, wy, wz, stV, seval, IntWalk.iteOmega, IntWalk.toNatUp, reduceCtorEq, hil]
              exact ret_d2 (by simp only [wx, wy, wz, stV, seval, IntWalk.iteOmega, IntWalk.toNatUp, reduceCtorEq]) (by simp only [wx, wy, wz, stV, seval, IntWalk.iteOmega, IntWalk.toNatUp, reduceCtorEq])
end Go.Proofs.Ytldcgjhfaledfaa
