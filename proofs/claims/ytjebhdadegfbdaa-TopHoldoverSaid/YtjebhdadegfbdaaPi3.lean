/- Layer 11 on data: spans: the reference, for one span and two. Own work. -/
import Derived.Test.YtjebhdadegfbdaaPr1
import Derived.Test.YtjebhdadegfbdaaPi2
set_option linter.unusedVariables false
set_option linter.unusedSimpArgs false
namespace Go.Proofs.Ytjebhdadegfbdaa
open Go.RowKit

theorem okP_v (a b : Int) : okP (a, b) = (valT a && valT b && decide (a ≤ b)) := by
  unfold okP valT
  rw [← Bool.decide_and, ← Bool.decide_and]
  apply decide_eq_decide.2
  omega
theorem okP_i {a b : Int} (h : okP (a, b) = true) : -1152921504606846976 ≤ a ∧ b ≤ 1152921504606846976 ∧ a ≤ b := okP_t h
theorem okP_f {a b : Int} (h : okP (a, b) = false) : ¬ (-1152921504606846976 ≤ a ∧ b ≤ 1152921504606846976 ∧ a ≤ b) := of_decide_eq_false h
theorem okP_d {a b : Int} (h : -1152921504606846976 ≤ a ∧ b ≤ 1152921504606846976 ∧ a ≤ b) : okP (a, b) = true := decide_eq_true h
theorem okP_n {a b : Int} (h : ¬ (-1152921504606846976 ≤ a ∧ b ≤ 1152921504606846976 ∧ a ≤ b)) : okP (a, b) = false := decide_eq_false h
def sf_rsv : SFn := ⟨1, 18,
  .seq (.reg [⟨(some 1), .box .roBox (.t 0), none⟩,
    ⟨(some 2), .mv (.k (.c (.d (.bool false)))), none⟩])
  (.seq (.reg [⟨(some 3), .fieldAddr 0 (.t 1), none⟩,
    ⟨(some 4), .load .sc (.t 3), none⟩,
    ⟨(some 5), .call 81 [(.t 4)] none, none⟩,
    ⟨(some 6), .mv (.t 5), none⟩,
    ⟨(some 7), .fieldAddr 1 (.t 1), (some (6, true))⟩,
    ⟨(some 8), .load .sc (.t 7), (some (6, true))⟩,
    ⟨(some 9), .call 81 [(.t 8)] none, (some (6, true))⟩,
    ⟨(some 10), .pick (.t 6) (.t 9) (.k (.c (.d (.bool false)))), none⟩,
    ⟨(some 11), .mv (.t 10), none⟩,
    ⟨(some 12), .fieldAddr 0 (.t 1), (some (11, true))⟩,
    ⟨(some 13), .load .sc (.t 12), (some (11, true))⟩,
    ⟨(some 14), .fieldAddr 1 (.t 1), (some (11, true))⟩,
    ⟨(some 15), .load .sc (.t 14), (some (11, true))⟩,
    ⟨(some 16), .bin .leq (.t 13) (.t 15), (some (11, true))⟩,
    ⟨(some 17), .pick (.t 11) (.t 16) (.k (.c (.d (.bool false)))), none⟩,
    ⟨(some 2), .mv (.t 17), none⟩])
  (.ret)),
  [(2, none)]⟩
theorem cf_rsv : compFn Try.prog { own := [], comp := [], frz := [], nils := [] } Try.f51 = some sf_rsv := by kernel_rfl
theorem rsv_c (G : Glob) (a b : Int) : Den Try.prog G 51 [.agg [.int .i64 a, .int .i64 b]] (.w (.c (.d (.bool (okP (a, b)))))) := by
  refine den_walk Try.func51 cf_rsv rfl rfl ?_
  rw [okP_v]
  cases h1 : valT a
  · simp only [sf_rsv, putAll, wx, wy, wz, stV, seval, IntWalk.iteOmega, IntWalk.toNatUp, reduceCtorEq]
    refine st_call (rval_c G a) rfl (.inl rfl) ?_
    simp only [h1, wx, wy, wz, stV, seval, IntWalk.iteOmega, IntWalk.toNatUp, reduceCtorEq]
    exact ret_d1 (by simp only [wx, wy, wz, stV, seval, IntWalk.iteOmega, IntWalk.toNatUp, reduceCtorEq])
  · cases h2 : valT b
    · simp only [sf_rsv, putAll, wx, wy, wz, stV, seval, IntWalk.iteOmega, IntWalk.toNatUp, reduceCtorEq]
      refine st_call (rval_c G a) rfl (.inl rfl) ?_
      simp only [h1, wx, wy, wz, stV, seval, IntWalk.iteOmega, IntWalk.toNatUp, reduceCtorEq]
      refine st_call (rval_c G b) rfl (.inl rfl) ?_
      simp only [h2, wx, wy, wz, stV, seval, IntWalk.iteOmega, IntWalk.toNatUp, reduceCtorEq]
      exact ret_d1 (by simp only [wx, wy, wz, stV, seval, IntWalk.iteOmega, IntWalk.toNatUp, reduceCtorEq])
    · by_cases h3 : a ≤ b
      · rw [decide_eq_true h3]
        simp only [sf_rsv, putAll, wx, wy, wz, stV, seval, IntWalk.iteOmega, IntWalk.toNatUp, reduceCtorEq]
        refine st_call (rval_c G a) rfl (.inl rfl) ?_
        simp only [h1, wx, wy, wz, stV, seval, IntWalk.iteOmega, IntWalk.toNatUp, reduceCtorEq]
        refine st_call (rval_c G b) rfl (.inl rfl) ?_
        simp only [h2, wx, wy, wz, stV, seval, IntWalk.iteOmega, IntWalk.toNatUp, reduceCtorEq]
        exact ret_d1 (by simp only [wx, wy, wz, stV, seval, IntWalk.iteOmega, IntWalk.toNatUp, reduceCtorEq])
      · rw [decide_eq_false h3]
        simp only [sf_rsv, putAll, wx, wy, wz, stV, seval, IntWalk.iteOmega, IntWalk.toNatUp, reduceCtorEq]
        refine st_call (rval_c G a) rfl (.inl rfl) ?_
        simp only [h1, wx, wy, wz, stV, seval, IntWalk.iteOmega, IntWalk.toNatUp, reduceCtorEq]
        refine st_call (rval_c G b) rfl (.inl rfl) ?_
        simp only [h2, wx, wy, wz, stV, seval, IntWalk.iteOmega, IntWalk.toNatUp, reduceCtorEq]
        exact ret_d1 (by simp only [wx, wy, wz, stV, seval, IntWalk.iteOmega, IntWalk.toNatUp, reduceCtorEq])
/-! ### Holds, Inside, Width, Middle -/
def hldB (a b t : Int) : Bool := okP (a, b) && decide (a ≤ t ∧ t ≤ b)
def insB (a b c d : Int) : Bool := okP (a, b) && okP (c, d) && decide (c ≤ a ∧ b ≤ d)
def widV (a b : Int) : Int := if okP (a, b) = true then b - a else 0
def midV (a b : Int) : Int := if okP (a, b) = true then (a + b) / 2 else 0
def sf_rhld : SFn := ⟨2, 19,
  .seq (.reg [⟨(some 2), .box .roBox (.t 0), none⟩,
    ⟨(some 4), .mv (.k (.c (.d (.bool false)))), none⟩])
  (.seq (.reg [⟨(some 5), .load (.ag 2) (.t 2), none⟩,
    ⟨(some 6), .call 51 [(.t 5)] none, none⟩,
    ⟨(some 7), .mv (.t 6), none⟩,
    ⟨(some 8), .fieldAddr 0 (.t 2), (some (7, true))⟩,
    ⟨(some 9), .load .sc (.t 8), (some (7, true))⟩,
    ⟨(some 10), .mv (.t 1), (some (7, true))⟩,
    ⟨(some 11), .bin .leq (.t 9) (.t 10), (some (7, true))⟩,
    ⟨(some 12), .pick (.t 7) (.t 11) (.k (.c (.d (.bool false)))), none⟩,
    ⟨(some 13), .mv (.t 12), none⟩,
    ⟨(some 14), .mv (.t 1), (some (13, true))⟩,
    ⟨(some 15), .fieldAddr 1 (.t 2), (some (13, true))⟩,
    ⟨(some 16), .load .sc (.t 15), (some (13, true))⟩,
    ⟨(some 17), .bin .leq (.t 14) (.t 16), (some (13, true))⟩,
    ⟨(some 18), .pick (.t 13) (.t 17) (.k (.c (.d (.bool false)))), none⟩,
    ⟨(some 4), .mv (.t 18), none⟩])
  (.ret)),
  [(4, none)]⟩
theorem cf_rhld : compFn Try.prog { own := [], comp := [], frz := [], nils := [] } Try.f28 = some sf_rhld := by kernel_rfl
theorem rhld_c (G : Glob) (a b t : Int) : Den Try.prog G 28 [.agg [.int .i64 a, .int .i64 b], .int .i64 t] (.w (.c (.d (.bool (hldB a b t))))) := by
  refine den_walk Try.func28 cf_rhld rfl rfl ?_
  unfold hldB
  cases hv : okP (a, b)
  · simp only [sf_rhld, putAll, wx, wy, wz, stV, seval, IntWalk.iteOmega, IntWalk.toNatUp, reduceCtorEq]
    refine st_call (rsv_c G a b) rfl (.inl rfl) ?_
    simp only [hv, wx, wy, wz, stV, seval, IntWalk.iteOmega, IntWalk.toNatUp, reduceCtorEq]
    exact ret_d1 (by simp only [wx, wy, wz, stV, seval, IntWalk.iteOmega, IntWalk.toNatUp, reduceCtorEq])
  · by_cases h1 : a ≤ t
    · by_cases h2 : t ≤ b
      · rw [decide_eq_true ⟨h1, h2⟩]
        simp only [sf_rhld, putAll, wx, wy, wz, stV, seval, IntWalk.iteOmega, IntWalk.toNatUp, reduceCtorEq]
        refine st_call (rsv_c G a b) rfl (.inl rfl) ?_
        simp only [hv, wx, wy, wz, stV, seval, IntWalk.iteOmega, IntWalk.toNatUp, reduceCtorEq]
        exact ret_d1 (by simp only [wx, wy, wz, stV, seval, IntWalk.iteOmega, IntWalk.toNatUp, reduceCtorEq])
      · rw [decide_eq_false (by omega)]
        simp only [sf_rhld, putAll, wx, wy, wz, stV, seval, IntWalk.iteOmega, IntWalk.toNatUp, reduceCtorEq]
        refine st_call (rsv_c G a b) rfl (.inl rfl) ?_
        simp only [hv, wx, wy, wz, stV, seval, IntWalk.iteOmega, IntWalk.toNatUp, reduceCtorEq]
        exact ret_d1 (by simp only [wx, wy, wz, stV, seval, IntWalk.iteOmega, IntWalk.toNatUp, reduceCtorEq])
    · rw [decide_eq_false (by omega)]
      simp only [sf_rhld, putAll, wx, wy, wz, stV, seval, IntWalk.iteOmega, IntWalk.toNatUp, reduceCtorEq]
      refine st_call (rsv_c G a b) rfl (.inl rfl) ?_
      simp only [hv, wx, wy, wz, stV, seval, IntWalk.iteOmega, IntWalk.toNatUp, reduceCtorEq]
      exact ret_d1 (by simp only [wx, wy, wz, stV, seval, IntWalk.iteOmega, IntWalk.toNatUp, reduceCtorEq])
def sf_rins : SFn := ⟨2, 25,
  .seq (.reg [⟨(some 2), .box .roBox (.t 0), none⟩,
    ⟨(some 3), .box .roBox (.t 1), none⟩,
    ⟨(some 4), .mv (.k (.c (.d (.bool false)))), none⟩])
  (.seq (.reg [⟨(some 5), .load (.ag 2) (.t 2), none⟩,
    ⟨(some 6), .call 51 [(.t 5)] none, none⟩,
    ⟨(some 7), .mv (.t 6), none⟩,
    ⟨(some 8), .load (.ag 2) (.t 3), (some (7, true))⟩,
    ⟨(some 9), .call 51 [(.t 8)] none, (some (7, true))⟩,
    ⟨(some 10), .pick (.t 7) (.t 9) (.k (.c (.d (.bool false)))), none⟩,
    ⟨(some 11), .mv (.t 10), none⟩,
    ⟨(some 12), .fieldAddr 0 (.t 3), (some (11, true))⟩,
    ⟨(some 13), .load .sc (.t 12), (some (11, true))⟩,
    ⟨(some 14), .fieldAddr 0 (.t 2), (some (11, true))⟩,
    ⟨(some 15), .load .sc (.t 14), (some (11, true))⟩,
    ⟨(some 16), .bin .leq (.t 13) (.t 15), (some (11, true))⟩,
    ⟨(some 17), .pick (.t 11) (.t 16) (.k (.c (.d (.bool false)))), none⟩,
    ⟨(some 18), .mv (.t 17), none⟩,
    ⟨(some 19), .fieldAddr 1 (.t 2), (some (18, true))⟩,
    ⟨(some 20), .load .sc (.t 19), (some (18, true))⟩,
    ⟨(some 21), .fieldAddr 1 (.t 3), (some (18, true))⟩,
    ⟨(some 22), .load .sc (.t 21), (some (18, true))⟩,
    ⟨(some 23), .bin .leq (.t 20) (.t 22), (some (18, true))⟩,
    ⟨(some 24), .pick (.t 18) (.t 23) (.k (.c (.d (.bool false)))), none⟩,
    ⟨(some 4), .mv (.t 24), none⟩])
  (.ret)),
  [(4, none)]⟩
theorem cf_rins : compFn Try.prog { own := [], comp := [], frz := [], nils := [] } Try.f29 = some sf_rins := by kernel_rfl
theorem rins_c (G : Glob) (a b c d : Int) : Den Try.prog G 29 [.agg [.int .i64 a, .int .i64 b], .agg [.int .i64 c, .int .i64 d]] (.w (.c (.d (.bool (insB a b c d))))) := by
  refine den_walk Try.func29 cf_rins rfl rfl ?_
  unfold insB
  cases hv : okP (a, b)
  · simp only [sf_rins, putAll, wx, wy, wz, stV, seval, IntWalk.iteOmega, IntWalk.toNatUp, reduceCtorEq]
    refine st_call (rsv_c G a b) rfl (.inl rfl) ?_
    simp only [hv, wx, wy, wz, stV, seval, IntWalk.iteOmega, IntWalk.toNatUp, reduceCtorEq]
    exact ret_d1 (by simp only [wx, wy, wz, stV, seval, IntWalk.iteOmega, IntWalk.toNatUp, reduceCtorEq])
  · cases hv2 : okP (c, d)
    · simp only [sf_rins, putAll, wx, wy, wz, stV, seval, IntWalk.iteOmega, IntWalk.toNatUp, reduceCtorEq]
      refine st_call (rsv_c G a b) rfl (.inl rfl) ?_
      simp only [hv, wx, wy, wz, stV, seval, IntWalk.iteOmega, IntWalk.toNatUp, reduceCtorEq]
      refine st_call (rsv_c G c d) rfl (.inl rfl) ?_
      simp only [hv2, wx, wy, wz, stV, seval, IntWalk.iteOmega, IntWalk.toNatUp, reduceCtorEq]
      exact ret_d1 (by simp only [wx, wy, wz, stV, seval, IntWalk.iteOmega, IntWalk.toNatUp, reduceCtorEq])
    · by_cases h1 : c ≤ a
      · by_cases h2 : b ≤ d
        · rw [decide_eq_true ⟨h1, h2⟩]
          simp only [sf_rins, putAll, wx, wy, wz, stV, seval, IntWalk.iteOmega, IntWalk.toNatUp, reduceCtorEq]
          refine st_call (rsv_c G a b) rfl (.inl rfl) ?_
          simp only [hv, wx, wy, wz, stV, seval, IntWalk.iteOmega, IntWalk.toNatUp, reduceCtorEq]
          refine st_call (rsv_c G c d) rfl (.inl rfl) ?_
          simp only [hv2, wx, wy, wz, stV, seval, IntWalk.iteOmega, IntWalk.toNatUp, reduceCtorEq]
          exact ret_d1 (by simp only [wx, wy, wz, stV, seval, IntWalk.iteOmega, IntWalk.toNatUp, reduceCtorEq])
        · rw [decide_eq_false (by omega)]
          simp only [sf_rins, putAll, wx, wy, wz, stV, seval, IntWalk.iteOmega, IntWalk.toNatUp, reduceCtorEq]
          refine st_call (rsv_c G a b) rfl (.inl rfl) ?_
          simp only [hv, wx, wy, wz, stV, seval, IntWalk.iteOmega, IntWalk.toNatUp, reduceCtorEq]
          refine st_call (rsv_c G c d) rfl (.inl rfl) ?_
          simp only [hv2, wx, wy, wz, stV, seval, IntWalk.iteOmega, IntWalk.toNatUp, reduceCtorEq]
          exact ret_d1 (by simp only [wx, wy, wz, stV, seval, IntWalk.iteOmega, IntWalk.toNatUp, reduceCtorEq])
      · rw [decide_eq_false (by omega)]
        simp only [sf_rins, putAll, wx, wy, wz, stV, seval, IntWalk.iteOmega, IntWalk.toNatUp, reduceCtorEq]
        refine st_call (rsv_c G a b) rfl (.inl rfl) ?_
        simp only [hv, wx, wy, wz, stV, seval, IntWalk.iteOmega, IntWalk.toNatUp, reduceCtorEq]
        refine st_call (rsv_c G c d) rfl (.inl rfl) ?_
        simp only [hv2, wx, wy, wz, stV, seval, IntWalk.iteOmega, IntWalk.toNatUp, reduceCtorEq]
        exact ret_d1 (by simp only [wx, wy, wz, stV, seval, IntWalk.iteOmega, IntWalk.toNatUp, reduceCtorEq])
/-! ### Meet, Hull -/
theorem max2 (a c : Int) : [c].foldl (fun x y => if y > x then y else x) a = max a c := by
  simp only [List.foldl_cons, List.foldl_nil]
  rw [Int.max_def]; split <;> split <;> omega
theorem min2 (a c : Int) : [c].foldl (fun x y => if y < x then y else x) a = min a c := by
  simp only [List.foldl_cons, List.foldl_nil]
  rw [Int.min_def]; split <;> split <;> omega
def spA (k : Bool) (x y : Int) : D := .agg [.int .i64 (if k = true then x else 0), .int .i64 (if k = true then y else 0)]
def mtB (a b c d : Int) : Bool := meetB (a, b) (c, d)
def hulB (a b c d : Int) : Bool := okP (a, b) && okP (c, d)
/-! ### Sums -/
def sf_rmad : SFn := ⟨2, 15,
  .seq (.reg [⟨(some 4), .alloc [(.d (.int .i64 0)), (.d (.int .i64 0))], none⟩,
    ⟨(some 5), .mv (.k (.c (.d (.int .i64 0)))), none⟩])
  (.seq (.reg [⟨(some 7), .mv (.t 0), none⟩,
    ⟨(some 8), .mv (.t 1), none⟩,
    ⟨(some 9), .build [(.d (.int .i64 0)), (.d (.int .i64 0))] [(0, 1, (.t 7)), (1, 1, (.t 8))], none⟩,
    ⟨(some 6), .alloc [(.d (.int .i64 0)), (.d (.int .i64 0))], none⟩,
    ⟨none, .store (.ag 2) (.t 6) (.t 9), none⟩])
  (.seq (.seq (.reg [⟨(some 10), .load (.ag 2) (.t 6), none⟩,
    ⟨(some 11), .call 51 [(.t 10)] none, none⟩,
    ⟨(some 12), .un .not (.t 11), none⟩])
  (.cond (.t 12) (.seq (.reg [⟨(some 13), .build [(.d (.int .i64 0)), (.d (.int .i64 0))] [], none⟩,
     ⟨none, .store (.ag 2) (.t 4) (.t 13), none⟩,
     ⟨(some 5), .mv (.k (.c (.d (.int .i64 4)))), none⟩])
   (.ret))
   (.skip)))
  (.seq (.reg [⟨(some 14), .load (.ag 2) (.t 6), none⟩,
    ⟨none, .store (.ag 2) (.t 4) (.t 14), none⟩,
    ⟨(some 5), .mv (.k (.c (.d (.int .i64 0)))), none⟩])
  (.ret)))),
  [(4, (some (.ag 2))), (5, none)]⟩
theorem cf_rmad : compFn Try.prog { own := [], comp := [], frz := [], nils := [] } Try.f82 = some sf_rmad := by kernel_rfl
theorem rmad_c (G : Glob) (a b : Int) : Den Try.prog G 82 [.int .i64 a, .int .i64 b] (.tup [.c (.d (spA (okP (a, b)) a b)), .c (.d (.int .i64 (if okP (a, b) = true then 0 else 4)))]) := by
  refine den_walk Try.func82 cf_rmad rfl rfl ?_
  unfold spA
  cases hv : okP (a, b)
  · simp only [sf_rmad, putAll, wx, wy, wz, stV, seval, IntWalk.iteOmega, IntWalk.toNatUp, reduceCtorEq]
    refine st_call (rsv_c G a b) rfl (.inl rfl) ?_
    simp only [hv, wx, wy, wz, stV, seval, IntWalk.iteOmega, IntWalk.toNatUp, reduceCtorEq]
    exact ret_d2 (by simp only [wx, wy, wz, stV, seval, IntWalk.iteOmega, IntWalk.toNatUp, reduceCtorEq]) (by simp only [wx, wy, wz, stV, seval, IntWalk.iteOmega, IntWalk.toNatUp, reduceCtorEq])
  · simp only [sf_rmad, putAll, wx, wy, wz, stV, seval, IntWalk.iteOmega, IntWalk.toNatUp, reduceCtorEq]
    refine st_call (rsv_c G a b) rfl (.inl rfl) ?_
    simp only [hv, wx, wy, wz, stV, seval, IntWalk.iteOmega, IntWalk.toNatUp, reduceCtorEq]
    exact ret_d2 (by simp only [wx, wy, wz, stV, seval, IntWalk.iteOmega, IntWalk.toNatUp, reduceCtorEq]) (by simp only [wx, wy, wz, stV, seval, IntWalk.iteOmega, IntWalk.toNatUp, reduceCtorEq])
/-- A span made of sums, if two spans are valid. -/
def smsB (a b c d x y : Int) : Bool := okP (a, b) && okP (c, d) && okP (x, y)
def sumE (a b c d x y : Int) : Int := if (okP (a, b) && okP (c, d)) = true then (if okP (x, y) = true then 0 else 4) else 3
def sf_radd : SFn := ⟨2, 28,
  .seq (.reg [⟨(some 2), .box .roBox (.t 0), none⟩,
    ⟨(some 3), .box .roBox (.t 1), none⟩,
    ⟨(some 4), .alloc [(.d (.int .i64 0)), (.d (.int .i64 0))], none⟩,
    ⟨(some 5), .mv (.k (.c (.d (.int .i64 0)))), none⟩])
  (.seq (.seq (.reg [⟨(some 6), .load (.ag 2) (.t 2), none⟩,
    ⟨(some 7), .call 51 [(.t 6)] none, none⟩,
    ⟨(some 8), .un .not (.t 7), none⟩,
    ⟨(some 9), .mv (.t 8), none⟩,
    ⟨(some 10), .load (.ag 2) (.t 3), (some (9, false))⟩,
    ⟨(some 11), .call 51 [(.t 10)] none, (some (9, false))⟩,
    ⟨(some 12), .un .not (.t 11), (some (9, false))⟩,
    ⟨(some 13), .pick (.t 9) (.k (.c (.d (.bool true)))) (.t 12), none⟩])
  (.cond (.t 13) (.seq (.reg [⟨(some 14), .build [(.d (.int .i64 0)), (.d (.int .i64 0))] [], none⟩,
     ⟨none, .store (.ag 2) (.t 4) (.t 14), none⟩,
     ⟨(some 5), .mv (.k (.c (.d (.int .i64 3)))), none⟩])
   (.ret))
   (.skip)))
  (.seq (.reg [⟨(some 15), .fieldAddr 0 (.t 2), none⟩,
    ⟨(some 16), .load .sc (.t 15), none⟩,
    ⟨(some 17), .fieldAddr 0 (.t 3), none⟩,
    ⟨(some 18), .load .sc (.t 17), none⟩,
    ⟨(some 19), .bin .add (.t 16) (.t 18), none⟩,
    ⟨(some 20), .fieldAddr 1 (.t 2), none⟩,
    ⟨(some 21), .load .sc (.t 20), none⟩,
    ⟨(some 22), .fieldAddr 1 (.t 3), none⟩,
    ⟨(some 23), .load .sc (.t 22), none⟩,
    ⟨(some 24), .bin .add (.t 21) (.t 23), none⟩,
    ⟨(some 25), .call 82 [(.t 19), (.t 24)] none, none⟩,
    ⟨(some 26), .extract (.t 25) 0, none⟩,
    ⟨(some 27), .extract (.t 25) 1, none⟩,
    ⟨none, .store (.ag 2) (.t 4) (.t 26), none⟩,
    ⟨(some 5), .mv (.t 27), none⟩])
  (.ret))),
  [(4, (some (.ag 2))), (5, none)]⟩
theorem cf_radd : compFn Try.prog { own := [], comp := [], frz := [], nils := [] } Try.f52 = some sf_radd := by kernel_rfl
theorem radd_c (G : Glob) (a b c d : Int) : Den Try.prog G 52 [.agg [.int .i64 a, .int .i64 b], .agg [.int .i64 c, .int .i64 d]] (.tup [.c (.d (spA (smsB a b c d (a + c) (b + d)) (a + c) (b + d))), .c (.d (.int .i64 (sumE a b c d (a + c) (b + d))))]) := by
  refine den_walk Try.func52 cf_radd rfl rfl ?_
  unfold smsB sumE
  cases hv : okP (a, b)
  · simp only [sf_radd, putAll, wx, wy, wz, stV, seval, IntWalk.iteOmega, IntWalk.toNatUp, reduceCtorEq]
    refine st_call (rsv_c G a b) rfl (.inl rfl) ?_
    simp only [hv, wx, wy, wz, stV, seval, IntWalk.iteOmega, IntWalk.toNatUp, reduceCtorEq]
    unfold spA
    exact ret_d2 (by simp only [wx, wy, wz, stV, seval, IntWalk.iteOmega, IntWalk.toNatUp, reduceCtorEq]) (by simp only [wx, wy, wz, stV, seval, IntWalk.iteOmega, IntWalk.toNatUp, reduceCtorEq])
  · cases hv2 : okP (c, d)
    · simp only [sf_radd, putAll, wx, wy, wz, stV, seval, IntWalk.iteOmega, IntWalk.toNatUp, reduceCtorEq]
      refine st_call (rsv_c G a b) rfl (.inl rfl) ?_
      simp only [hv, wx, wy, wz, stV, seval, IntWalk.iteOmega, IntWalk.toNatUp, reduceCtorEq]
      refine st_call (rsv_c G c d) rfl (.inl rfl) ?_
      simp only [hv2, wx, wy, wz, stV, seval, IntWalk.iteOmega, IntWalk.toNatUp, reduceCtorEq]
      unfold spA
      exact ret_d2 (by simp only [wx, wy, wz, stV, seval, IntWalk.iteOmega, IntWalk.toNatUp, reduceCtorEq]) (by simp only [wx, wy, wz, stV, seval, IntWalk.iteOmega, IntWalk.toNatUp, reduceCtorEq])
    · obtain ⟨h1, h2, h3⟩ := okP_i hv
      obtain ⟨k1, k2, k3⟩ := okP_i hv2
      have cm := rmad_c G (a + c) (b + d)
      simp only [sf_radd, putAll, wx, wy, wz, stV, seval, IntWalk.iteOmega, IntWalk.toNatUp, reduceCtorEq]
      refine st_call (rsv_c G a b) rfl (.inl rfl) ?_
      simp only [hv, wx, wy, wz, stV, seval, IntWalk.iteOmega, IntWalk.toNatUp, reduceCtorEq]
      refine st_call (rsv_c G c d) rfl (.inl rfl) ?_
      simp only [hv2, wx, wy, wz, stV, seval, IntWalk.iteOmega, IntWalk.toNatUp, reduceCtorEq]
      refine st_call (cm) rfl (.inl rfl) ?_
      simp only [spA, wx, wy, wz, stV, seval, IntWalk.iteOmega, IntWalk.toNatUp, reduceCtorEq]
      exact ret_d2 (by simp only [wx, wy, wz, stV, seval, IntWalk.iteOmega, IntWalk.toNatUp, reduceCtorEq]) (by simp only [wx, wy, wz, stV, seval, IntWalk.iteOmega, IntWalk.toNatUp, reduceCtorEq])
def sf_rsbs : SFn := ⟨2, 28,
  .seq (.reg [⟨(some 2), .box .roBox (.t 0), none⟩,
    ⟨(some 3), .box .roBox (.t 1), none⟩,
    ⟨(some 4), .alloc [(.d (.int .i64 0)), (.d (.int .i64 0))], none⟩,
    ⟨(some 5), .mv (.k (.c (.d (.int .i64 0)))), none⟩])
  (.seq (.seq (.reg [⟨(some 6), .load (.ag 2) (.t 2), none⟩,
    ⟨(some 7), .call 51 [(.t 6)] none, none⟩,
    ⟨(some 8), .un .not (.t 7), none⟩,
    ⟨(some 9), .mv (.t 8), none⟩,
    ⟨(some 10), .load (.ag 2) (.t 3), (some (9, false))⟩,
    ⟨(some 11), .call 51 [(.t 10)] none, (some (9, false))⟩,
    ⟨(some 12), .un .not (.t 11), (some (9, false))⟩,
    ⟨(some 13), .pick (.t 9) (.k (.c (.d (.bool true)))) (.t 12), none⟩])
  (.cond (.t 13) (.seq (.reg [⟨(some 14), .build [(.d (.int .i64 0)), (.d (.int .i64 0))] [], none⟩,
     ⟨none, .store (.ag 2) (.t 4) (.t 14), none⟩,
     ⟨(some 5), .mv (.k (.c (.d (.int .i64 3)))), none⟩])
   (.ret))
   (.skip)))
  (.seq (.reg [⟨(some 15), .fieldAddr 0 (.t 2), none⟩,
    ⟨(some 16), .load .sc (.t 15), none⟩,
    ⟨(some 17), .fieldAddr 1 (.t 3), none⟩,
    ⟨(some 18), .load .sc (.t 17), none⟩,
    ⟨(some 19), .bin .sub (.t 16) (.t 18), none⟩,
    ⟨(some 20), .fieldAddr 1 (.t 2), none⟩,
    ⟨(some 21), .load .sc (.t 20), none⟩,
    ⟨(some 22), .fieldAddr 0 (.t 3), none⟩,
    ⟨(some 23), .load .sc (.t 22), none⟩,
    ⟨(some 24), .bin .sub (.t 21) (.t 23), none⟩,
    ⟨(some 25), .call 82 [(.t 19), (.t 24)] none, none⟩,
    ⟨(some 26), .extract (.t 25) 0, none⟩,
    ⟨(some 27), .extract (.t 25) 1, none⟩,
    ⟨none, .store (.ag 2) (.t 4) (.t 26), none⟩,
    ⟨(some 5), .mv (.t 27), none⟩])
  (.ret))),
  [(4, (some (.ag 2))), (5, none)]⟩
theorem cf_rsbs : compFn Try.prog { own := [], comp := [], frz := [], nils := [] } Try.f54 = some sf_rsbs := by kernel_rfl
theorem rsbs_c (G : Glob) (a b c d : Int) : Den Try.prog G 54 [.agg [.int .i64 a, .int .i64 b], .agg [.int .i64 c, .int .i64 d]] (.tup [.c (.d (spA (smsB a b c d (a - d) (b - c)) (a - d) (b - c))), .c (.d (.int .i64 (sumE a b c d (a - d) (b - c))))]) := by
  refine den_walk Try.func54 cf_rsbs rfl rfl ?_
  unfold smsB sumE
  cases hv : okP (a, b)
  · simp only [sf_rsbs, putAll, wx, wy, wz, stV, seval, IntWalk.iteOmega, IntWalk.toNatUp, reduceCtorEq]
    refine st_call (rsv_c G a b) rfl (.inl rfl) ?_
    simp only [hv, wx, wy, wz, stV, seval, IntWalk.iteOmega, IntWalk.toNatUp, reduceCtorEq]
    unfold spA
    exact ret_d2 (by simp only [wx, wy, wz, stV, seval, IntWalk.iteOmega, IntWalk.toNatUp, reduceCtorEq]) (by simp only [wx, wy, wz, stV, seval, IntWalk.iteOmega, IntWalk.toNatUp, reduceCtorEq])
  · cases hv2 : okP (c, d)
    · simp only [sf_rsbs, putAll, wx, wy, wz, stV, seval, IntWalk.iteOmega, IntWalk.toNatUp, reduceCtorEq]
      refine st_call (rsv_c G a b) rfl (.inl rfl) ?_
      simp only [hv, wx, wy, wz, stV, seval, IntWalk.iteOmega, IntWalk.toNatUp, reduceCtorEq]
      refine st_call (rsv_c G c d) rfl (.inl rfl) ?_
      simp only [hv2, wx, wy, wz, stV, seval, IntWalk.iteOmega, IntWalk.toNatUp, reduceCtorEq]
      unfold spA
      exact ret_d2 (by simp only [wx, wy, wz, stV, seval, IntWalk.iteOmega, IntWalk.toNatUp, reduceCtorEq]) (by simp only [wx, wy, wz, stV, seval, IntWalk.iteOmega, IntWalk.toNatUp, reduceCtorEq])
    · obtain ⟨h1, h2, h3⟩ := okP_i hv
      obtain ⟨k1, k2, k3⟩ := okP_i hv2
      have cm := rmad_c G (a - d) (b - c)
      simp only [sf_rsbs, putAll, wx, wy, wz, stV, seval, IntWalk.iteOmega, IntWalk.toNatUp, reduceCtorEq]
      refine st_call (rsv_c G a b) rfl (.inl rfl) ?_
      simp only [hv, wx, wy, wz, stV, seval, IntWalk.iteOmega, IntWalk.toNatUp, reduceCtorEq]
      refine st_call (rsv_c G c d) rfl (.inl rfl) ?_
      simp only [hv2, wx, wy, wz, stV, seval, IntWalk.iteOmega, IntWalk.toNatUp, reduceCtorEq]
      refine st_call (cm) rfl (.inl rfl) ?_
      simp only [spA, wx, wy, wz, stV, seval, IntWalk.iteOmega, IntWalk.toNatUp, reduceCtorEq]
      exact ret_d2 (by simp only [wx, wy, wz, stV, seval, IntWalk.iteOmega, IntWalk.toNatUp, reduceCtorEq]) (by simp only [wx, wy, wz, stV, seval, IntWalk.iteOmega, IntWalk.toNatUp, reduceCtorEq])
def shfB (a b d : Int) : Bool := okP (a, b) && valT d && okP (a + d, b + d)
def shfE (a b d : Int) : Int := if okP (a, b) = true then (if (valT d && okP (a + d, b + d)) = true then 0 else 4) else 3
def groK (x y : Int) : Bool := decide (0 ≤ x ∧ x ≤ 1152921504606846976 ∧ 0 ≤ y ∧ y ≤ 1152921504606846976)
def groB (a b x y : Int) : Bool := okP (a, b) && groK x y && okP (a - x, b + y)
def groE (a b x y : Int) : Int := if okP (a, b) = true then (if (groK x y && okP (a - x, b + y)) = true then 0 else 4) else 3
end Go.Proofs.Ytjebhdadegfbdaa
