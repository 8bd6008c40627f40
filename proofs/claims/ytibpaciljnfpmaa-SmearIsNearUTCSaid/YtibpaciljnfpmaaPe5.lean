/- Layer 13 on data: the reference. Own work. -/
import Derived.Test.YtibpaciljnfpmaaPe4
import Derived.Test.YtibpaciljnfpmaaPl6
import Derived.Test.YtibpaciljnfpmaaPb0
set_option linter.unusedVariables false
set_option linter.unusedSimpArgs false
namespace Go.Proofs.Ytibpaciljnfpmaa
open Go.RowKit

def sf_rold : SFn := ⟨2, 16,
  .seq (.reg [⟨(some 2), .box .roBox (.t 0), none⟩,
    ⟨(some 4), .mv (.k (.c (.d (.int .i64 0)))), none⟩])
  (.seq (.seq (.reg [⟨(some 5), .mv (.t 1), none⟩,
    ⟨(some 6), .bin .eql (.t 5) (.k (.c (.d (.int .i64 0)))), none⟩])
  (.cond (.t 6) (.seq (.reg [⟨(some 7), .fieldAddr 0 (.t 2), none⟩,
     ⟨(some 8), .load .sc (.t 7), none⟩,
     ⟨(some 4), .mv (.t 8), none⟩])
   (.ret))
   (.skip)))
  (.seq (.reg [⟨(some 9), .fieldAddr 1 (.t 2), none⟩,
    ⟨(some 10), .load .sc (.t 9), none⟩,
    ⟨(some 11), .mv (.t 1), none⟩,
    ⟨(some 12), .bin .sub (.t 11) (.k (.c (.d (.int .i64 1)))), none⟩,
    ⟨(some 13), .idxSl 2 (.t 10) (.t 12), none⟩,
    ⟨(some 14), .fieldAddr 1 (.t 13), none⟩,
    ⟨(some 15), .load .sc (.t 14), none⟩,
    ⟨(some 4), .mv (.t 15), none⟩])
  (.ret))),
  [(4, none)]⟩
theorem cf_rold : compFn Try.prog { own := [], comp := [], frz := [], nils := [] } Try.f35 = some sf_rold := by kernel_rfl
theorem rold_c (G : Glob) (f : Int) (l : List Lp) (i : Nat) (hl : l.length ≤ 9223372036854775807) (hi : i ≤ l.length) : Den Try.prog G 35 [lpD f l, .int .i64 (i : Int)] (.w (.c (.d (.int .i64 (lastO f l i))))) := by
  refine den_walk Try.func35 cf_rold rfl rfl ?_
  unfold lpD
  rcases i with _ | j
  · have e2 : lastO f l 0 = f := rfl
    rw [e2]
    simp only [sf_rold, putAll, wx, wy, wz, stV, seval, IntWalk.iteOmega, IntWalk.toNatUp, reduceCtorEq]
    exact ret_d1 (by simp only [wx, wy, wz, stV, seval, IntWalk.iteOmega, IntWalk.toNatUp, reduceCtorEq])
  · have gp := lpG_get (l := l) (i := j) (by omega)
    have e2 : lastO f l (j + 1) = (lpG l j).2 := rfl
    have p0 : ¬ ((j : Int) + 1 = 0) := by omega
    rw [e2]
    generalize lpG l j = Y at *
    obtain ⟨B, O'⟩ := Y
    simp only [sf_rold, putAll, wx, wy, wz, stV, seval, IntWalk.iteOmega, IntWalk.toNatUp, reduceCtorEq, get_map, gp, spD, p0, suc_subE]
    exact ret_d1 (by simp only [wx, wy, wz, stV, seval, IntWalk.iteOmega, IntWalk.toNatUp, reduceCtorEq])
def sf_rwn : SFn := ⟨2, 43,
  .seq (.reg [⟨(some 2), .box .roBox (.t 0), none⟩,
    ⟨(some 4), .alloc [(.d (.int .i64 0)), (.d (.int .i64 0))], none⟩,
    ⟨(some 5), .alloc [(.d (.int .i64 0)), (.d (.int .i64 0))], none⟩])
  (.seq (.reg [⟨(some 8), .fieldAddr 1 (.t 2), none⟩,
    ⟨(some 9), .load .sc (.t 8), none⟩,
    ⟨(some 10), .mv (.t 1), none⟩,
    ⟨(some 11), .idxSl 2 (.t 9) (.t 10), none⟩,
    ⟨(some 12), .fieldAddr 0 (.t 11), none⟩,
    ⟨(some 13), .load .sc (.t 12), none⟩,
    ⟨(some 14), .bin .sub (.t 13) (.k (.c (.d (.int .i64 43200)))), none⟩,
    ⟨(some 15), .fieldAddr 1 (.t 2), none⟩,
    ⟨(some 16), .load .sc (.t 15), none⟩,
    ⟨(some 17), .mv (.t 1), none⟩,
    ⟨(some 18), .idxSl 2 (.t 16) (.t 17), none⟩,
    ⟨(some 19), .fieldAddr 0 (.t 18), none⟩,
    ⟨(some 20), .load .sc (.t 19), none⟩,
    ⟨(some 21), .bin .add (.t 20) (.k (.c (.d (.int .i64 43200)))), none⟩,
    ⟨(some 6), .mv (.t 14), none⟩,
    ⟨(some 7), .mv (.t 21), none⟩])
  (.seq (.reg [⟨(some 22), .mv (.t 6), none⟩,
    ⟨(some 23), .bin .shl (.t 22) (.k (.c (.d (.int .u64 20)))), none⟩,
    ⟨(some 24), .mv (.t 7), none⟩,
    ⟨(some 25), .bin .shl (.t 24) (.k (.c (.d (.int .u64 20)))), none⟩,
    ⟨(some 26), .build [(.d (.int .i64 0)), (.d (.int .i64 0))] [(0, 1, (.t 23)), (1, 1, (.t 25))], none⟩,
    ⟨(some 27), .mv (.t 6), none⟩,
    ⟨(some 28), .loadX (.ag 2) (.t 2) [], none⟩,
    ⟨(some 29), .mv (.t 1), none⟩,
    ⟨(some 30), .call 35 [(.t 28), (.t 29)] none, none⟩,
    ⟨(some 31), .bin .add (.t 27) (.t 30), none⟩,
    ⟨(some 32), .bin .shl (.t 31) (.k (.c (.d (.int .u64 20)))), none⟩,
    ⟨(some 33), .mv (.t 7), none⟩,
    ⟨(some 34), .fieldAddr 1 (.t 2), none⟩,
    ⟨(some 35), .loadX .sc (.t 34) [], none⟩,
    ⟨(some 36), .mv (.t 1), none⟩,
    ⟨(some 37), .idxSl 2 (.t 35) (.t 36), none⟩,
    ⟨(some 38), .fieldAddr 1 (.t 37), none⟩,
    ⟨(some 39), .loadX .sc (.t 38) [], none⟩,
    ⟨(some 40), .bin .add (.t 33) (.t 39), none⟩,
    ⟨(some 41), .bin .shl (.t 40) (.k (.c (.d (.int .u64 20)))), none⟩,
    ⟨(some 42), .build [(.d (.int .i64 0)), (.d (.int .i64 0))] [(0, 1, (.t 32)), (1, 1, (.t 41))], none⟩,
    ⟨none, .store (.ag 2) (.t 4) (.t 26), none⟩,
    ⟨none, .store (.ag 2) (.t 5) (.t 42), none⟩])
  (.ret))),
  [(4, (some (.ag 2))), (5, (some (.ag 2)))]⟩
theorem cf_rwn : compFn Try.prog { own := [], comp := [], frz := [], nils := [], lx := [(28, []), (35, []), (39, [])] } Try.f24 = some sf_rwn := by kernel_rfl
theorem rwn_c (G : Glob) (f : Int) (l : List Lp) (i : Nat) (hl : l.length ≤ 9223372036854775807) (hi : i < l.length) (h : okB f l = true) : Den Try.prog G 24 [lpD f l, .int .i64 (i : Int)] (wnV f l i) := by
  refine den_walk Try.func24 cf_rwn rfl rfl ?_
  have g := lpG_get hi
  have b := ok_el h hi
  have c1 := rold_c G f l i hl (by omega)
  unfold wnV spV frA frB winA winB
  unfold lpD at c1 ⊢
  generalize lastO f l i = L at *
  generalize lpG l i = X at *
  obtain ⟨A, O⟩ := X
  simp only at b ⊢
  simp only [sf_rwn, putAll, wx, wy, wz, stV, seval, IntWalk.iteOmega, IntWalk.toNatUp, reduceCtorEq, get_map, g, spD, bI64]
  refine st_call (c1) rfl (.inl rfl) ?_
  simp only [get_map, g, spD, bI64, wx, wy, wz, stV, seval, IntWalk.iteOmega, IntWalk.toNatUp, reduceCtorEq]
  exact ret_d2 (by simp only [wx, wy, wz, stV, seval, IntWalk.iteOmega, IntWalk.toNatUp, reduceCtorEq]) (by simp only [wx, wy, wz, stV, seval, IntWalk.iteOmega, IntWalk.toNatUp, reduceCtorEq])
def sf_rwin : SFn := ⟨2, 33,
  .seq (.reg [⟨(some 2), .box .roBox (.t 0), none⟩,
    ⟨(some 4), .alloc [(.d (.int .i64 0)), (.d (.int .i64 0))], none⟩,
    ⟨(some 5), .alloc [(.d (.int .i64 0)), (.d (.int .i64 0))], none⟩,
    ⟨(some 6), .mv (.k (.c (.d (.int .i64 0)))), none⟩])
  (.seq (.seq (.reg [⟨(some 9), .load (.ag 2) (.t 2), none⟩,
    ⟨(some 10), .call 21 [(.t 9)] none, none⟩,
    ⟨(some 11), .un .not (.t 10), none⟩])
  (.cond (.t 11) (.seq (.reg [⟨(some 12), .build [(.d (.int .i64 0)), (.d (.int .i64 0))] [], none⟩,
     ⟨(some 13), .build [(.d (.int .i64 0)), (.d (.int .i64 0))] [], none⟩,
     ⟨none, .store (.ag 2) (.t 4) (.t 12), none⟩,
     ⟨none, .store (.ag 2) (.t 5) (.t 13), none⟩,
     ⟨(some 6), .mv (.k (.c (.d (.int .i64 3)))), none⟩])
   (.ret))
   (.skip)))
  (.seq (.seq (.reg [⟨(some 14), .mv (.t 1), none⟩,
    ⟨(some 15), .bin .lss (.t 14) (.k (.c (.d (.int .i64 0)))), none⟩,
    ⟨(some 16), .mv (.t 15), none⟩,
    ⟨(some 17), .mv (.t 1), (some (16, false))⟩,
    ⟨(some 18), .fieldAddr 1 (.t 2), (some (16, false))⟩,
    ⟨(some 19), .load .sc (.t 18), (some (16, false))⟩,
    ⟨(some 20), .len (.t 19), (some (16, false))⟩,
    ⟨(some 21), .bin .geq (.t 17) (.t 20), (some (16, false))⟩,
    ⟨(some 22), .pick (.t 16) (.k (.c (.d (.bool true)))) (.t 21), none⟩])
  (.cond (.t 22) (.seq (.reg [⟨(some 23), .build [(.d (.int .i64 0)), (.d (.int .i64 0))] [], none⟩,
     ⟨(some 24), .build [(.d (.int .i64 0)), (.d (.int .i64 0))] [], none⟩,
     ⟨none, .store (.ag 2) (.t 4) (.t 23), none⟩,
     ⟨none, .store (.ag 2) (.t 5) (.t 24), none⟩,
     ⟨(some 6), .mv (.k (.c (.d (.int .i64 4)))), none⟩])
   (.ret))
   (.skip)))
  (.seq (.reg [⟨(some 26), .load (.ag 2) (.t 2), none⟩,
    ⟨(some 27), .mv (.t 1), none⟩,
    ⟨(some 28), .call 24 [(.t 26), (.t 27)] none, none⟩,
    ⟨(some 25), .mv (.t 28), none⟩,
    ⟨(some 29), .extract (.t 25) 0, none⟩,
    ⟨(some 30), .extract (.t 25) 1, none⟩,
    ⟨(some 7), .alloc [(.d (.int .i64 0)), (.d (.int .i64 0))], none⟩,
    ⟨(some 8), .alloc [(.d (.int .i64 0)), (.d (.int .i64 0))], none⟩,
    ⟨none, .store (.ag 2) (.t 7) (.t 29), none⟩,
    ⟨none, .store (.ag 2) (.t 8) (.t 30), none⟩])
  (.seq (.reg [⟨(some 31), .loadX (.ag 2) (.t 7) [(.t 4), (.t 5)], none⟩,
    ⟨(some 32), .loadX (.ag 2) (.t 8) [(.t 4), (.t 5)], none⟩,
    ⟨none, .store (.ag 2) (.t 4) (.t 31), none⟩,
    ⟨none, .store (.ag 2) (.t 5) (.t 32), none⟩,
    ⟨(some 6), .mv (.k (.c (.d (.int .i64 0)))), none⟩])
  (.ret))))),
  [(4, (some (.ag 2))), (5, (some (.ag 2))), (6, none)]⟩
theorem cf_rwin : compFn Try.prog { own := [], comp := [], frz := [], nils := [], lx := [(31, [4, 5]), (32, [4, 5])] } Try.f10 = some sf_rwin := by kernel_rfl
theorem rwin_c (G : Glob) (f : Int) (l : List Lp) (i : Int) (hl : l.length ≤ 9223372036854775807) : Den Try.prog G 10 [lpD f l, .int .i64 i] (.tup [.c (.d (spV (wdwV f l i (frA (lpG l i.toNat))) (wdwV f l i (frB (lpG l i.toNat))))), .c (.d (spV (wdwV f l i (winA (lastO f l i.toNat) (lpG l i.toNat))) (wdwV f l i (winB (lpG l i.toNat))))), .c (.d (.int .i64 (wdwE f l i)))]) := by
  refine den_walk Try.func10 cf_rwin rfl rfl ?_
  have c1 := rlv_c G f l hl
  unfold spV wdwV wdwB wdwE
  unfold lpD at c1 ⊢
  cases h1 : okB f l
  · rw [h1] at c1
    simp only [sf_rwin, putAll, wx, wy, wz, stV, seval, IntWalk.iteOmega, IntWalk.toNatUp, reduceCtorEq]
    refine st_call (c1) rfl (.inl rfl) ?_
    simp only [wx, wy, wz, stV, seval, IntWalk.iteOmega, IntWalk.toNatUp, reduceCtorEq]
    exact ret_d3 (by simp only [wx, wy, wz, stV, seval, IntWalk.iteOmega, IntWalk.toNatUp, reduceCtorEq, Bool.false_eq_true]) (by simp only [wx, wy, wz, stV, seval, IntWalk.iteOmega, IntWalk.toNatUp, reduceCtorEq, Bool.false_eq_true]) (by simp only [wx, wy, wz, stV, seval, IntWalk.iteOmega, IntWalk.toNatUp, reduceCtorEq])
  · rw [h1] at c1
    by_cases k : 0 ≤ i ∧ i < (l.length : Int)
    · rw [decide_eq_true k, if_pos k]
      obtain ⟨j, rfl⟩ := Int.eq_ofNat_of_zero_le k.1
      have c2 := rwn_c G f l j hl (by omega) h1
      unfold lpD wnV spV at c2
      rw [Int.toNat_natCast]
      generalize frA (lpG l j) = a at *
      generalize frB (lpG l j) = b at *
      generalize winA (lastO f l j) (lpG l j) = A at *
      generalize winB (lpG l j) = B at *
      have k1 : ((j : Int) < 0) = False := eq_false (by omega)
      have k2 : ((j : Int) ≥ (l.length : Int)) = False := eq_false (by omega)
      simp only [sf_rwin, putAll, wx, wy, wz, stV, seval, IntWalk.iteOmega, IntWalk.toNatUp, reduceCtorEq]
      refine st_call (c1) rfl (.inl rfl) ?_
      simp only [k1, k2, wx, wy, wz, stV, seval, IntWalk.iteOmega, IntWalk.toNatUp, reduceCtorEq]
      refine st_call (c2) rfl (.inl rfl) ?_
      simp only [wx, wy, wz, stV, seval, IntWalk.iteOmega, IntWalk.toNatUp, reduceCtorEq]
      exact ret_d3 (by simp only [wx, wy, wz, stV, seval, IntWalk.iteOmega, IntWalk.toNatUp, reduceCtorEq]) (by simp only [wx, wy, wz, stV, seval, IntWalk.iteOmega, IntWalk.toNatUp, reduceCtorEq]) (by simp only [wx, wy, wz, stV, seval, IntWalk.iteOmega, IntWalk.toNatUp, reduceCtorEq])
    · rw [decide_eq_false k, if_neg k]
      by_cases k1 : i < 0
      · simp only [sf_rwin, putAll, wx, wy, wz, stV, seval, IntWalk.iteOmega, IntWalk.toNatUp, reduceCtorEq]
        refine st_call (c1) rfl (.inl rfl) ?_
        simp only [wx, wy, wz, stV, seval, IntWalk.iteOmega, IntWalk.toNatUp, reduceCtorEq]
        exact ret_d3 (by simp only [wx, wy, wz, stV, seval, IntWalk.iteOmega, IntWalk.toNatUp, reduceCtorEq, Bool.false_eq_true]) (by simp only [wx, wy, wz, stV, seval, IntWalk.iteOmega, IntWalk.toNatUp, reduceCtorEq, Bool.false_eq_true]) (by simp only [wx, wy, wz, stV, seval, IntWalk.iteOmega, IntWalk.toNatUp, reduceCtorEq])
      · have k2 : (i ≥ (l.length : Int)) = True := eq_true (by omega)
        simp only [sf_rwin, putAll, wx, wy, wz, stV, seval, IntWalk.iteOmega, IntWalk.toNatUp, reduceCtorEq]
        refine st_call (c1) rfl (.inl rfl) ?_
        simp only [k2, wx, wy, wz, stV, seval, IntWalk.iteOmega, IntWalk.toNatUp, reduceCtorEq]
        exact ret_d3 (by simp only [wx, wy, wz, stV, seval, IntWalk.iteOmega, IntWalk.toNatUp, reduceCtorEq, Bool.false_eq_true]) (by simp only [wx, wy, wz, stV, seval, IntWalk.iteOmega, IntWalk.toNatUp, reduceCtorEq, Bool.false_eq_true]) (by simp only [wx, wy, wz, stV, seval, IntWalk.iteOmega, IntWalk.toNatUp, reduceCtorEq])
/-! ### What the clock shows, from the first element on -/
/-- The offset of the last window that has ended. -/
def woN (f : Int) (l : List Lp) (t : Int) : Nat → Int
  | 0 => f
  | i + 1 => if winB (lpG l i) ≤ t then (lpG l i).2 else woN f l t i
theorem woN_s (f : Int) (l : List Lp) (t : Int) (i : Nat) : woN f l t (i + 1) = if winB (lpG l i) ≤ t then (lpG l i).2 else woN f l t i := rfl
theorem woN_in {f : Int} {l : List Lp} (h : okB f l = true) (t : Int) : ∀ i, i ≤ l.length → -64 ≤ woN f l t i ∧ woN f l t i ≤ 164
  | 0, _ => by have := (okB_iff.1 h).1; show -64 ≤ f ∧ f ≤ 164; omega
  | i + 1, hi => by
    have ih := woN_in h t i (by omega)
    have b := ok_el h (i := i) (by omega)
    rw [woN_s]; split <;> omega
def rsI (f : Int) (l : List Lp) (t : Int) (i : Nat) : Prop :=
  (woN f l t i = lastO f l i ∧ ∀ j, j + 1 = i → winB (lpG l j) ≤ t) ∨ (smN f l t = t - woN f l t i * 1048576 ∧ (i < l.length → t < winA (lastO f l i) (lpG l i)))
theorem rsI_0 (f : Int) (l : List Lp) (t : Int) : rsI f l t 0 := .inl ⟨rfl, fun j hj => by omega⟩
theorem rsI_s {f : Int} {l : List Lp} (h : okB f l = true) {t : Int} {i : Nat} (hi : i < l.length) (hI : rsI f l t i) (hn : ¬ (winA (lastO f l i) (lpG l i) ≤ t ∧ t < winB (lpG l i))) : rsI f l t (i + 1) := by
  have wi := win_nums h hi
  have nx : i + 1 < l.length → t < winA (lastO f l i) (lpG l i) → t < winA (lastO f l (i + 1)) (lpG l (i + 1)) := fun hlt ht => by
    have := win_next (okB_leap h) hlt
    show t < winA (lpG l i).2 (lpG l (i + 1))
    omega
  by_cases c : winB (lpG l i) ≤ t
  · left
    refine ⟨?_, fun j hj => ?_⟩
    · rw [woN_s, if_pos c]; rfl
    · obtain rfl : j = i := by omega
      exact c
  · have ht : t < winA (lastO f l i) (lpG l i) := by omega
    right
    rw [woN_s, if_neg c]
    refine ⟨?_, fun hlt => nx hlt ht⟩
    rcases hI with ⟨h1, h2⟩ | ⟨h1, h2⟩
    · rw [h1]
      rcases i with _ | m
      · exact sm_at3 fun _ => ht
      · exact sm_at1 (okB_leap h) (i := m) (by omega) (h2 m rfl) fun _ => ht
    · exact h1
theorem rsI_end {f : Int} {l : List Lp} (h : okB f l = true) {t : Int} {i : Nat} (hi : i = l.length) (hI : rsI f l t i) : smN f l t = t - woN f l t i * 1048576 := by
  rcases hI with ⟨h1, h2⟩ | ⟨h1, h2⟩
  · rw [h1]
    rcases i with _ | m
    · exact sm_at3 fun h0 => by omega
    · exact sm_at1 (okB_leap h) (i := m) (by omega) (h2 m rfl) fun h0 => by omega
  · exact h1
def rsSt (f : Int) (l : List Lp) (t : Int) (i : Nat) : St := ⟨ofL [(1, .w (.c (.d (.int .i64 t)))), (2, .w (.c (.rp [.int .i64 f, .sl (l.map spD)]))), (5, .w (.c (.d (.int .i64 (woN f l t i))))), (6, .w (.c (.d (.int .i64 (i : Int)))))], hL [], uL []⟩
def lp_rsme_0 : SCode :=
  .seq (.seq (.reg [⟨(some 11), .mv (.t 6), none⟩,
    ⟨(some 12), .fieldAddr 1 (.t 2), none⟩,
    ⟨(some 13), .load .sc (.t 12), none⟩,
    ⟨(some 14), .len (.t 13), none⟩,
    ⟨(some 15), .bin .lss (.t 11) (.t 14), none⟩])
  (.cond (.t 15) (.skip)
   (.exit 0)))
  (.seq (.block 1 (.seq (.reg [⟨(some 19), .load (.ag 2) (.t 2), none⟩,
     ⟨(some 20), .mv (.t 6), none⟩,
     ⟨(some 21), .call 24 [(.t 19), (.t 20)] none, none⟩,
     ⟨(some 18), .mv (.t 21), none⟩,
     ⟨(some 22), .extract (.t 18) 0, none⟩,
     ⟨(some 23), .extract (.t 18) 1, none⟩,
     ⟨(some 7), .alloc [(.d (.int .i64 0)), (.d (.int .i64 0))], none⟩,
     ⟨(some 8), .alloc [(.d (.int .i64 0)), (.d (.int .i64 0))], none⟩,
     ⟨none, .store (.ag 2) (.t 7) (.t 22), none⟩,
     ⟨none, .store (.ag 2) (.t 8) (.t 23), none⟩])
   (.seq (.seq (.reg [⟨(some 24), .fieldAddr 0 (.t 8), none⟩,
     ⟨(some 25), .load .sc (.t 24), none⟩,
     ⟨(some 26), .mv (.t 1), none⟩,
     ⟨(some 27), .bin .leq (.t 25) (.t 26), none⟩,
     ⟨(some 28), .mv (.t 27), none⟩,
     ⟨(some 29), .mv (.t 1), (some (28, true))⟩,
     ⟨(some 30), .fieldAddr 1 (.t 8), (some (28, true))⟩,
     ⟨(some 31), .load .sc (.t 30), (some (28, true))⟩,
     ⟨(some 32), .bin .lss (.t 29) (.t 31), (some (28, true))⟩,
     ⟨(some 33), .pick (.t 28) (.t 32) (.k (.c (.d (.bool false)))), none⟩])
   (.cond (.t 33) (.seq (.reg [⟨(some 34), .fieldAddr 0 (.t 7), none⟩,
      ⟨(some 35), .load .sc (.t 34), none⟩,
      ⟨(some 36), .mv (.t 1), none⟩,
      ⟨(some 37), .fieldAddr 0 (.t 8), none⟩,
      ⟨(some 38), .load .sc (.t 37), none⟩,
      ⟨(some 39), .bin .sub (.t 36) (.t 38), none⟩,
      ⟨(some 40), .bin .mul (.t 39) (.k (.c (.d (.int .i64 86400)))), none⟩,
      ⟨(some 41), .fieldAddr 1 (.t 2), none⟩,
      ⟨(some 42), .load .sc (.t 41), none⟩,
      ⟨(some 43), .mv (.t 6), none⟩,
      ⟨(some 44), .idxSl 2 (.t 42) (.t 43), none⟩,
      ⟨(some 45), .fieldAddr 1 (.t 44), none⟩,
      ⟨(some 46), .load .sc (.t 45), none⟩,
      ⟨(some 47), .bin .add (.k (.c (.d (.int .i64 86400)))) (.t 46), none⟩,
      ⟨(some 48), .load (.ag 2) (.t 2), none⟩,
      ⟨(some 49), .mv (.t 6), none⟩,
      ⟨(some 50), .call 35 [(.t 48), (.t 49)] none, none⟩,
      ⟨(some 51), .bin .sub (.t 47) (.t 50), none⟩,
      ⟨(some 52), .call 39 [(.t 40), (.t 51), (.k (.c (.d (.bool false))))] none, none⟩,
      ⟨(some 53), .bin .add (.t 35) (.t 52), none⟩,
      ⟨(some 4), .mv (.t 53), none⟩])
    (.ret))
    (.skip)))
   (.seq (.reg [⟨(some 54), .fieldAddr 1 (.t 8), none⟩,
     ⟨(some 55), .load .sc (.t 54), none⟩,
     ⟨(some 56), .mv (.t 1), none⟩,
     ⟨(some 57), .bin .leq (.t 55) (.t 56), none⟩])
   (.cond (.t 57) (.reg [⟨(some 58), .fieldAddr 1 (.t 2), none⟩,
      ⟨(some 59), .load .sc (.t 58), none⟩,
      ⟨(some 60), .mv (.t 6), none⟩,
      ⟨(some 61), .idxSl 2 (.t 59) (.t 60), none⟩,
      ⟨(some 62), .fieldAddr 1 (.t 61), none⟩,
      ⟨(some 63), .load .sc (.t 62), none⟩,
      ⟨(some 5), .mv (.t 63), none⟩])
    (.skip))))))
  (.reg [⟨(some 16), .mv (.t 6), none⟩,
    ⟨(some 17), .bin .add (.t 16) (.k (.c (.d (.int .i64 1)))), none⟩,
    ⟨(some 6), .mv (.t 17), none⟩]))
def sf_rsme : SFn := ⟨2, 68,
  .seq (.reg [⟨(some 2), .box .roBox (.t 0), none⟩,
    ⟨(some 4), .mv (.k (.c (.d (.int .i64 0)))), none⟩])
  (.seq (.reg [⟨(some 9), .fieldAddr 0 (.t 2), none⟩,
    ⟨(some 10), .load .sc (.t 9), none⟩,
    ⟨(some 5), .mv (.t 10), none⟩])
  (.seq (.seq (.reg [⟨(some 6), .mv (.k (.c (.d (.int .i64 0)))), none⟩])
  (.block 0 (.loop lp_rsme_0)))
  (.seq (.reg [⟨(some 64), .mv (.t 1), none⟩,
    ⟨(some 65), .mv (.t 5), none⟩,
    ⟨(some 66), .bin .shl (.t 65) (.k (.c (.d (.int .u64 20)))), none⟩,
    ⟨(some 67), .bin .sub (.t 64) (.t 66), none⟩,
    ⟨(some 4), .mv (.t 67), none⟩])
  (.ret)))),
  [(4, none)]⟩
theorem cf_rsme : compFn Try.prog { own := [], comp := [], frz := [], nils := [] } Try.f26 = some sf_rsme := by kernel_rfl
set_option maxHeartbeats 1600000 in
theorem rsme_c (G : Glob) (f : Int) (l : List Lp) (t : Int) (hl : l.length ≤ 9223372036854775807) (h : okB f l = true) (h1 : -1152921504606846976 ≤ t) (h2 : t ≤ 1152921504606846976) : Den Try.prog G 26 [lpD f l, .int .i64 t] (.w (.c (.d (.int .i64 (smN f l t))))) := by
  refine den_walk Try.func26 cf_rsme rfl rfl ?_
  unfold lpD
  simp only [sf_rsme, putAll, wx, wy, wz, stV, seval, IntWalk.iteOmega, IntWalk.toNatUp, reduceCtorEq]
  refine loop_st (rsSt f l t) (fun i => l.length - i) (fun i => i ≤ l.length ∧ rsI f l t i) 0 ⟨Nat.zero_le _, rsI_0 f l t⟩ ?_ ?_
  · have e2 : woN f l t 0 = f := rfl
    refine ent_l (fun i => i) ?_ ?_ rfl rfl <;> simp only [wx, wex, wez, stV, seval, IntWalk.iteOmega, IntWalk.toNatUp, reduceCtorEq, e2]
  · rintro i ⟨hi, hI⟩
    have wb := woN_in h t i hi
    by_cases hlt : i < l.length
    · have g := lpG_get hlt
      obtain ⟨n1, n2, n3, n4, n5, n6, n7, n8⟩ := win_nums h hlt
      have w2 := sm_at2 (okB_leap h) (t := t) hlt
      have ns := rsI_s h hlt hI
      have ws := woN_s f l t i
      have cw := rwn_c G f l i hl hlt h
      have co := rold_c G f l i hl (by omega)
      have ez : spD (lpG l i) = .agg [.int .i64 (lpG l i).1, .int .i64 (lpG l i).2] := rfl
      unfold lpD wnV spV at cw
      unfold lpD at co
      generalize smN f l t = R at *
      generalize frA (lpG l i) = a at *
      generalize frB (lpG l i) = b at *
      generalize winA (lastO f l i) (lpG l i) = A at *
      generalize winB (lpG l i) = B at *
      generalize lastO f l i = o at *
      generalize lpG l i = X at *
      obtain ⟨p, q⟩ := X
      simp only at n1 n2 n3 n4 n5 n6 n7 n8 w2 ez ws
      by_cases c1 : A ≤ t
      · by_cases c2 : t < B
        · have wr := w2 c1 c2
          have cq := rquo_c G ((t - A) * 86400) (86400 + q - o) false (by omega) (by omega) (by omega)
          rw [round_false] at cq
          have wb2 : 0 ≤ (t - A) * 86400 / (86400 + q - o) ∧ (t - A) * 86400 / (86400 + q - o) ≤ 90596966400 := by
            rcases n8 with e | e <;> subst e
            · rw [show 86400 + (o + 1) - o = 86401 by omega]; omega
            · rw [show 86400 + (o - 1) - o = 86399 by omega]; omega
          rw [wr]
          generalize (t - A) * 86400 / (86400 + q - o) = Z at *
          simp only [lp_rsme_0, rsSt, wx, wy, wz, stV, seval, IntWalk.iteOmega, IntWalk.toNatUp, reduceCtorEq]
          refine st_call (cw) rfl (.inl rfl) ?_
          simp only [eq_true c1, eq_true c2, get_map, g, ez, wx, wy, wz, stV, seval, IntWalk.iteOmega, IntWalk.toNatUp, reduceCtorEq]
          refine st_call (co) rfl (.inl rfl) ?_
          simp only [wx, wy, wz, stV, seval, IntWalk.iteOmega, IntWalk.toNatUp, reduceCtorEq]
          refine st_call (cq) rfl (.inl rfl) ?_
          simp only [wx, wy, wz, stV, seval, IntWalk.iteOmega, IntWalk.toNatUp, reduceCtorEq]
          exact ret_d1 (by simp only [wx, wy, wz, stV, seval, IntWalk.iteOmega, IntWalk.toNatUp, reduceCtorEq])
        · have hn := ns (by omega)
          rw [if_pos (by omega)] at ws
          have c3 : B ≤ t := by omega
          simp only [lp_rsme_0, rsSt, wx, wy, wz, stV, seval, IntWalk.iteOmega, IntWalk.toNatUp, reduceCtorEq]
          refine st_call (cw) rfl (.inl rfl) ?_
          simp only [eq_true c1, eq_false c2, eq_true c3, get_map, g, ez, wx, wy, wz, stV, seval, IntWalk.iteOmega, IntWalk.toNatUp, reduceCtorEq]
          refine lop_next (i + 1) (by omega) ⟨by omega, hn⟩ (ent_l (fun i => i) ?_ ?_ rfl rfl) <;> simp only [wx, wex, wez, stV, seval, IntWalk.iteOmega, IntWalk.toNatUp, reduceCtorEq, ws]
      · have hn := ns (by omega)
        have c3 : ¬ B ≤ t := by omega
        rw [if_neg c3] at ws
        simp only [lp_rsme_0, rsSt, wx, wy, wz, stV, seval, IntWalk.iteOmega, IntWalk.toNatUp, reduceCtorEq]
        refine st_call (cw) rfl (.inl rfl) ?_
        simp only [eq_false c1, eq_false c3, wx, wy, wz, stV, seval, IntWalk.iteOmega, IntWalk.toNatUp, reduceCtorEq]
        refine lop_next (i + 1) (by omega) ⟨by omega, hn⟩ (ent_l (fun i => i) ?_ ?_ rfl rfl) <;> simp only [wx, wex, wez, stV, seval, IntWalk.iteOmega, IntWalk.toNatUp, reduceCtorEq, ws]
    · rw [rsI_end h (by omega) hI]
      obtain ⟨W, hW⟩ : ∃ W, woN f l t i = W := ⟨_, rfl⟩
      rw [hW] at wb ⊢
      simp only [lp_rsme_0, rsSt, wx, wy, wz, stV, seval, IntWalk.iteOmega, IntWalk.toNatUp, reduceCtorEq, bI64, hW]
      exact ret_d1 (by simp only [wx, wy, wz, stV, seval, IntWalk.iteOmega, IntWalk.toNatUp, reduceCtorEq])
def sf_resme : SFn := ⟨2, 18,
  .seq (.reg [⟨(some 2), .box .roBox (.t 0), none⟩,
    ⟨(some 4), .mv (.k (.c (.d (.int .i64 0)))), none⟩,
    ⟨(some 5), .mv (.k (.c (.d (.int .i64 0)))), none⟩])
  (.seq (.seq (.reg [⟨(some 6), .load (.ag 2) (.t 2), none⟩,
    ⟨(some 7), .call 21 [(.t 6)] none, none⟩,
    ⟨(some 8), .un .not (.t 7), none⟩])
  (.cond (.t 8) (.seq (.reg [⟨(some 4), .mv (.k (.c (.d (.int .i64 0)))), none⟩,
     ⟨(some 5), .mv (.k (.c (.d (.int .i64 3)))), none⟩])
   (.ret))
   (.skip)))
  (.seq (.seq (.reg [⟨(some 9), .mv (.t 1), none⟩,
    ⟨(some 10), .bin .lss (.t 9) (.k (.c (.d (.int .i64 134217728)))), none⟩,
    ⟨(some 11), .mv (.t 10), none⟩,
    ⟨(some 12), .mv (.t 1), (some (11, false))⟩,
    ⟨(some 13), .bin .gtr (.t 12) (.k (.c (.d (.int .i64 288230376151711744)))), (some (11, false))⟩,
    ⟨(some 14), .pick (.t 11) (.k (.c (.d (.bool true)))) (.t 13), none⟩])
  (.cond (.t 14) (.seq (.reg [⟨(some 4), .mv (.k (.c (.d (.int .i64 0)))), none⟩,
     ⟨(some 5), .mv (.k (.c (.d (.int .i64 4)))), none⟩])
   (.ret))
   (.skip)))
  (.seq (.reg [⟨(some 15), .load (.ag 2) (.t 2), none⟩,
    ⟨(some 16), .mv (.t 1), none⟩,
    ⟨(some 17), .call 26 [(.t 15), (.t 16)] none, none⟩,
    ⟨(some 4), .mv (.t 17), none⟩,
    ⟨(some 5), .mv (.k (.c (.d (.int .i64 0)))), none⟩])
  (.ret)))),
  [(4, none), (5, none)]⟩
theorem cf_resme : compFn Try.prog { own := [], comp := [], frz := [], nils := [] } Try.f12 = some sf_resme := by kernel_rfl
theorem resme_c (G : Glob) (f : Int) (l : List Lp) (t : Int) (hl : l.length ≤ 9223372036854775807) : Den Try.prog G 12 [lpD f l, .int .i64 t] (.tup [.c (.d (.int .i64 (smvV f l t))), .c (.d (.int .i64 (smvE f l t)))]) := by
  refine den_walk Try.func12 cf_resme rfl rfl ?_
  have c1 := rlv_c G f l hl
  unfold smvV smvB smvE
  unfold lpD at c1 ⊢
  cases h1 : okB f l
  · rw [h1] at c1
    simp only [sf_resme, putAll, wx, wy, wz, stV, seval, IntWalk.iteOmega, IntWalk.toNatUp, reduceCtorEq]
    refine st_call (c1) rfl (.inl rfl) ?_
    simp only [wx, wy, wz, stV, seval, IntWalk.iteOmega, IntWalk.toNatUp, reduceCtorEq]
    exact ret_d2 (by simp only [wx, wy, wz, stV, seval, IntWalk.iteOmega, IntWalk.toNatUp, reduceCtorEq]) (by simp only [wx, wy, wz, stV, seval, IntWalk.iteOmega, IntWalk.toNatUp, reduceCtorEq])
  · rw [h1] at c1
    by_cases k : 134217728 ≤ t ∧ t ≤ 288230376151711744
    · have c2 := rsme_c G f l t hl h1 (by omega) (by omega)
      unfold lpD at c2
      rw [decide_eq_true k, if_pos k]
      have k1 : (t > 288230376151711744) = False := eq_false (by omega)
      generalize smN f l t = R at *
      simp only [sf_resme, putAll, wx, wy, wz, stV, seval, IntWalk.iteOmega, IntWalk.toNatUp, reduceCtorEq]
      refine st_call (c1) rfl (.inl rfl) ?_
      simp only [k1, wx, wy, wz, stV, seval, IntWalk.iteOmega, IntWalk.toNatUp, reduceCtorEq]
      refine st_call (c2) rfl (.inl rfl) ?_
      simp only [wx, wy, wz, stV, seval, IntWalk.iteOmega, IntWalk.toNatUp, reduceCtorEq]
      exact ret_d2 (by simp only [wx, wy, wz, stV, seval, IntWalk.iteOmega, IntWalk.toNatUp, reduceCtorEq]) (by simp only [wx, wy, wz, stV, seval, IntWalk.iteOmega, IntWalk.toNatUp, reduceCtorEq])
    · rw [decide_eq_false k, if_neg k]
      by_cases k1 : t < 134217728
      · simp only [sf_resme, putAll, wx, wy, wz, stV, seval, IntWalk.iteOmega, IntWalk.toNatUp, reduceCtorEq]
        refine st_call (c1) rfl (.inl rfl) ?_
        simp only [wx, wy, wz, stV, seval, IntWalk.iteOmega, IntWalk.toNatUp, reduceCtorEq]
        exact ret_d2 (by simp only [wx, wy, wz, stV, seval, IntWalk.iteOmega, IntWalk.toNatUp, reduceCtorEq]) (by simp only [wx, wy, wz, stV, seval, IntWalk.iteOmega, IntWalk.toNatUp, reduceCtorEq])
      · have k2 : (t > 288230376151711744) = True := eq_true (by omega)
        simp only [sf_resme, putAll, wx, wy, wz, stV, seval, IntWalk.iteOmega, IntWalk.toNatUp, reduceCtorEq]
        refine st_call (c1) rfl (.inl rfl) ?_
        simp only [k2, wx, wy, wz, stV, seval, IntWalk.iteOmega, IntWalk.toNatUp, reduceCtorEq]
        exact ret_d2 (by simp only [wx, wy, wz, stV, seval, IntWalk.iteOmega, IntWalk.toNatUp, reduceCtorEq]) (by simp only [wx, wy, wz, stV, seval, IntWalk.iteOmega, IntWalk.toNatUp, reduceCtorEq])
/-! ### Search by halving -/
def lsP (f : Int) (l : List Lp) (s : Int) (m : Int) : Bool := decide (s ≤ smN f l m)
theorem ls_bis {f : Int} {l : List Lp} (h : okB f l = true) {s : Int} (h1 : 268435456 ≤ s) (h2 : s ≤ 144115188075855873) : bisV (lsP f l s) 134217728 288230376151711745 = lsN f l s := by
  have hb := bis_ok (P := lsP f l s) (lo := 134217728) (hi := 288230376151711745) (by decide) (fun a b _ hab _ ha => by
    have ha := of_decide_eq_true ha
    have := sm_mono (okB_leap h) hab
    exact decide_eq_true (by omega))
  obtain ⟨⟨b1, b2, b3, b4⟩, _⟩ := hb
  have r := ls_range h s
  refine least_uniq (P := lsP f l s) (lo := 134217728) (hi := 288230376151711745) b1 b2 b3 b4 (by omega) (by omega) (fun t _ ht => decide_eq_false fun k => ?_) fun _ => decide_eq_true ((ls_gal (okB_leap h) s _).2 (Int.le_refl _))
  have := (ls_gal (okB_leap h) s t).1 k
  omega
def leSt (f : Int) (l : List Lp) (s : Int) (k : Nat) : St := ⟨ofL [(1, .w (.c (.d (.int .i64 s)))), (2, .w (.c (.rp [.int .i64 f, .sl (l.map spD)]))), (5, .w (.c (.d (.int .i64 (bisK (lsP f l s) 134217728 288230376151711745 k).1)))), (6, .w (.c (.d (.int .i64 (bisK (lsP f l s) 134217728 288230376151711745 k).2))))], hL [], uL []⟩
def lp_rlea_0 : SCode :=
  .seq (.seq (.reg [⟨(some 8), .mv (.t 5), none⟩,
    ⟨(some 9), .mv (.t 6), none⟩,
    ⟨(some 10), .bin .lss (.t 8) (.t 9), none⟩])
  (.cond (.t 10) (.skip)
   (.exit 0)))
  (.block 1 (.seq (.reg [⟨(some 11), .mv (.t 5), none⟩,
     ⟨(some 12), .mv (.t 6), none⟩,
     ⟨(some 13), .bin .add (.t 11) (.t 12), none⟩,
     ⟨(some 14), .bin .quo (.t 13) (.k (.c (.d (.int .i64 2)))), none⟩,
     ⟨(some 7), .mv (.t 14), none⟩])
   (.seq (.reg [⟨(some 15), .load (.ag 2) (.t 2), none⟩,
     ⟨(some 16), .mv (.t 7), none⟩,
     ⟨(some 17), .call 26 [(.t 15), (.t 16)] none, none⟩,
     ⟨(some 18), .mv (.t 1), none⟩,
     ⟨(some 19), .bin .geq (.t 17) (.t 18), none⟩])
   (.cond (.t 19) (.reg [⟨(some 20), .mv (.t 7), none⟩,
      ⟨(some 6), .mv (.t 20), none⟩])
    (.reg [⟨(some 21), .mv (.t 7), none⟩,
      ⟨(some 22), .bin .add (.t 21) (.k (.c (.d (.int .i64 1)))), none⟩,
      ⟨(some 5), .mv (.t 22), none⟩])))))
def sf_rlea : SFn := ⟨2, 24,
  .seq (.reg [⟨(some 2), .box .roBox (.t 0), none⟩,
    ⟨(some 4), .mv (.k (.c (.d (.int .i64 0)))), none⟩])
  (.seq (.reg [⟨(some 5), .mv (.k (.c (.d (.int .i64 134217728)))), none⟩,
    ⟨(some 6), .mv (.k (.c (.d (.int .i64 288230376151711745)))), none⟩])
  (.seq (.block 0 (.loop lp_rlea_0))
  (.seq (.reg [⟨(some 23), .mv (.t 5), none⟩,
    ⟨(some 4), .mv (.t 23), none⟩])
  (.ret)))),
  [(4, none)]⟩
theorem cf_rlea : compFn Try.prog { own := [], comp := [], frz := [], nils := [] } Try.f28 = some sf_rlea := by kernel_rfl
set_option maxHeartbeats 800000 in
theorem rlea_c (G : Glob) (f : Int) (l : List Lp) (s : Int) (hl : l.length ≤ 9223372036854775807) (h : okB f l = true) : Den Try.prog G 28 [lpD f l, .int .i64 s] (.w (.c (.d (.int .i64 (bisV (lsP f l s) 134217728 288230376151711745))))) := by
  refine den_walk Try.func28 cf_rlea rfl rfl ?_
  have hb := bis_ok (P := lsP f l s) (lo := 134217728) (hi := 288230376151711745) (by decide) (fun a b _ hab _ ha => by
    have ha := of_decide_eq_true ha
    have := sm_mono (okB_leap h) hab
    exact decide_eq_true (by omega))
  obtain ⟨_, hv, hend, hgo⟩ := hb
  unfold lpD
  simp only [sf_rlea, putAll, wx, wy, wz, stV, seval, IntWalk.iteOmega, IntWalk.toNatUp, reduceCtorEq]
  refine loop_st (leSt f l s) (fun k => bisE (lsP f l s) 134217728 288230376151711745 - k) (fun k => k ≤ bisE (lsP f l s) 134217728 288230376151711745) 0 (Nat.zero_le _) ?_ ?_
  · have e1 : (bisK (lsP f l s) 134217728 288230376151711745 0).1 = 134217728 := rfl
    have e2 : (bisK (lsP f l s) 134217728 288230376151711745 0).2 = 288230376151711745 := rfl
    refine ent_l (fun i => i) ?_ ?_ rfl rfl <;> simp only [wx, wex, wez, stV, seval, IntWalk.iteOmega, IntWalk.toNatUp, reduceCtorEq, e1, e2]
  · intro k hk
    by_cases hlt : k < bisE (lsP f l s) 134217728 288230376151711745
    · obtain ⟨g1, g2, g3⟩ := hgo k hlt
      have es : bisK (lsP f l s) 134217728 288230376151711745 (k + 1) = bisS (lsP f l s) (bisK (lsP f l s) 134217728 288230376151711745 k) := rfl
      obtain ⟨x, hx⟩ : ∃ x, (bisK (lsP f l s) 134217728 288230376151711745 k).1 = x := ⟨_, rfl⟩
      obtain ⟨y, hy⟩ : ∃ y, (bisK (lsP f l s) 134217728 288230376151711745 k).2 = y := ⟨_, rfl⟩
      unfold bisS at es
      rw [hx, hy, show lsP f l s ((x + y) / 2) = decide (s ≤ smN f l ((x + y) / 2)) from rfl] at es
      rw [hx] at g1 g2
      rw [hy] at g1 g3
      have hq : (x + y).tdiv 2 = (x + y) / 2 := Int.tdiv_eq_ediv_of_nonneg (by omega)
      have cs := rsme_c G f l ((x + y) / 2) hl h (by omega) (by omega)
      unfold lpD at cs
      generalize hM : (x + y) / 2 = m at *
      by_cases c : s ≤ smN f l m
      · rw [decide_eq_true c, if_pos rfl] at es
        have c' : (smN f l m ≥ s) = True := eq_true c
        generalize smN f l m = R at *
        simp only [lp_rlea_0, leSt, hx, hy, wx, wy, wz, stV, seval, IntWalk.iteOmega, IntWalk.toNatUp, reduceCtorEq, hq]
        refine st_call (cs) rfl (.inl rfl) ?_
        simp only [c', wx, wy, wz, stV, seval, IntWalk.iteOmega, IntWalk.toNatUp, reduceCtorEq]
        refine lop_next (k + 1) (by omega) (by omega) (ent_l (fun i => i) ?_ ?_ rfl rfl) <;> simp only [wx, wex, wez, stV, seval, IntWalk.iteOmega, IntWalk.toNatUp, reduceCtorEq, es]
      · rw [decide_eq_false c, if_neg (by simp)] at es
        have c' : (smN f l m ≥ s) = False := eq_false c
        generalize smN f l m = R at *
        simp only [lp_rlea_0, leSt, hx, hy, wx, wy, wz, stV, seval, IntWalk.iteOmega, IntWalk.toNatUp, reduceCtorEq, hq]
        refine st_call (cs) rfl (.inl rfl) ?_
        simp only [c', wx, wy, wz, stV, seval, IntWalk.iteOmega, IntWalk.toNatUp, reduceCtorEq]
        refine lop_next (k + 1) (by omega) (by omega) (ent_l (fun i => i) ?_ ?_ rfl rfl) <;> simp only [wx, wex, wez, stV, seval, IntWalk.iteOmega, IntWalk.toNatUp, reduceCtorEq, es]
    · obtain rfl : k = bisE (lsP f l s) 134217728 288230376151711745 := by omega
      generalize bisE (lsP f l s) 134217728 288230376151711745 = k at *
      rw [← hv]
      obtain ⟨x, hx⟩ : ∃ x, (bisK (lsP f l s) 134217728 288230376151711745 k).1 = x := ⟨_, rfl⟩
      obtain ⟨y, hy⟩ : ∃ y, (bisK (lsP f l s) 134217728 288230376151711745 k).2 = y := ⟨_, rfl⟩
      rw [hx] at hend ⊢
      rw [hy] at hend
      simp only [lp_rlea_0, leSt, hx, hy, wx, wy, wz, stV, seval, IntWalk.iteOmega, IntWalk.toNatUp, reduceCtorEq]
      exact ret_d1 (by simp only [wx, wy, wz, stV, seval, IntWalk.iteOmega, IntWalk.toNatUp, reduceCtorEq])
def sf_rclr : SFn := ⟨2, 34,
  .seq (.reg [⟨(some 2), .box .roBox (.t 0), none⟩,
    ⟨(some 4), .alloc [(.d (.int .i64 0)), (.d (.int .i64 0))], none⟩,
    ⟨(some 5), .mv (.k (.c (.d (.int .i64 0)))), none⟩])
  (.seq (.seq (.reg [⟨(some 8), .load (.ag 2) (.t 2), none⟩,
    ⟨(some 9), .call 21 [(.t 8)] none, none⟩,
    ⟨(some 10), .un .not (.t 9), none⟩])
  (.cond (.t 10) (.seq (.reg [⟨(some 11), .build [(.d (.int .i64 0)), (.d (.int .i64 0))] [], none⟩,
     ⟨none, .store (.ag 2) (.t 4) (.t 11), none⟩,
     ⟨(some 5), .mv (.k (.c (.d (.int .i64 3)))), none⟩])
   (.ret))
   (.skip)))
  (.seq (.seq (.reg [⟨(some 12), .mv (.t 1), none⟩,
    ⟨(some 13), .bin .lss (.t 12) (.k (.c (.d (.int .i64 268435456)))), none⟩,
    ⟨(some 14), .mv (.t 13), none⟩,
    ⟨(some 15), .mv (.t 1), (some (14, false))⟩,
    ⟨(some 16), .bin .gtr (.t 15) (.k (.c (.d (.int .i64 144115188075855872)))), (some (14, false))⟩,
    ⟨(some 17), .pick (.t 14) (.k (.c (.d (.bool true)))) (.t 16), none⟩])
  (.cond (.t 17) (.seq (.reg [⟨(some 18), .build [(.d (.int .i64 0)), (.d (.int .i64 0))] [], none⟩,
     ⟨none, .store (.ag 2) (.t 4) (.t 18), none⟩,
     ⟨(some 5), .mv (.k (.c (.d (.int .i64 4)))), none⟩])
   (.ret))
   (.skip)))
  (.seq (.reg [⟨(some 19), .load (.ag 2) (.t 2), none⟩,
    ⟨(some 20), .mv (.t 1), none⟩,
    ⟨(some 21), .call 28 [(.t 19), (.t 20)] none, none⟩,
    ⟨(some 22), .load (.ag 2) (.t 2), none⟩,
    ⟨(some 23), .mv (.t 1), none⟩,
    ⟨(some 24), .bin .add (.t 23) (.k (.c (.d (.int .i64 1)))), none⟩,
    ⟨(some 25), .call 28 [(.t 22), (.t 24)] none, none⟩,
    ⟨(some 6), .mv (.t 21), none⟩,
    ⟨(some 7), .mv (.t 25), none⟩])
  (.seq (.seq (.reg [⟨(some 26), .mv (.t 6), none⟩,
    ⟨(some 27), .mv (.t 7), none⟩,
    ⟨(some 28), .bin .eql (.t 26) (.t 27), none⟩])
  (.cond (.t 28) (.seq (.reg [⟨(some 29), .build [(.d (.int .i64 0)), (.d (.int .i64 0))] [], none⟩,
     ⟨none, .store (.ag 2) (.t 4) (.t 29), none⟩,
     ⟨(some 5), .mv (.k (.c (.d (.int .i64 10)))), none⟩])
   (.ret))
   (.skip)))
  (.seq (.reg [⟨(some 30), .mv (.t 6), none⟩,
    ⟨(some 31), .mv (.t 7), none⟩,
    ⟨(some 32), .bin .sub (.t 31) (.k (.c (.d (.int .i64 1)))), none⟩,
    ⟨(some 33), .build [(.d (.int .i64 0)), (.d (.int .i64 0))] [(0, 1, (.t 30)), (1, 1, (.t 32))], none⟩,
    ⟨none, .store (.ag 2) (.t 4) (.t 33), none⟩,
    ⟨(some 5), .mv (.k (.c (.d (.int .i64 0)))), none⟩])
  (.ret)))))),
  [(4, (some (.ag 2))), (5, none)]⟩
theorem cf_rclr : compFn Try.prog { own := [], comp := [], frz := [], nils := [] } Try.f14 = some sf_rclr := by kernel_rfl
theorem rclr_c (G : Glob) (f : Int) (l : List Lp) (s : Int) (hl : l.length ≤ 9223372036854775807) : Den Try.prog G 14 [lpD f l, .int .i64 s] (.tup [.c (.d (spV (clrLo f l s) (clrHi f l s))), .c (.d (.int .i64 (clrE f l s)))]) := by
  refine den_walk Try.func14 cf_rclr rfl rfl ?_
  have c1 := rlv_c G f l hl
  unfold spV clrLo clrHi clrB clrR clrE
  unfold lpD at c1 ⊢
  cases h1 : okB f l
  · rw [h1] at c1
    simp only [sf_rclr, putAll, wx, wy, wz, stV, seval, IntWalk.iteOmega, IntWalk.toNatUp, reduceCtorEq]
    refine st_call (c1) rfl (.inl rfl) ?_
    simp only [wx, wy, wz, stV, seval, IntWalk.iteOmega, IntWalk.toNatUp, reduceCtorEq]
    exact ret_d2 (by simp only [wx, wy, wz, stV, seval, IntWalk.iteOmega, IntWalk.toNatUp, reduceCtorEq]) (by simp only [wx, wy, wz, stV, seval, IntWalk.iteOmega, IntWalk.toNatUp, reduceCtorEq])
  · rw [h1] at c1
    by_cases k : 268435456 ≤ s ∧ s ≤ 144115188075855872
    · have c2 := rlea_c G f l s hl h1
      have c3 := rlea_c G f l (s + 1) hl h1
      rw [ls_bis h1 (by omega) (by omega)] at c2 c3
      have r1 := ls_range h1 s
      have r2 := ls_range h1 (s + 1)
      have k2 : (s > 144115188075855872) = False := eq_false (by omega)
      unfold lpD at c2 c3
      rw [decide_eq_true k, if_pos k]
      unfold clrN
      generalize lsN f l s = R at *
      generalize lsN f l (s + 1) = R' at *
      by_cases he : R = R'
      · rw [decide_eq_true he]
        simp only [sf_rclr, putAll, wx, wy, wz, stV, seval, IntWalk.iteOmega, IntWalk.toNatUp, reduceCtorEq]
        refine st_call (c1) rfl (.inl rfl) ?_
        simp only [k2, wx, wy, wz, stV, seval, IntWalk.iteOmega, IntWalk.toNatUp, reduceCtorEq]
        refine st_call (c2) rfl (.inl rfl) ?_
        simp only [wx, wy, wz, stV, seval, IntWalk.iteOmega, IntWalk.toNatUp, reduceCtorEq]
        refine st_call (c3) rfl (.inl rfl) ?_
        simp only [he, wx, wy, wz, stV, seval, IntWalk.iteOmega, IntWalk.toNatUp, reduceCtorEq]
        exact ret_d2 (by simp only [wx, wy, wz, stV, seval, IntWalk.iteOmega, IntWalk.toNatUp, reduceCtorEq]) (by simp only [wx, wy, wz, stV, seval, IntWalk.iteOmega, IntWalk.toNatUp, reduceCtorEq])
      · rw [decide_eq_false he]
        simp only [sf_rclr, putAll, wx, wy, wz, stV, seval, IntWalk.iteOmega, IntWalk.toNatUp, reduceCtorEq]
        refine st_call (c1) rfl (.inl rfl) ?_
        simp only [k2, wx, wy, wz, stV, seval, IntWalk.iteOmega, IntWalk.toNatUp, reduceCtorEq]
        refine st_call (c2) rfl (.inl rfl) ?_
        simp only [wx, wy, wz, stV, seval, IntWalk.iteOmega, IntWalk.toNatUp, reduceCtorEq]
        refine st_call (c3) rfl (.inl rfl) ?_
        simp only [he, wx, wy, wz, stV, seval, IntWalk.iteOmega, IntWalk.toNatUp, reduceCtorEq]
        exact ret_d2 (by simp only [wx, wy, wz, stV, seval, IntWalk.iteOmega, IntWalk.toNatUp, reduceCtorEq]) (by simp only [wx, wy, wz, stV, seval, IntWalk.iteOmega, IntWalk.toNatUp, reduceCtorEq])
    · rw [decide_eq_false k, if_neg k]
      by_cases k1 : s < 268435456
      · simp only [sf_rclr, putAll, wx, wy, wz, stV, seval, IntWalk.iteOmega, IntWalk.toNatUp, reduceCtorEq]
        refine st_call (c1) rfl (.inl rfl) ?_
        simp only [wx, wy, wz, stV, seval, IntWalk.iteOmega, IntWalk.toNatUp, reduceCtorEq]
        exact ret_d2 (by simp only [wx, wy, wz, stV, seval, IntWalk.iteOmega, IntWalk.toNatUp, reduceCtorEq]) (by simp only [wx, wy, wz, stV, seval, IntWalk.iteOmega, IntWalk.toNatUp, reduceCtorEq])
      · have k2 : (s > 144115188075855872) = True := eq_true (by omega)
        simp only [sf_rclr, putAll, wx, wy, wz, stV, seval, IntWalk.iteOmega, IntWalk.toNatUp, reduceCtorEq]
        refine st_call (c1) rfl (.inl rfl) ?_
        simp only [k2, wx, wy, wz, stV, seval, IntWalk.iteOmega, IntWalk.toNatUp, reduceCtorEq]
        exact ret_d2 (by simp only [wx, wy, wz, stV, seval, IntWalk.iteOmega, IntWalk.toNatUp, reduceCtorEq]) (by simp only [wx, wy, wz, stV, seval, IntWalk.iteOmega, IntWalk.toNatUp, reduceCtorEq])
def sf_rero : SFn := ⟨2, 41,
  .seq (.reg [⟨(some 2), .box .roBox (.t 0), none⟩,
    ⟨(some 4), .mv (.k (.c (.d (.int .i64 0)))), none⟩,
    ⟨(some 5), .mv (.k (.c (.d (.int .i64 0)))), none⟩])
  (.seq (.reg [⟨(some 11), .load (.ag 2) (.t 2), none⟩,
    ⟨(some 12), .mv (.t 1), none⟩,
    ⟨(some 13), .call 12 [(.t 11), (.t 12)] none, none⟩,
    ⟨(some 10), .mv (.t 13), none⟩,
    ⟨(some 14), .extract (.t 10) 0, none⟩,
    ⟨(some 15), .extract (.t 10) 1, none⟩,
    ⟨(some 6), .mv (.t 14), none⟩,
    ⟨(some 7), .mv (.t 15), none⟩])
  (.seq (.seq (.reg [⟨(some 16), .mv (.t 7), none⟩,
    ⟨(some 17), .bin .neq (.t 16) (.k (.c (.d (.int .i64 0)))), none⟩])
  (.cond (.t 17) (.seq (.reg [⟨(some 18), .mv (.t 7), none⟩,
     ⟨(some 4), .mv (.k (.c (.d (.int .i64 0)))), none⟩,
     ⟨(some 5), .mv (.t 18), none⟩])
   (.ret))
   (.skip)))
  (.seq (.reg [⟨(some 20), .load (.ag 2) (.t 2), none⟩,
    ⟨(some 21), .mv (.t 1), none⟩,
    ⟨(some 22), .call 29 [(.t 20), (.t 21)] none, none⟩,
    ⟨(some 19), .mv (.t 22), none⟩,
    ⟨(some 23), .extract (.t 19) 0, none⟩,
    ⟨(some 24), .extract (.t 19) 1, none⟩,
    ⟨(some 8), .alloc [(.d (.int .i64 0)), (.d (.bool false)), (.d (.int .i64 0))], none⟩,
    ⟨none, .store (.ag 3) (.t 8) (.t 23), none⟩,
    ⟨(some 7), .mv (.t 24), none⟩])
  (.seq (.seq (.reg [⟨(some 25), .mv (.t 7), none⟩,
    ⟨(some 26), .bin .neq (.t 25) (.k (.c (.d (.int .i64 0)))), none⟩])
  (.cond (.t 26) (.seq (.reg [⟨(some 27), .mv (.t 7), none⟩,
     ⟨(some 4), .mv (.k (.c (.d (.int .i64 0)))), none⟩,
     ⟨(some 5), .mv (.t 27), none⟩])
   (.ret))
   (.skip)))
  (.seq (.reg [⟨(some 28), .fieldAddr 0 (.t 8), none⟩,
    ⟨(some 29), .load .sc (.t 28), none⟩,
    ⟨(some 9), .mv (.t 29), none⟩])
  (.seq (.seq (.reg [⟨(some 30), .fieldAddr 1 (.t 8), none⟩,
    ⟨(some 31), .load .sc (.t 30), none⟩])
  (.cond (.t 31) (.reg [⟨(some 32), .mv (.t 9), none⟩,
     ⟨(some 33), .bin .add (.t 32) (.k (.c (.d (.int .i64 1)))), none⟩,
     ⟨(some 9), .mv (.t 33), none⟩])
   (.skip)))
  (.seq (.reg [⟨(some 34), .mv (.t 6), none⟩,
    ⟨(some 35), .mv (.t 9), none⟩,
    ⟨(some 36), .bin .shl (.t 35) (.k (.c (.d (.int .u64 20)))), none⟩,
    ⟨(some 37), .fieldAddr 2 (.t 8), none⟩,
    ⟨(some 38), .load .sc (.t 37), none⟩,
    ⟨(some 39), .bin .add (.t 36) (.t 38), none⟩,
    ⟨(some 40), .bin .sub (.t 34) (.t 39), none⟩,
    ⟨(some 4), .mv (.t 40), none⟩,
    ⟨(some 5), .mv (.k (.c (.d (.int .i64 0)))), none⟩])
  (.ret)))))))),
  [(4, none), (5, none)]⟩
theorem cf_rero : compFn Try.prog { own := [], comp := [], frz := [], nils := [] } Try.f16 = some sf_rero := by kernel_rfl
set_option maxHeartbeats 800000 in
theorem rero_c (G : Glob) (f : Int) (l : List Lp) (t : Int) (hl : l.length ≤ 9223372036854775807) (h1 : -9223372036854775808 ≤ t) (h2 : t ≤ 9223372036854775807) : Den Try.prog G 16 [lpD f l, .int .i64 t] (.tup [.c (.d (.int .i64 (errV f l t))), .c (.d (.int .i64 (errE f l t)))]) := by
  refine den_walk Try.func16 cf_rero rfl rfl ?_
  have c1 := resme_c G f l t hl
  have c2 := rlutc_c G f l t hl h1 h2
  unfold errV errB errE
  unfold smvV at c1
  unfold lpD at c1 c2 ⊢
  cases hb : smvB f l t
  · have he : smvE f l t ≠ 0 := by
      unfold smvB at hb; unfold smvE
      cases ho : okB f l
      · simp
      · rw [ho, Bool.true_and] at hb
        have := of_decide_eq_false hb
        rw [if_pos rfl, if_neg this]; decide
    rw [hb] at c1
    simp only [Bool.false_eq_true, if_false] at c1
    rw [if_neg he]
    generalize smvE f l t = E at *
    simp only [sf_rero, putAll, wx, wy, wz, stV, seval, IntWalk.iteOmega, IntWalk.toNatUp, reduceCtorEq]
    refine st_call (c1) rfl (.inl rfl) ?_
    simp only [he, wx, wy, wz, stV, seval, IntWalk.iteOmega, IntWalk.toNatUp, reduceCtorEq]
    exact ret_d2 (by simp only [wx, wy, wz, stV, seval, IntWalk.iteOmega, IntWalk.toNatUp, reduceCtorEq]) (by simp only [wx, wy, wz, stV, seval, IntWalk.iteOmega, IntWalk.toNatUp, reduceCtorEq])
  · have hb' := hb
    unfold smvB at hb'
    rw [Bool.and_eq_true] at hb'
    obtain ⟨ho, ht⟩ := hb'
    have ht := of_decide_eq_true ht
    have he : smvE f l t = 0 := by unfold smvE; rw [if_pos ho, if_pos ht]
    have sr := sm_range ho t
    rw [hb, he, if_pos rfl] at c1
    rw [he, if_pos rfl]
    rw [utc_b ho] at c2
    unfold utcS utcL utcK at c2
    cases hu : utcB f l t
    · rw [hu] at c2
      simp only [Bool.false_and, Bool.false_eq_true, if_false] at c2
      simp only [sf_rero, putAll, wx, wy, wz, stV, seval, IntWalk.iteOmega, IntWalk.toNatUp, reduceCtorEq]
      refine st_call (c1) rfl (.inl rfl) ?_
      simp only [wx, wy, wz, stV, seval, IntWalk.iteOmega, IntWalk.toNatUp, reduceCtorEq]
      refine st_call (c2) rfl (.inl rfl) ?_
      simp only [wx, wy, wz, stV, seval, IntWalk.iteOmega, IntWalk.toNatUp, reduceCtorEq]
      exact ret_d2 (by simp only [wx, wy, wz, stV, seval, IntWalk.iteOmega, IntWalk.toNatUp, reduceCtorEq]) (by simp only [wx, wy, wz, stV, seval, IntWalk.iteOmega, IntWalk.toNatUp, reduceCtorEq])
    · have hs := hu
      unfold utcB at hs
      rw [Bool.and_eq_true] at hs
      have hs := sec_i hs.2
      rw [hu, if_pos rfl, if_pos rfl, if_pos rfl, Bool.true_and] at c2
      generalize shwN f l (t / 1048576) = W at *
      obtain ⟨S, b⟩ := W
      simp only at hs c2 ⊢
      generalize smN f l t = R at *
      generalize hK : t % 1048576 = K at *
      unfold bI
      cases b
      · simp only [sf_rero, putAll, wx, wy, wz, stV, seval, IntWalk.iteOmega, IntWalk.toNatUp, reduceCtorEq]
        refine st_call (c1) rfl (.inl rfl) ?_
        simp only [wx, wy, wz, stV, seval, IntWalk.iteOmega, IntWalk.toNatUp, reduceCtorEq]
        refine st_call (c2) rfl (.inl rfl) ?_
        simp only [bI64, wx, wy, wz, stV, seval, IntWalk.iteOmega, IntWalk.toNatUp, reduceCtorEq]
        exact ret_d2 (by simp only [wx, wy, wz, stV, seval, IntWalk.iteOmega, IntWalk.toNatUp, reduceCtorEq, Bool.false_eq_true, Int.add_zero]) (by simp only [wx, wy, wz, stV, seval, IntWalk.iteOmega, IntWalk.toNatUp, reduceCtorEq])
      · simp only [sf_rero, putAll, wx, wy, wz, stV, seval, IntWalk.iteOmega, IntWalk.toNatUp, reduceCtorEq]
        refine st_call (c1) rfl (.inl rfl) ?_
        simp only [wx, wy, wz, stV, seval, IntWalk.iteOmega, IntWalk.toNatUp, reduceCtorEq]
        refine st_call (c2) rfl (.inl rfl) ?_
        simp only [bI64, wx, wy, wz, stV, seval, IntWalk.iteOmega, IntWalk.toNatUp, reduceCtorEq]
        exact ret_d2 (by simp only [wx, wy, wz, stV, seval, IntWalk.iteOmega, IntWalk.toNatUp, reduceCtorEq]) (by simp only [wx, wy, wz, stV, seval, IntWalk.iteOmega, IntWalk.toNatUp, reduceCtorEq])
end Go.Proofs.Ytibpaciljnfpmaa
