/- The laws of layer 13: a smeared clock is near UTC. Own work. -/
import Derived.Test.YtibpaciljnfpmaaAlV
import Derived.Test.YtibpaciljnfpmaaLm0
set_option linter.unusedVariables false
set_option linter.unusedSimpArgs false
namespace Go.Proofs.Ytibpaciljnfpmaa
open Go.RowKit

/-- Whether the instant is in one of the first windows. -/
def inN (f : Int) (l : List Lp) (t : Int) : Nat → Bool
  | 0 => false
  | i + 1 => inN f l t i || decide (winA (lastO f l i) (lpG l i) ≤ t ∧ t < winB (lpG l i))
theorem inN_s (f : Int) (l : List Lp) (t : Int) (i : Nat) : inN f l t (i + 1) = (inN f l t i || decide (winA (lastO f l i) (lpG l i) ≤ t ∧ t < winB (lpG l i))) := rfl
theorem inN_of {f : Int} {l : List Lp} {t : Int} : ∀ {n i : Nat}, i < n → winA (lastO f l i) (lpG l i) ≤ t ∧ t < winB (lpG l i) → inN f l t n = true
  | n + 1, i, h, k => by
    rw [inN_s]
    rcases Nat.lt_succ_iff_lt_or_eq.1 h with h | rfl
    · rw [inN_of h k, Bool.true_or]
    · rw [decide_eq_true k, Bool.or_true]
def niSt (l : List Lp) (t d : Int) (i : Nat) : St := ⟨ofL [(5, .w (.c (.ptr 1 1 0 0))), (6, .w (.c (.d (.int .i64 t)))), (7, .w (.c (.d (.int .i64 d)))), (9, .w (.c (.d (.bool (inN 10 l t i))))), (10, .w (.c (.d (.int .i64 (i : Int)))))],
  hL [(1, .box [.d (.int .i64 10), .d (.sl (l.map spD))])], uL [1]⟩
def lp_knrU13_0 : SCode :=
  .seq (.seq (.reg [⟨(some 41), .mv (.t 10), none⟩,
    ⟨(some 42), .fieldAddr 1 (.t 5), none⟩,
    ⟨(some 43), .load .sc (.t 42), none⟩,
    ⟨(some 44), .len (.t 43), none⟩,
    ⟨(some 45), .bin .lss (.t 41) (.t 44), none⟩])
  (.cond (.t 45) (.skip)
   (.exit 0)))
  (.seq (.block 1 (.seq (.reg [⟨(some 49), .load (.ag 2) (.t 5), none⟩,
     ⟨(some 50), .mv (.t 10), none⟩,
     ⟨(some 51), .call 9 [(.t 49), (.t 50)] none, none⟩,
     ⟨(some 48), .mv (.t 51), none⟩,
     ⟨(some 52), .extract (.t 48) 0, none⟩,
     ⟨(some 53), .extract (.t 48) 1, none⟩,
     ⟨(some 54), .extract (.t 48) 2, none⟩,
     ⟨(some 11), .alloc [(.d (.int .i64 0)), (.d (.int .i64 0))], none⟩,
     ⟨(some 12), .alloc [(.d (.int .i64 0)), (.d (.int .i64 0))], none⟩,
     ⟨none, .store (.ag 2) (.t 11) (.t 52), none⟩,
     ⟨none, .store (.ag 2) (.t 12) (.t 53), none⟩,
     ⟨(some 13), .mv (.t 54), none⟩])
   (.seq (.reg [⟨(some 56), .load (.ag 2) (.t 5), none⟩,
     ⟨(some 57), .fieldAddr 0 (.t 12), none⟩,
     ⟨(some 58), .load .sc (.t 57), none⟩,
     ⟨(some 59), .call 11 [(.t 56), (.t 58)] none, none⟩,
     ⟨(some 55), .mv (.t 59), none⟩,
     ⟨(some 60), .extract (.t 55) 0, none⟩,
     ⟨(some 61), .extract (.t 55) 1, none⟩,
     ⟨(some 14), .mv (.t 60), none⟩,
     ⟨(some 15), .mv (.t 61), none⟩])
   (.seq (.reg [⟨(some 63), .load (.ag 2) (.t 5), none⟩,
     ⟨(some 64), .fieldAddr 1 (.t 12), none⟩,
     ⟨(some 65), .load .sc (.t 64), none⟩,
     ⟨(some 66), .call 11 [(.t 63), (.t 65)] none, none⟩,
     ⟨(some 62), .mv (.t 66), none⟩,
     ⟨(some 67), .extract (.t 62) 0, none⟩,
     ⟨(some 68), .extract (.t 62) 1, none⟩,
     ⟨(some 16), .mv (.t 67), none⟩,
     ⟨(some 17), .mv (.t 68), none⟩])
   (.seq (.seq (.reg [⟨(some 69), .mv (.t 13), none⟩,
     ⟨(some 70), .bin .neq (.t 69) (.k (.c (.d (.int .i64 0)))), none⟩,
     ⟨(some 71), .mv (.t 70), none⟩,
     ⟨(some 72), .mv (.t 15), (some (71, false))⟩,
     ⟨(some 73), .bin .neq (.t 72) (.k (.c (.d (.int .i64 0)))), (some (71, false))⟩,
     ⟨(some 74), .pick (.t 71) (.k (.c (.d (.bool true)))) (.t 73), none⟩,
     ⟨(some 75), .mv (.t 74), none⟩,
     ⟨(some 76), .mv (.t 17), (some (75, false))⟩,
     ⟨(some 77), .bin .neq (.t 76) (.k (.c (.d (.int .i64 0)))), (some (75, false))⟩,
     ⟨(some 78), .pick (.t 75) (.k (.c (.d (.bool true)))) (.t 77), none⟩,
     ⟨(some 79), .mv (.t 78), none⟩,
     ⟨(some 80), .mv (.t 14), (some (79, false))⟩,
     ⟨(some 81), .fieldAddr 0 (.t 11), (some (79, false))⟩,
     ⟨(some 82), .load .sc (.t 81), (some (79, false))⟩,
     ⟨(some 83), .bin .neq (.t 80) (.t 82), (some (79, false))⟩,
     ⟨(some 84), .pick (.t 79) (.k (.c (.d (.bool true)))) (.t 83), none⟩,
     ⟨(some 85), .mv (.t 84), none⟩,
     ⟨(some 86), .mv (.t 16), (some (85, false))⟩,
     ⟨(some 87), .fieldAddr 1 (.t 11), (some (85, false))⟩,
     ⟨(some 88), .load .sc (.t 87), (some (85, false))⟩,
     ⟨(some 89), .bin .neq (.t 86) (.t 88), (some (85, false))⟩,
     ⟨(some 90), .pick (.t 85) (.k (.c (.d (.bool true)))) (.t 89), none⟩])
   (.cond (.t 90) (.seq (.reg [⟨(some 4), .mv (.k (.c (.d (.bool false)))), none⟩])
    (.ret))
    (.skip)))
   (.reg [⟨(some 91), .mv (.t 9), none⟩,
     ⟨(some 92), .mv (.t 91), none⟩,
     ⟨(some 93), .fieldAddr 0 (.t 12), (some (92, false))⟩,
     ⟨(some 94), .load .sc (.t 93), (some (92, false))⟩,
     ⟨(some 95), .mv (.t 6), (some (92, false))⟩,
     ⟨(some 96), .bin .leq (.t 94) (.t 95), (some (92, false))⟩,
     ⟨(some 97), .mv (.t 96), (some (92, false))⟩,
     ⟨(some 98), .mv (.t 6), (some (97, true))⟩,
     ⟨(some 99), .fieldAddr 1 (.t 12), (some (97, true))⟩,
     ⟨(some 100), .load .sc (.t 99), (some (97, true))⟩,
     ⟨(some 101), .bin .lss (.t 98) (.t 100), (some (97, true))⟩,
     ⟨(some 102), .pick (.t 97) (.t 101) (.k (.c (.d (.bool false)))), (some (92, false))⟩,
     ⟨(some 103), .pick (.t 92) (.k (.c (.d (.bool true)))) (.t 102), none⟩,
     ⟨(some 9), .mv (.t 103), none⟩]))))))
  (.reg [⟨(some 46), .mv (.t 10), none⟩,
    ⟨(some 47), .bin .add (.t 46) (.k (.c (.d (.int .i64 1)))), none⟩,
    ⟨(some 10), .mv (.t 47), none⟩]))
def sf_knrU13 : SFn := ⟨2, 131,
  .seq (.reg [⟨(some 4), .mv (.k (.c (.d (.bool false)))), none⟩])
  (.seq (.reg [⟨(some 20), .mv (.t 0), none⟩,
    ⟨(some 21), .call 17 [(.t 20)] none, none⟩,
    ⟨(some 5), .alloc [(.d (.int .i64 0)), .nil], none⟩,
    ⟨none, .store (.ag 2) (.t 5) (.t 21), none⟩])
  (.seq (.reg [⟨(some 22), .load (.ag 2) (.t 5), none⟩,
    ⟨(some 23), .mv (.t 1), none⟩,
    ⟨(some 24), .call 18 [(.t 22), (.t 23)] none, none⟩,
    ⟨(some 6), .mv (.t 24), none⟩])
  (.seq (.reg [⟨(some 26), .load (.ag 2) (.t 5), none⟩,
    ⟨(some 27), .mv (.t 6), none⟩,
    ⟨(some 28), .call 15 [(.t 26), (.t 27)] none, none⟩,
    ⟨(some 25), .mv (.t 28), none⟩,
    ⟨(some 29), .extract (.t 25) 0, none⟩,
    ⟨(some 30), .extract (.t 25) 1, none⟩,
    ⟨(some 7), .mv (.t 29), none⟩,
    ⟨(some 8), .mv (.t 30), none⟩])
  (.seq (.seq (.reg [⟨(some 31), .mv (.t 8), none⟩,
    ⟨(some 32), .bin .neq (.t 31) (.k (.c (.d (.int .i64 0)))), none⟩,
    ⟨(some 33), .mv (.t 32), none⟩,
    ⟨(some 34), .mv (.t 7), (some (33, false))⟩,
    ⟨(some 35), .bin .gtr (.t 34) (.k (.c (.d (.int .i64 524296)))), (some (33, false))⟩,
    ⟨(some 36), .pick (.t 33) (.k (.c (.d (.bool true)))) (.t 35), none⟩,
    ⟨(some 37), .mv (.t 36), none⟩,
    ⟨(some 38), .mv (.t 7), (some (37, false))⟩,
    ⟨(some 39), .bin .lss (.t 38) (.k (.c (.d (.int .i64 (-524296))))), (some (37, false))⟩,
    ⟨(some 40), .pick (.t 37) (.k (.c (.d (.bool true)))) (.t 39), none⟩])
  (.cond (.t 40) (.seq (.reg [⟨(some 4), .mv (.k (.c (.d (.bool false)))), none⟩])
   (.ret))
   (.skip)))
  (.seq (.reg [⟨(some 9), .mv (.k (.c (.d (.bool false)))), none⟩])
  (.seq (.seq (.reg [⟨(some 10), .mv (.k (.c (.d (.int .i64 0)))), none⟩])
  (.block 0 (.loop lp_knrU13_0)))
  (.seq (.reg [⟨(some 105), .load (.ag 2) (.t 5), none⟩,
    ⟨(some 106), .mv (.t 6), none⟩,
    ⟨(some 107), .call 20 [(.t 105), (.t 106)] none, none⟩,
    ⟨(some 104), .mv (.t 107), none⟩,
    ⟨(some 108), .extract (.t 104) 0, none⟩,
    ⟨(some 109), .extract (.t 104) 1, none⟩,
    ⟨(some 18), .alloc [(.d (.int .i64 0)), (.d (.bool false)), (.d (.int .i64 0))], none⟩,
    ⟨none, .store (.ag 3) (.t 18) (.t 108), none⟩,
    ⟨(some 19), .mv (.t 109), none⟩])
  (.seq (.reg [⟨(some 110), .call 8 [] none, none⟩,
    ⟨(some 111), .mv (.t 110), none⟩,
    ⟨(some 112), .mv (.t 19), (some (111, true))⟩,
    ⟨(some 113), .bin .eql (.t 112) (.k (.c (.d (.int .i64 0)))), (some (111, true))⟩,
    ⟨(some 114), .pick (.t 111) (.t 113) (.k (.c (.d (.bool false)))), none⟩,
    ⟨(some 115), .mv (.t 114), none⟩,
    ⟨(some 116), .mv (.t 9), (some (115, true))⟩,
    ⟨(some 117), .mv (.t 116), (some (115, true))⟩,
    ⟨(some 118), .mv (.t 7), (some (117, false))⟩,
    ⟨(some 119), .bin .eql (.t 118) (.k (.c (.d (.int .i64 0)))), (some (117, false))⟩,
    ⟨(some 120), .pick (.t 117) (.k (.c (.d (.bool true)))) (.t 119), (some (115, true))⟩,
    ⟨(some 121), .pick (.t 115) (.t 120) (.k (.c (.d (.bool false)))), none⟩,
    ⟨(some 122), .mv (.t 121), none⟩,
    ⟨(some 123), .load (.ag 2) (.t 5), (some (122, true))⟩,
    ⟨(some 124), .call 21 [(.t 123)] none, (some (122, true))⟩,
    ⟨(some 125), .pick (.t 122) (.t 124) (.k (.c (.d (.bool false)))), none⟩,
    ⟨(some 126), .mv (.t 125), none⟩,
    ⟨(some 127), .fieldAddr 2 (.t 18), (some (126, true))⟩,
    ⟨(some 128), .load .sc (.t 127), (some (126, true))⟩,
    ⟨(some 129), .bin .geq (.t 128) (.k (.c (.d (.int .i64 0)))), (some (126, true))⟩,
    ⟨(some 130), .pick (.t 126) (.t 129) (.k (.c (.d (.bool false)))), none⟩,
    ⟨(some 4), .mv (.t 130), none⟩])
  (.ret))))))))),
  [(4, none)]⟩
theorem cf_knrU13 : compFn Try.prog { own := [], comp := [], frz := [], nils := [] } Try.f7 = some sf_knrU13 := by kernel_rfl
set_option maxHeartbeats 1600000 in
theorem knrU13_c (G : Glob) (table : List Int) (htable1 : table.length ≤ maxLen) (htable2 : ∀ n ∈ table, fitI n) (v : Int) (hv1 : -9223372036854775808 ≤ v) (hv2 : v ≤ 9223372036854775807)  : Den Try.prog G 7 [.sl (table.map zD), .int .i64 v] (.w (.c (.d (.bool true)))) := by
  refine den_walk Try.func7 cf_knrU13 rfl rfl ?_
  have hm : maxLen ≤ 9223372036854775807 := by decide
  have len := wl_len table
  have ok := wlT_ok table
  have eb := wl_el table
  have cw := wleap_c G table (by omega)
  have cn := wnear_c G 10 (wlT table) v (by omega) eb hv1 hv2
  have nb := nlN_in eb v
  generalize nlN (wlT table) v = t at *
  generalize wlT table = L at *
  have hL : L.length ≤ 9223372036854775807 := by omega
  have lk := okB_leap ok
  have c1 := eero_c G 10 L t hL (by omega) (by omega)
  obtain ⟨v1, v2⟩ := er_at ok (t := t) (by omega) (by omega)
  obtain ⟨i1, i2, i3⟩ := err_in lk t
  rw [v1, v2] at c1
  have c2 := lutc_c G 10 L t hL (by omega) (by omega)
  obtain ⟨s, b, r1, r2, r3⟩ := rd_ex ok (T := t / 1048576) (by omega) (by omega)
  obtain ⟨e1, e2, e3, e4⟩ := utc_of ok r1
  rw [e1, e2, e3, e4] at c2
  have c3 := rlv_c G 10 L hL
  rw [ok] at c3
  have i4 : smN 10 L t - utN 10 L t = 0 ∨ inN 10 L t L.length = true := by
    rcases i3 with k | ⟨i, k1, k2, k3⟩
    · left; omega
    · right; exact inN_of k1 ⟨k2, k3⟩
  unfold lpD at cw cn c1 c2 c3
  clear v1 v2 i3
  generalize smN 10 L t - utN 10 L t = d at *
  have g1 : (d > 524296) = False := eq_false (by omega)
  have g2 : (d < -524296) = False := eq_false (by omega)
  simp only [sf_knrU13, putAll, wx, wy, wz, stV, seval, IntWalk.iteOmega, IntWalk.toNatUp, reduceCtorEq]
  refine st_call (cw) rfl (.inl rfl) ?_
  simp only [wx, wy, wz, stV, seval, IntWalk.iteOmega, IntWalk.toNatUp, reduceCtorEq]
  refine st_call (cn) rfl (.inl rfl) ?_
  simp only [wx, wy, wz, stV, seval, IntWalk.iteOmega, IntWalk.toNatUp, reduceCtorEq]
  refine st_call (c1) rfl (.inl rfl) ?_
  simp only [g1, g2, wx, wy, wz, stV, seval, IntWalk.iteOmega, IntWalk.toNatUp, reduceCtorEq]
  refine loop_st (niSt L t d) (fun i => L.length - i) (fun i => i ≤ L.length) 0 (Nat.zero_le _) ?_ ?_
  · have e0 : inN 10 L t 0 = false := rfl
    refine ent_l (fun _ => 40) ?_ ?_ rfl rfl <;> simp only [wx, wex, wez, stV, seval, IntWalk.iteOmega, IntWalk.toNatUp, reduceCtorEq, e0]
  · intro i hi
    by_cases hlt : i < L.length
    · have cv := ewin_c G 10 L (i : Int) hL
      have wb : wdwB 10 L (i : Int) = true := by unfold wdwB; rw [ok, decide_eq_true (by omega)]; rfl
      have we : wdwE 10 L (i : Int) = 0 := by unfold wdwE; rw [if_pos ok, if_pos (by omega)]
      have wv : ∀ x, wdwV 10 L (i : Int) x = x := fun x => if_pos wb
      rw [wv, wv, wv, wv, we, Int.toNat_natCast] at cv
      obtain ⟨n1, n2, n3, n4, n5, n6, n7, n8⟩ := win_nums ok hlt
      have el := eb i hlt
      have nA : 134217728 ≤ winA (lastO 10 L i) (lpG L i) ∧ winA (lastO 10 L i) (lpG L i) ≤ 288230376151711744 := by unfold winA; omega
      have nB : 134217728 ≤ winB (lpG L i) ∧ winB (lpG L i) ≤ 288230376151711744 := by unfold winB; omega
      have cA := esme_c G 10 L (winA (lastO 10 L i) (lpG L i)) hL
      have cB := esme_c G 10 L (winB (lpG L i)) hL
      have sA := smv_at ok nA.1 nA.2
      have sB := smv_at ok nB.1 nB.2
      obtain ⟨q1, q2⟩ := sm_win lk i hlt
      have q1 : smN 10 L (winA (lastO 10 L i) (lpG L i)) = frA (lpG L i) := q1
      have q2 : smN 10 L (winB (lpG L i)) = frB (lpG L i) := q2
      rw [sA.1, sA.2, q1] at cA
      rw [sB.1, sB.2, q2] at cB
      have ws := inN_s 10 L t i
      clear sA sB q1 q2 wv we wb n1 n2 n3 el nA nB
      unfold lpD at cv cA cB
      unfold spV at cv
      generalize frA (lpG L i) = a at *
      generalize frB (lpG L i) = b at *
      generalize winA (lastO 10 L i) (lpG L i) = A at *
      generalize winB (lpG L i) = B at *
      cases hv : inN 10 L t i
      · rw [hv, Bool.false_or] at ws
        by_cases c1 : A ≤ t
        · by_cases c2 : t < B
          · rw [decide_eq_true ⟨c1, c2⟩] at ws
            simp only [lp_knrU13_0, niSt, hv, wx, wy, wz, stV, seval, IntWalk.iteOmega, IntWalk.toNatUp, reduceCtorEq]
            refine st_call (cv) rfl (.inl rfl) ?_
            simp only [wx, wy, wz, stV, seval, IntWalk.iteOmega, IntWalk.toNatUp, reduceCtorEq]
            refine st_call (cA) rfl (.inl rfl) ?_
            simp only [wx, wy, wz, stV, seval, IntWalk.iteOmega, IntWalk.toNatUp, reduceCtorEq]
            refine st_call (cB) rfl (.inl rfl) ?_
            simp only [eq_true c1, eq_true c2, wx, wy, wz, stV, seval, IntWalk.iteOmega, IntWalk.toNatUp, reduceCtorEq]
            refine lop_next (i + 1) (by omega) (by omega) (ent_l (fun i => i) ?_ ?_ rfl rfl) <;> simp only [wx, wex, wez, stV, seval, IntWalk.iteOmega, IntWalk.toNatUp, reduceCtorEq, ws]
          · rw [decide_eq_false (fun k => c2 k.2)] at ws
            simp only [lp_knrU13_0, niSt, hv, wx, wy, wz, stV, seval, IntWalk.iteOmega, IntWalk.toNatUp, reduceCtorEq]
            refine st_call (cv) rfl (.inl rfl) ?_
            simp only [wx, wy, wz, stV, seval, IntWalk.iteOmega, IntWalk.toNatUp, reduceCtorEq]
            refine st_call (cA) rfl (.inl rfl) ?_
            simp only [wx, wy, wz, stV, seval, IntWalk.iteOmega, IntWalk.toNatUp, reduceCtorEq]
            refine st_call (cB) rfl (.inl rfl) ?_
            simp only [eq_true c1, eq_false c2, wx, wy, wz, stV, seval, IntWalk.iteOmega, IntWalk.toNatUp, reduceCtorEq]
            refine lop_next (i + 1) (by omega) (by omega) (ent_l (fun i => i) ?_ ?_ rfl rfl) <;> simp only [wx, wex, wez, stV, seval, IntWalk.iteOmega, IntWalk.toNatUp, reduceCtorEq, ws]
        · rw [decide_eq_false (fun k => c1 k.1)] at ws
          simp only [lp_knrU13_0, niSt, hv, wx, wy, wz, stV, seval, IntWalk.iteOmega, IntWalk.toNatUp, reduceCtorEq]
          refine st_call (cv) rfl (.inl rfl) ?_
          simp only [wx, wy, wz, stV, seval, IntWalk.iteOmega, IntWalk.toNatUp, reduceCtorEq]
          refine st_call (cA) rfl (.inl rfl) ?_
          simp only [wx, wy, wz, stV, seval, IntWalk.iteOmega, IntWalk.toNatUp, reduceCtorEq]
          refine st_call (cB) rfl (.inl rfl) ?_
          simp only [eq_false c1, wx, wy, wz, stV, seval, IntWalk.iteOmega, IntWalk.toNatUp, reduceCtorEq]
          refine lop_next (i + 1) (by omega) (by omega) (ent_l (fun i => i) ?_ ?_ rfl rfl) <;> simp only [wx, wex, wez, stV, seval, IntWalk.iteOmega, IntWalk.toNatUp, reduceCtorEq, ws]
      · rw [hv, Bool.true_or] at ws
        simp only [lp_knrU13_0, niSt, hv, wx, wy, wz, stV, seval, IntWalk.iteOmega, IntWalk.toNatUp, reduceCtorEq]
        refine st_call (cv) rfl (.inl rfl) ?_
        simp only [wx, wy, wz, stV, seval, IntWalk.iteOmega, IntWalk.toNatUp, reduceCtorEq]
        refine st_call (cA) rfl (.inl rfl) ?_
        simp only [wx, wy, wz, stV, seval, IntWalk.iteOmega, IntWalk.toNatUp, reduceCtorEq]
        refine st_call (cB) rfl (.inl rfl) ?_
        simp only [wx, wy, wz, stV, seval, IntWalk.iteOmega, IntWalk.toNatUp, reduceCtorEq]
        refine lop_next (i + 1) (by omega) (by omega) (ent_l (fun i => i) ?_ ?_ rfl rfl) <;> simp only [wx, wex, wez, stV, seval, IntWalk.iteOmega, IntWalk.toNatUp, reduceCtorEq, ws]
    · obtain rfl : i = L.length := by omega
      have g3 : (t % 1048576 ≥ 0) = True := eq_true (by omega)
      generalize t % 1048576 = K at *
      cases hv : inN 10 L t L.length
      · have hd : d = 0 := by
          rcases i4 with k | k
          · exact k
          · rw [hv] at k; cases k
        subst hd
        simp only [lp_knrU13_0, niSt, hv, wx, wy, wz, stV, seval, IntWalk.iteOmega, IntWalk.toNatUp, reduceCtorEq]
        refine st_call (c2) rfl (.inl rfl) ?_
        simp only [wx, wy, wz, stV, seval, IntWalk.iteOmega, IntWalk.toNatUp, reduceCtorEq]
        refine st_call (known13_c G) rfl (.inl rfl) ?_
        simp only [wx, wy, wz, stV, seval, IntWalk.iteOmega, IntWalk.toNatUp, reduceCtorEq]
        refine st_call (c3) rfl (.inl rfl) ?_
        simp only [g3, wx, wy, wz, stV, seval, IntWalk.iteOmega, IntWalk.toNatUp, reduceCtorEq]
        exact ret_d1 (by simp only [wx, wy, wz, stV, seval, IntWalk.iteOmega, IntWalk.toNatUp, reduceCtorEq])
      · simp only [lp_knrU13_0, niSt, hv, wx, wy, wz, stV, seval, IntWalk.iteOmega, IntWalk.toNatUp, reduceCtorEq]
        refine st_call (c2) rfl (.inl rfl) ?_
        simp only [wx, wy, wz, stV, seval, IntWalk.iteOmega, IntWalk.toNatUp, reduceCtorEq]
        refine st_call (known13_c G) rfl (.inl rfl) ?_
        simp only [wx, wy, wz, stV, seval, IntWalk.iteOmega, IntWalk.toNatUp, reduceCtorEq]
        refine st_call (c3) rfl (.inl rfl) ?_
        simp only [g3, wx, wy, wz, stV, seval, IntWalk.iteOmega, IntWalk.toNatUp, reduceCtorEq]
        exact ret_d1 (by simp only [wx, wy, wz, stV, seval, IntWalk.iteOmega, IntWalk.toNatUp, reduceCtorEq])
end Go.Proofs.Ytibpaciljnfpmaa
