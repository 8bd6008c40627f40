/- The laws of layer 14: the nearest; parts of a span; what Unfold returns. Own work. -/
import Derived.Test.YtcafaihnflnkfaaAlV
import Derived.Test.YtcafaihnflnkfaaLn0
set_option linter.unusedVariables false
set_option linter.unusedSimpArgs false
namespace Go.Proofs.Ytcafaihnflnkfaa
open Go.RowKit

theorem max3 (a b c : Int) : [b, c].foldl (fun x y => if y > x then y else x) a = max (max a b) c := by
  simp only [List.foldl_cons, List.foldl_nil]
  rw [Int.max_def, Int.max_def]
  split <;> split <;> split <;> split <;> omega
def sf_kner14 : SFn := ⟨2, 98,
  .seq (.reg [⟨(some 4), .mv (.k (.c (.d (.bool false)))), none⟩])
  (.seq (.reg [⟨(some 14), .mv (.t 0), none⟩,
    ⟨(some 15), .call 8 [(.t 14), (.k (.c (.d (.int .i64 288230376151711744))))] none, none⟩,
    ⟨(some 0), .mv (.t 15), none⟩])
  (.seq (.reg [⟨(some 17), .mv (.t 0), none⟩,
    ⟨(some 18), .mv (.t 1), none⟩,
    ⟨(some 19), .call 13 [(.t 17), (.t 18)] none, none⟩,
    ⟨(some 16), .mv (.t 19), none⟩,
    ⟨(some 20), .extract (.t 16) 0, none⟩,
    ⟨(some 21), .extract (.t 16) 1, none⟩,
    ⟨(some 5), .alloc [(.d (.int .i64 0)), (.d (.int .i64 0))], none⟩,
    ⟨none, .store (.ag 2) (.t 5) (.t 20), none⟩,
    ⟨(some 6), .mv (.t 21), none⟩])
  (.seq (.reg [⟨(some 22), .fieldAddr 0 (.t 5), none⟩,
    ⟨(some 23), .load .sc (.t 22), none⟩,
    ⟨(some 24), .mv (.t 0), none⟩,
    ⟨(some 25), .bin .sub (.t 23) (.t 24), none⟩,
    ⟨(some 26), .mv (.t 0), none⟩,
    ⟨(some 27), .fieldAddr 1 (.t 5), none⟩,
    ⟨(some 28), .load .sc (.t 27), none⟩,
    ⟨(some 29), .bin .sub (.t 26) (.t 28), none⟩,
    ⟨(some 30), .max [(.t 25), (.t 29), (.k (.c (.d (.int .i64 0))))], none⟩,
    ⟨(some 7), .mv (.t 30), none⟩])
  (.seq (.reg [⟨(some 31), .fieldAddr 0 (.t 5), none⟩,
    ⟨(some 32), .load .sc (.t 31), none⟩,
    ⟨(some 33), .bin .add (.t 32) (.k (.c (.d (.int .i64 4503599627370496)))), none⟩,
    ⟨(some 34), .mv (.t 0), none⟩,
    ⟨(some 35), .bin .sub (.t 33) (.t 34), none⟩,
    ⟨(some 36), .mv (.t 0), none⟩,
    ⟨(some 37), .fieldAddr 1 (.t 5), none⟩,
    ⟨(some 38), .load .sc (.t 37), none⟩,
    ⟨(some 39), .bin .sub (.t 36) (.t 38), none⟩,
    ⟨(some 40), .bin .sub (.t 39) (.k (.c (.d (.int .i64 4503599627370496)))), none⟩,
    ⟨(some 41), .max [(.t 35), (.t 40), (.k (.c (.d (.int .i64 0))))], none⟩,
    ⟨(some 8), .mv (.t 41), none⟩])
  (.seq (.reg [⟨(some 42), .fieldAddr 0 (.t 5), none⟩,
    ⟨(some 43), .load .sc (.t 42), none⟩,
    ⟨(some 44), .bin .sub (.t 43) (.k (.c (.d (.int .i64 4503599627370496)))), none⟩,
    ⟨(some 45), .mv (.t 0), none⟩,
    ⟨(some 46), .bin .sub (.t 44) (.t 45), none⟩,
    ⟨(some 47), .mv (.t 0), none⟩,
    ⟨(some 48), .fieldAddr 1 (.t 5), none⟩,
    ⟨(some 49), .load .sc (.t 48), none⟩,
    ⟨(some 50), .bin .sub (.t 47) (.t 49), none⟩,
    ⟨(some 51), .bin .add (.t 50) (.k (.c (.d (.int .i64 4503599627370496)))), none⟩,
    ⟨(some 52), .max [(.t 46), (.t 51), (.k (.c (.d (.int .i64 0))))], none⟩,
    ⟨(some 9), .mv (.t 52), none⟩])
  (.seq (.reg [⟨(some 54), .mv (.t 0), none⟩,
    ⟨(some 55), .call 9 [(.t 54)] none, none⟩,
    ⟨(some 53), .mv (.t 55), none⟩,
    ⟨(some 56), .extract (.t 53) 0, none⟩,
    ⟨(some 57), .extract (.t 53) 1, none⟩,
    ⟨(some 10), .mv (.t 56), none⟩,
    ⟨(some 11), .mv (.t 57), none⟩])
  (.seq (.reg [⟨(some 59), .mv (.t 0), none⟩,
    ⟨(some 60), .mv (.t 10), none⟩,
    ⟨(some 61), .call 13 [(.t 59), (.t 60)] none, none⟩,
    ⟨(some 58), .mv (.t 61), none⟩,
    ⟨(some 62), .extract (.t 58) 0, none⟩,
    ⟨(some 63), .extract (.t 58) 1, none⟩,
    ⟨(some 12), .alloc [(.d (.int .i64 0)), (.d (.int .i64 0))], none⟩,
    ⟨none, .store (.ag 2) (.t 12) (.t 62), none⟩,
    ⟨(some 13), .mv (.t 63), none⟩])
  (.seq (.reg [⟨(some 64), .call 12 [] none, none⟩,
    ⟨(some 65), .mv (.t 64), none⟩,
    ⟨(some 66), .mv (.t 6), (some (65, true))⟩,
    ⟨(some 67), .bin .eql (.t 66) (.k (.c (.d (.int .i64 0)))), (some (65, true))⟩,
    ⟨(some 68), .pick (.t 65) (.t 67) (.k (.c (.d (.bool false)))), none⟩,
    ⟨(some 69), .mv (.t 68), none⟩,
    ⟨(some 70), .mv (.t 11), (some (69, true))⟩,
    ⟨(some 71), .bin .eql (.t 70) (.k (.c (.d (.int .i64 0)))), (some (69, true))⟩,
    ⟨(some 72), .pick (.t 69) (.t 71) (.k (.c (.d (.bool false)))), none⟩,
    ⟨(some 73), .mv (.t 72), none⟩,
    ⟨(some 74), .mv (.t 13), (some (73, true))⟩,
    ⟨(some 75), .bin .eql (.t 74) (.k (.c (.d (.int .i64 0)))), (some (73, true))⟩,
    ⟨(some 76), .pick (.t 73) (.t 75) (.k (.c (.d (.bool false)))), none⟩,
    ⟨(some 77), .mv (.t 76), none⟩,
    ⟨(some 78), .mv (.t 7), (some (77, true))⟩,
    ⟨(some 79), .bin .leq (.t 78) (.k (.c (.d (.int .i64 2251799813685248)))), (some (77, true))⟩,
    ⟨(some 80), .pick (.t 77) (.t 79) (.k (.c (.d (.bool false)))), none⟩,
    ⟨(some 81), .mv (.t 80), none⟩,
    ⟨(some 82), .mv (.t 7), (some (81, true))⟩,
    ⟨(some 83), .mv (.t 8), (some (81, true))⟩,
    ⟨(some 84), .bin .leq (.t 82) (.t 83), (some (81, true))⟩,
    ⟨(some 85), .pick (.t 81) (.t 84) (.k (.c (.d (.bool false)))), none⟩,
    ⟨(some 86), .mv (.t 85), none⟩,
    ⟨(some 87), .mv (.t 7), (some (86, true))⟩,
    ⟨(some 88), .mv (.t 9), (some (86, true))⟩,
    ⟨(some 89), .bin .leq (.t 87) (.t 88), (some (86, true))⟩,
    ⟨(some 90), .pick (.t 86) (.t 89) (.k (.c (.d (.bool false)))), none⟩,
    ⟨(some 91), .mv (.t 90), none⟩,
    ⟨(some 92), .load (.ag 2) (.t 12), (some (91, true))⟩,
    ⟨(some 93), .mv (.t 0), (some (91, true))⟩,
    ⟨(some 94), .mv (.t 0), (some (91, true))⟩,
    ⟨(some 95), .build [(.d (.int .i64 0)), (.d (.int .i64 0))] [(0, 1, (.t 93)), (1, 1, (.t 94))], (some (91, true))⟩,
    ⟨(some 96), .eqA false [0, 0] (.t 92) (.t 95), (some (91, true))⟩,
    ⟨(some 97), .pick (.t 91) (.t 96) (.k (.c (.d (.bool false)))), none⟩,
    ⟨(some 4), .mv (.t 97), none⟩])
  (.ret))))))))),
  [(4, none)]⟩
theorem cf_kner14 : compFn Try.prog { own := [], comp := [], frz := [], nils := [] } Try.f5 = some sf_kner14 := by kernel_rfl
set_option maxHeartbeats 1600000 in
theorem kner14_c (G : Glob) (t : Int) (ht1 : -9223372036854775808 ≤ t) (ht2 : t ≤ 9223372036854775807) (w : Nat) (hw : w < 18446744073709551616)  : Den Try.prog G 5 [.int .i64 t, .int .u64 (w : Int)] (.w (.c (.d (.bool true)))) := by
  refine den_walk Try.func5 cf_kner14 rfl rfl ?_
  have r1 := withinN_range t 288230376151711744 (by decide)
  have c1 := within_c G t 288230376151711744 (by decide)
  generalize withinN t 288230376151711744 = T at *
  have w1 : (0 : Int) ≤ (w : Int) := by omega
  have w2 : (w : Int) < 18446744073709551616 := by omega
  obtain ⟨u1, u2, u3, u4, _⟩ := up_in w1 w2
  have cn := gner_c G T w w1 w2
  have hB : nerB T = true := decide_eq_true (by omega)
  have hE : nerE T = 0 := by unfold nerE; rw [hB]; rfl
  have k1 := near_half (t := T) u3 u4
  have k2 := (near_le (t := T) u3 u4 (nearK ((w : Int) / 4096) (upV w) T + 1)).1
  have k3 := (near_le (t := T) u3 u4 (nearK ((w : Int) / 4096) (upV w) T - 1)).1
  have kb := near_in (t := T) (u := upV w) u1 u2
  unfold farD eraS at k1 k2 k3
  dsimp only at k1 k2 k3
  rw [Int.add_mul] at k2
  rw [Int.sub_mul] at k3
  have cw := wir_c G T (by omega) (by omega)
  obtain ⟨e1, e2⟩ := wir_at (t := T) (by omega)
  rw [e1, e2] at cw
  have co := gner_c G T (T % 4503599627370496 * 4096) (by omega) (by omega)
  rw [wir_dn, wir_up, near_at, hB, hE] at co
  rw [hB, hE] at cn
  generalize T % 4503599627370496 * 4096 = W at *
  generalize nearK ((w : Int) / 4096) (upV w) T = K at *
  have q1 : K * 4503599627370496 + 1 * 4503599627370496 + (w : Int) / 4096 - T = K * 4503599627370496 + (w : Int) / 4096 + 4503599627370496 - T := by omega
  have q2 : T - (K * 4503599627370496 + 1 * 4503599627370496 + upV w) = T - (K * 4503599627370496 + upV w) - 4503599627370496 := by omega
  have q3 : K * 4503599627370496 - 1 * 4503599627370496 + (w : Int) / 4096 - T = K * 4503599627370496 + (w : Int) / 4096 - 4503599627370496 - T := by omega
  have q4 : T - (K * 4503599627370496 - 1 * 4503599627370496 + upV w) = T - (K * 4503599627370496 + upV w) + 4503599627370496 := by omega
  rw [q1, q2] at k2
  rw [q3, q4] at k3
  have bl : -4503599627370496 ≤ K * 4503599627370496 + (w : Int) / 4096 ∧ K * 4503599627370496 + (w : Int) / 4096 ≤ 1152921504606846976 := by omega
  have bu : -4503599627370496 ≤ K * 4503599627370496 + upV w ∧ K * 4503599627370496 + upV w ≤ 1152921504606846976 := by omega
  clear q1 q2 q3 q4 kb u1 u2 u3 u4
  generalize K * 4503599627370496 + (w : Int) / 4096 = lo at *
  generalize K * 4503599627370496 + upV w = hi at *
  simp only [sf_kner14, putAll, wx, wy, wz, stV, seval, IntWalk.iteOmega, IntWalk.toNatUp, reduceCtorEq]
  refine st_call (c1) rfl (.inl rfl) ?_
  simp only [wx, wy, wz, stV, seval, IntWalk.iteOmega, IntWalk.toNatUp, reduceCtorEq]
  refine st_call (cn) rfl (.inl rfl) ?_
  simp only [spA, max3, wx, wy, wz, stV, seval, IntWalk.iteOmega, IntWalk.toNatUp, reduceCtorEq]
  refine st_call (cw) rfl (.inl rfl) ?_
  simp only [wx, wy, wz, stV, seval, IntWalk.iteOmega, IntWalk.toNatUp, reduceCtorEq]
  refine st_call (co) rfl (.inl rfl) ?_
  simp only [spA, wx, wy, wz, stV, seval, IntWalk.iteOmega, IntWalk.toNatUp, reduceCtorEq]
  generalize max (max (lo - T) (T - hi)) 0 = X at *
  generalize max (max (lo + 4503599627370496 - T) (T - hi - 4503599627370496)) 0 = Y at *
  generalize max (max (lo - 4503599627370496 - T) (T - hi + 4503599627370496)) 0 = Z at *
  refine st_call (known14_c G) rfl (.inl rfl) ?_
  simp only [wx, wy, wz, stV, seval, IntWalk.iteOmega, IntWalk.toNatUp, reduceCtorEq]
  exact ret_d1 (by simp only [wx, wy, wz, stV, seval, IntWalk.iteOmega, IntWalk.toNatUp, reduceCtorEq])
/-! ### Parts -/
theorem unf_at {d u lo hi : Int} (h1 : 0 ≤ lo) (h2 : hi ≤ 1152921504606846976) (h3 : lo ≤ hi) (h4 : hi - lo ≤ 36028797018963968) (h5 : d ≤ u) (h6 : u ≤ d + 1) :
    unfE d u lo hi = 0 ∧ unfW d u lo hi = unfL d u lo hi ∧ (unfL d u lo hi).length = unfN d u lo hi ∧ unfN d u lo hi ≤ 20 := by
  have hv : okP (lo, hi) = true := okP_d ⟨by omega, h2, h3⟩
  have hc := unf_count (d := d) (u := u) h3 h5 h6
  have hn : unfN d u lo hi ≤ 20 := by omega
  refine ⟨?_, if_pos ⟨hv, by omega⟩, unfP_len _ _ _ _, hn⟩
  unfold unfE
  rw [if_pos hv, if_pos (by omega)]
theorem drop_map1 {α β : Type} (f : α → β) (l : List α) : (l.map f).drop 1 = (l.drop 1).map f := by rw [List.map_drop]
def sf_knes14 : SFn := ⟨4, 99,
  .seq (.reg [⟨(some 8), .mv (.k (.c (.d (.bool false)))), none⟩])
  (.seq (.reg [⟨(some 16), .mv (.t 0), none⟩,
    ⟨(some 17), .call 8 [(.t 16), (.k (.c (.d (.int .i64 144115188075855872))))] none, none⟩,
    ⟨(some 18), .mv (.t 1), none⟩,
    ⟨(some 19), .call 8 [(.t 18), (.k (.c (.d (.int .i64 36028797018963968))))] none, none⟩,
    ⟨(some 0), .mv (.t 17), none⟩,
    ⟨(some 1), .mv (.t 19), none⟩])
  (.seq (.reg [⟨(some 20), .mv (.t 2), none⟩,
    ⟨(some 21), .mv (.t 1), none⟩,
    ⟨(some 22), .bin .add (.t 21) (.k (.c (.d (.int .i64 1)))), none⟩,
    ⟨(some 23), .call 8 [(.t 20), (.t 22)] none, none⟩,
    ⟨(some 2), .mv (.t 23), none⟩])
  (.seq (.reg [⟨(some 25), .mv (.t 0), none⟩,
    ⟨(some 26), .mv (.t 0), none⟩,
    ⟨(some 27), .mv (.t 1), none⟩,
    ⟨(some 28), .bin .add (.t 26) (.t 27), none⟩,
    ⟨(some 29), .build [(.d (.int .i64 0)), (.d (.int .i64 0))] [(0, 1, (.t 25)), (1, 1, (.t 28))], none⟩,
    ⟨(some 30), .mv (.t 3), none⟩,
    ⟨(some 31), .call 11 [(.t 29), (.t 30)] none, none⟩,
    ⟨(some 24), .mv (.t 31), none⟩,
    ⟨(some 32), .extract (.t 24) 0, none⟩,
    ⟨(some 33), .extract (.t 24) 1, none⟩,
    ⟨(some 9), .mv (.t 32), none⟩,
    ⟨(some 10), .mv (.t 33), none⟩])
  (.seq (.reg [⟨(some 35), .mv (.t 0), none⟩,
    ⟨(some 36), .mv (.t 0), none⟩,
    ⟨(some 37), .mv (.t 2), none⟩,
    ⟨(some 38), .bin .add (.t 36) (.t 37), none⟩,
    ⟨(some 39), .build [(.d (.int .i64 0)), (.d (.int .i64 0))] [(0, 1, (.t 35)), (1, 1, (.t 38))], none⟩,
    ⟨(some 40), .mv (.t 3), none⟩,
    ⟨(some 41), .call 11 [(.t 39), (.t 40)] none, none⟩,
    ⟨(some 34), .mv (.t 41), none⟩,
    ⟨(some 42), .extract (.t 34) 0, none⟩,
    ⟨(some 43), .extract (.t 34) 1, none⟩,
    ⟨(some 11), .mv (.t 42), none⟩,
    ⟨(some 12), .mv (.t 43), none⟩])
  (.seq (.reg [⟨(some 45), .mv (.t 0), none⟩,
    ⟨(some 46), .mv (.t 2), none⟩,
    ⟨(some 47), .bin .add (.t 45) (.t 46), none⟩,
    ⟨(some 48), .mv (.t 0), none⟩,
    ⟨(some 49), .mv (.t 1), none⟩,
    ⟨(some 50), .bin .add (.t 48) (.t 49), none⟩,
    ⟨(some 51), .build [(.d (.int .i64 0)), (.d (.int .i64 0))] [(0, 1, (.t 47)), (1, 1, (.t 50))], none⟩,
    ⟨(some 52), .mv (.t 3), none⟩,
    ⟨(some 53), .call 11 [(.t 51), (.t 52)] none, none⟩,
    ⟨(some 44), .mv (.t 53), none⟩,
    ⟨(some 54), .extract (.t 44) 0, none⟩,
    ⟨(some 55), .extract (.t 44) 1, none⟩,
    ⟨(some 13), .mv (.t 54), none⟩,
    ⟨(some 14), .mv (.t 55), none⟩])
  (.seq (.seq (.reg [⟨(some 56), .mv (.t 10), none⟩,
    ⟨(some 57), .bin .neq (.t 56) (.k (.c (.d (.int .i64 0)))), none⟩,
    ⟨(some 58), .mv (.t 57), none⟩,
    ⟨(some 59), .mv (.t 12), (some (58, false))⟩,
    ⟨(some 60), .bin .neq (.t 59) (.k (.c (.d (.int .i64 0)))), (some (58, false))⟩,
    ⟨(some 61), .pick (.t 58) (.k (.c (.d (.bool true)))) (.t 60), none⟩,
    ⟨(some 62), .mv (.t 61), none⟩,
    ⟨(some 63), .mv (.t 14), (some (62, false))⟩,
    ⟨(some 64), .bin .neq (.t 63) (.k (.c (.d (.int .i64 0)))), (some (62, false))⟩,
    ⟨(some 65), .pick (.t 62) (.k (.c (.d (.bool true)))) (.t 64), none⟩])
  (.cond (.t 65) (.seq (.reg [⟨(some 8), .mv (.k (.c (.d (.bool false)))), none⟩])
   (.ret))
   (.skip)))
  (.seq (.reg [⟨(some 66), .mv (.t 11), none⟩,
    ⟨(some 67), .len (.t 66), none⟩,
    ⟨(some 68), .bin .gtr (.t 67) (.k (.c (.d (.int .i64 0)))), none⟩,
    ⟨(some 69), .mv (.t 68), none⟩,
    ⟨(some 70), .mv (.t 13), (some (69, true))⟩,
    ⟨(some 71), .len (.t 70), (some (69, true))⟩,
    ⟨(some 72), .bin .gtr (.t 71) (.k (.c (.d (.int .i64 0)))), (some (69, true))⟩,
    ⟨(some 73), .pick (.t 69) (.t 72) (.k (.c (.d (.bool false)))), none⟩,
    ⟨(some 74), .mv (.t 73), none⟩,
    ⟨(some 75), .mv (.t 11), (some (74, true))⟩,
    ⟨(some 76), .mv (.t 11), (some (74, true))⟩,
    ⟨(some 77), .len (.t 76), (some (74, true))⟩,
    ⟨(some 78), .bin .sub (.t 77) (.k (.c (.d (.int .i64 1)))), (some (74, true))⟩,
    ⟨(some 79), .idxSl 2 (.t 75) (.t 78), (some (74, true))⟩,
    ⟨(some 80), .load (.ag 2) (.t 79), (some (74, true))⟩,
    ⟨(some 81), .mv (.t 13), (some (74, true))⟩,
    ⟨(some 82), .idxSl 2 (.t 81) (.k (.c (.d (.int .i64 0)))), (some (74, true))⟩,
    ⟨(some 83), .load (.ag 2) (.t 82), (some (74, true))⟩,
    ⟨(some 84), .eqA false [0, 0] (.t 80) (.t 83), (some (74, true))⟩,
    ⟨(some 85), .pick (.t 74) (.t 84) (.k (.c (.d (.bool false)))), none⟩,
    ⟨(some 15), .mv (.t 85), none⟩])
  (.seq (.seq (.reg [⟨(some 86), .mv (.t 15), none⟩])
  (.cond (.t 86) (.reg [⟨(some 87), .mv (.t 13), none⟩,
     ⟨(some 88), .slice 2 (.t 87) (some (.k (.c (.d (.int .i64 1))))) none none, none⟩,
     ⟨(some 13), .mv (.t 88), none⟩])
   (.skip)))
  (.seq (.reg [⟨(some 89), .call 12 [] none, none⟩,
    ⟨(some 90), .mv (.t 89), none⟩,
    ⟨(some 91), .bldSl false 0 2 (.agg [(.int .i64 0), (.int .i64 0)]) [], (some (90, true))⟩,
    ⟨(some 92), .mv (.t 11), (some (90, true))⟩,
    ⟨(some 93), .appN false 2 16 (.t 91) (.t 92), (some (90, true))⟩,
    ⟨(some 94), .mv (.t 13), (some (90, true))⟩,
    ⟨(some 95), .app false 2 16 (.t 93) (.t 94), (some (90, true))⟩,
    ⟨(some 96), .mv (.t 9), (some (90, true))⟩,
    ⟨(some 97), .call 15 [(.t 95), (.t 96)] none, (some (90, true))⟩,
    ⟨(some 98), .pick (.t 90) (.t 97) (.k (.c (.d (.bool false)))), none⟩,
    ⟨(some 8), .mv (.t 98), none⟩])
  (.ret)))))))))),
  [(8, none)]⟩
theorem cf_knes14 : compFn Try.prog { own := [], comp := [], frz := [], nils := [93] } Try.f7 = some sf_knes14 := by kernel_rfl
set_option maxHeartbeats 1600000 in
theorem knes14_c (G : Glob) (a : Int) (ha1 : -9223372036854775808 ≤ a) (ha2 : a ≤ 9223372036854775807) (v : Int) (hv1 : -9223372036854775808 ≤ v) (hv2 : v ≤ 9223372036854775807) (k : Int) (hk1 : -9223372036854775808 ≤ k) (hk2 : k ≤ 9223372036854775807) (w : Nat) (hw : w < 18446744073709551616)  : Den Try.prog G 7 [.int .i64 a, .int .i64 v, .int .i64 k, .int .u64 (w : Int)] (.w (.c (.d (.bool true)))) := by
  refine den_walk Try.func7 cf_knes14 rfl rfl ?_
  have hm : maxLen ≤ 9223372036854775807 := by decide
  have r1 := withinN_range a 144115188075855872 (by decide)
  have r2 := withinN_range v 36028797018963968 (by decide)
  have c1 := within_c G a 144115188075855872 (by decide)
  have c2 := within_c G v 36028797018963968 (by decide)
  generalize withinN a 144115188075855872 = A at *
  generalize withinN v 36028797018963968 = V at *
  have r3 := withinN_range k (V + 1) (by omega)
  have c3 := within_c G k (V + 1) (by omega)
  generalize withinN k (V + 1) = C at *
  have w1 : (0 : Int) ≤ (w : Int) := by omega
  have w2 : (w : Int) < 18446744073709551616 := by omega
  obtain ⟨u1, u2, u3, u4, _⟩ := up_in w1 w2
  have ca := gunf_c G A (A + V) w w1 w2
  have cx := gunf_c G A (A + C) w w1 w2
  have cy := gunf_c G (A + C) (A + V) w w1 w2
  obtain ⟨a1, a2, a3, a4⟩ := unf_at (d := (w : Int) / 4096) (u := upV w) (lo := A) (hi := A + V) (by omega) (by omega) (by omega) (by omega) u3 u4
  obtain ⟨x1, x2, x3, x4⟩ := unf_at (d := (w : Int) / 4096) (u := upV w) (lo := A) (hi := A + C) (by omega) (by omega) (by omega) (by omega) u3 u4
  obtain ⟨y1, y2, y3, y4⟩ := unf_at (d := (w : Int) / 4096) (u := upV w) (lo := A + C) (hi := A + V) (by omega) (by omega) (by omega) (by omega) u3 u4
  rw [a1, a2] at ca
  rw [x1, x2] at cx
  rw [y1, y2] at cy
  have i1 := (unfN_i (d := (w : Int) / 4096) (u := upV w) (lo := A) (hi := A + C) (by omega) u3 u4).1
  have i2 := (unfN_i (d := (w : Int) / 4096) (u := upV w) (lo := A + C) (hi := A + V) (by omega) u3 u4).1
  have nb := nest_b (d := (w : Int) / 4096) (u := upV w) (a := A) (c := A + C) (b := A + V) (by omega) (by omega) u3 u4
  have na := nest_a (d := (w : Int) / 4096) (u := upV w) (a := A) (c := A + C) (b := A + V) (by omega) (by omega) u3 u4
  have part := unf_parts (d := (w : Int) / 4096) (u := upV w) (a := A) (c := A + C) (b := A + V) (by omega) (by omega) u3 u4
  have mpq : eraA A (upV w) ≤ eraA (A + C) (upV w) := by unfold eraA; omega
  have mrs : eraB (A + C) ((w : Int) / 4096) ≤ eraB (A + V) ((w : Int) / 4096) := by unfold eraB; omega
  have gx : ∀ n, n < unfN ((w : Int) / 4096) (upV w) A (A + C) → _ := fun n hn => erL_get (d := (w : Int) / 4096) (u := upV w) (a := eraA A (upV w)) hn
  have gy : ∀ n, n < unfN ((w : Int) / 4096) (upV w) (A + C) (A + V) → _ := fun n hn => erL_get (d := (w : Int) / 4096) (u := upV w) (a := eraA (A + C) (upV w)) hn
  simp only [← unfL_er] at gx gy
  have same : ∀ l m : List Spn, l.length ≤ 100 → m.length ≤ 100 → l = m → Den Try.prog G 15 [.sl (l.map spD), .sl (m.map spD)] (.w (.c (.d (.bool true)))) := fun l m h1 h2 h3 => by
    have := rsps_c G l m (by omega) (by omega)
    rwa [decide_eq_true h3] at this
  generalize unfL ((w : Int) / 4096) (upV w) A (A + V) = L at *
  generalize unfL ((w : Int) / 4096) (upV w) A (A + C) = X at *
  generalize unfL ((w : Int) / 4096) (upV w) (A + C) (A + V) = Y at *
  generalize unfN ((w : Int) / 4096) (upV w) A (A + V) = n at *
  generalize unfN ((w : Int) / 4096) (upV w) A (A + C) = n1 at *
  generalize unfN ((w : Int) / 4096) (upV w) (A + C) (A + V) = n2 at *
  generalize eraA A (upV w) = p at *
  generalize eraA (A + C) (upV w) = q at *
  generalize eraB (A + C) ((w : Int) / 4096) = r at *
  generalize eraB (A + V) ((w : Int) / 4096) = s at *
  by_cases h1 : X.length = 0
  · have hX : X = [] := List.length_eq_zero_iff.1 h1
    subst hX
    have hr : r + 1 = q := by rw [List.length_nil] at x3; omega
    have sz := allSz_sp Y
    have cs := same Y L (by omega) (by omega) (na hr)
    simp only [sf_knes14, putAll, wx, wy, wz, stV, seval, IntWalk.iteOmega, IntWalk.toNatUp, reduceCtorEq]
    refine st_call (c1) rfl (.inl rfl) ?_
    simp only [wx, wy, wz, stV, seval, IntWalk.iteOmega, IntWalk.toNatUp, reduceCtorEq]
    refine st_call (c2) rfl (.inl rfl) ?_
    simp only [wx, wy, wz, stV, seval, IntWalk.iteOmega, IntWalk.toNatUp, reduceCtorEq]
    refine st_call (c3) rfl (.inl rfl) ?_
    simp only [wx, wy, wz, stV, seval, IntWalk.iteOmega, IntWalk.toNatUp, reduceCtorEq]
    refine st_call (ca) rfl (.inl rfl) ?_
    simp only [wx, wy, wz, stV, seval, IntWalk.iteOmega, IntWalk.toNatUp, reduceCtorEq]
    refine st_call (cx) rfl (.inl rfl) ?_
    simp only [wx, wy, wz, stV, seval, IntWalk.iteOmega, IntWalk.toNatUp, reduceCtorEq]
    refine st_call (cy) rfl (.inl rfl) ?_
    simp only [wx, wy, wz, stV, seval, IntWalk.iteOmega, IntWalk.toNatUp, reduceCtorEq]
    refine st_call (known14_c G) rfl (.inl rfl) ?_
    simp only [srcV, sz, wx, wy, wz, stV, seval, IntWalk.iteOmega, IntWalk.toNatUp, reduceCtorEq]
    refine st_call cs (by simp only [wx, wy, wz, stV, seval, IntWalk.iteOmega, IntWalk.toNatUp, reduceCtorEq]) (.inr rfl) ?_
    simp only [wx, wy, wz, stV, seval, IntWalk.iteOmega, IntWalk.toNatUp, reduceCtorEq]
    exact ret_d1 (by simp only [wx, wy, wz, stV, seval, IntWalk.iteOmega, IntWalk.toNatUp, reduceCtorEq])
  · have gt1 : ((X.length : Int) > 0) = True := eq_true (by omega)
    by_cases h2 : Y.length = 0
    · have hY : Y = [] := List.length_eq_zero_iff.1 h2
      subst hY
      have hr : r + 1 = q := by rw [List.length_nil] at y3; omega
      have cs := same X L (by omega) (by omega) (by rw [← na hr, List.append_nil])
      have sx := allSz_sp X
      simp only [sf_knes14, putAll, wx, wy, wz, stV, seval, IntWalk.iteOmega, IntWalk.toNatUp, reduceCtorEq]
      refine st_call (c1) rfl (.inl rfl) ?_
      simp only [wx, wy, wz, stV, seval, IntWalk.iteOmega, IntWalk.toNatUp, reduceCtorEq]
      refine st_call (c2) rfl (.inl rfl) ?_
      simp only [wx, wy, wz, stV, seval, IntWalk.iteOmega, IntWalk.toNatUp, reduceCtorEq]
      refine st_call (c3) rfl (.inl rfl) ?_
      simp only [wx, wy, wz, stV, seval, IntWalk.iteOmega, IntWalk.toNatUp, reduceCtorEq]
      refine st_call (ca) rfl (.inl rfl) ?_
      simp only [wx, wy, wz, stV, seval, IntWalk.iteOmega, IntWalk.toNatUp, reduceCtorEq]
      refine st_call (cx) rfl (.inl rfl) ?_
      simp only [wx, wy, wz, stV, seval, IntWalk.iteOmega, IntWalk.toNatUp, reduceCtorEq]
      refine st_call (cy) rfl (.inl rfl) ?_
      simp only [gt1, wx, wy, wz, stV, seval, IntWalk.iteOmega, IntWalk.toNatUp, reduceCtorEq]
      refine st_call (known14_c G) rfl (.inl rfl) ?_
      simp only [srcV, sx, wx, wy, wz, stV, seval, IntWalk.iteOmega, IntWalk.toNatUp, reduceCtorEq]
      refine st_call cs (by simp only [wx, wy, wz, stV, seval, IntWalk.iteOmega, IntWalk.toNatUp, reduceCtorEq]) (.inr rfl) ?_
      simp only [wx, wy, wz, stV, seval, IntWalk.iteOmega, IntWalk.toNatUp, reduceCtorEq]
      exact ret_d1 (by simp only [wx, wy, wz, stV, seval, IntWalk.iteOmega, IntWalk.toNatUp, reduceCtorEq])
    · have gt2 : ((Y.length : Int) > 0) = True := eq_true (by omega)
      have g1 := gx (n1 - 1) (by omega)
      have g2 := gy 0 (by omega)
      have e1 : p + ((n1 - 1 : Nat) : Int) = r := by omega
      have e2 : q + ((0 : Nat) : Int) = q := by omega
      have e3 : ((X.length : Int) - 1).toNat = n1 - 1 := by omega
      have e4 : ((X.length : Int) - 1 < 0) = False := eq_false (by omega)
      rw [e1] at g1
      rw [e2] at g2
      have z1 : spD (eraS ((w : Int) / 4096) (upV w) r) = .agg [.int .i64 (r * 4503599627370496 + (w : Int) / 4096), .int .i64 (r * 4503599627370496 + upV w)] := rfl
      have z2 : spD (eraS ((w : Int) / 4096) (upV w) q) = .agg [.int .i64 (q * 4503599627370496 + (w : Int) / 4096), .int .i64 (q * 4503599627370496 + upV w)] := rfl
      rcases part with ⟨k1, k2⟩ | k1
      · have hne : (r * 4503599627370496 + (w : Int) / 4096 = q * 4503599627370496 + (w : Int) / 4096) = False := eq_false (by omega)
        have sx := allSz_sp X
        have sz := allSz_sp Y
        have e6 : List.take (X.length + Y.length) (X ++ Y) = X ++ Y := List.take_of_length_le (by simp)
        have cs := same (X ++ Y) L (by simp; omega) (by omega) (na k2)
        simp only [sf_knes14, putAll, wx, wy, wz, stV, seval, IntWalk.iteOmega, IntWalk.toNatUp, reduceCtorEq]
        refine st_call (c1) rfl (.inl rfl) ?_
        simp only [wx, wy, wz, stV, seval, IntWalk.iteOmega, IntWalk.toNatUp, reduceCtorEq]
        refine st_call (c2) rfl (.inl rfl) ?_
        simp only [wx, wy, wz, stV, seval, IntWalk.iteOmega, IntWalk.toNatUp, reduceCtorEq]
        refine st_call (c3) rfl (.inl rfl) ?_
        simp only [wx, wy, wz, stV, seval, IntWalk.iteOmega, IntWalk.toNatUp, reduceCtorEq]
        refine st_call (ca) rfl (.inl rfl) ?_
        simp only [wx, wy, wz, stV, seval, IntWalk.iteOmega, IntWalk.toNatUp, reduceCtorEq]
        refine st_call (cx) rfl (.inl rfl) ?_
        simp only [wx, wy, wz, stV, seval, IntWalk.iteOmega, IntWalk.toNatUp, reduceCtorEq]
        refine st_call (cy) rfl (.inl rfl) ?_
        simp only [gt1, gt2, e3, e4, get_map, g1, g2, z1, z2, hne, wx, wy, wz, stV, seval, IntWalk.iteOmega, IntWalk.toNatUp, reduceCtorEq]
        refine st_call (known14_c G) rfl (.inl rfl) ?_
        simp only [srcV, sx, sz, wx, wy, wz, stV, seval, IntWalk.iteOmega, IntWalk.toNatUp, reduceCtorEq]
        refine st_call cs (by simp only [wx, wy, wz, stV, seval, IntWalk.iteOmega, IntWalk.toNatUp, reduceCtorEq, e6]) (.inr rfl) ?_
        simp only [wx, wy, wz, stV, seval, IntWalk.iteOmega, IntWalk.toNatUp, reduceCtorEq]
        exact ret_d1 (by simp only [wx, wy, wz, stV, seval, IntWalk.iteOmega, IntWalk.toNatUp, reduceCtorEq])
      · obtain ⟨D, hD⟩ : ∃ D, Y.drop 1 = D := ⟨_, rfl⟩
        have e5 : List.take (Y.length - 1) (List.drop 1 Y) = D := by rw [← hD]; exact List.take_of_length_le (by simp)
        have hk := nb k1
        have ld : (Y.drop 1).length ≤ 20 := by rw [List.length_drop]; omega
        rw [hD] at hk ld
        have sz := allSz_sp Y
        have sx := allSz_sp X
        have szd := allSz_sp D
        have e6 : List.take (X.length + D.length) (X ++ D) = X ++ D := List.take_of_length_le (by simp)
        have cs := same (X ++ D) L (by simp; omega) (by omega) hk
        clear nb
        subst k1
        simp only [sf_knes14, putAll, wx, wy, wz, stV, seval, IntWalk.iteOmega, IntWalk.toNatUp, reduceCtorEq]
        refine st_call (c1) rfl (.inl rfl) ?_
        simp only [wx, wy, wz, stV, seval, IntWalk.iteOmega, IntWalk.toNatUp, reduceCtorEq]
        refine st_call (c2) rfl (.inl rfl) ?_
        simp only [wx, wy, wz, stV, seval, IntWalk.iteOmega, IntWalk.toNatUp, reduceCtorEq]
        refine st_call (c3) rfl (.inl rfl) ?_
        simp only [wx, wy, wz, stV, seval, IntWalk.iteOmega, IntWalk.toNatUp, reduceCtorEq]
        refine st_call (ca) rfl (.inl rfl) ?_
        simp only [wx, wy, wz, stV, seval, IntWalk.iteOmega, IntWalk.toNatUp, reduceCtorEq]
        refine st_call (cx) rfl (.inl rfl) ?_
        simp only [wx, wy, wz, stV, seval, IntWalk.iteOmega, IntWalk.toNatUp, reduceCtorEq]
        refine st_call (cy) rfl (.inl rfl) ?_
        simp only [gt1, gt2, e3, e4, get_map, g1, g2, z1, z2, sz, e5, wx, wy, wz, stV, seval, IntWalk.iteOmega, IntWalk.toNatUp, reduceCtorEq]
        refine st_call (known14_c G) rfl (.inl rfl) ?_
        simp only [srcV, sx, szd, wx, wy, wz, stV, seval, IntWalk.iteOmega, IntWalk.toNatUp, reduceCtorEq]
        refine st_call cs (by simp only [wx, wy, wz, stV, seval, IntWalk.iteOmega, IntWalk.toNatUp, reduceCtorEq, e6]) (.inr rfl) ?_
        simp only [wx, wy, wz, stV, seval, IntWalk.iteOmega, IntWalk.toNatUp, reduceCtorEq]
        exact ret_d1 (by simp only [wx, wy, wz, stV, seval, IntWalk.iteOmega, IntWalk.toNatUp, reduceCtorEq])
/-! ### All spans of Unfold -/
def euSt (w lo hi : Int) (L : List Spn) (i : Nat) : St := ⟨ofL [(2, .w (.c (.d (.int .u64 w)))), (7, .w (.c (.ptr 1 1 0 0))), (8, .w (.c (.d (.sl (L.map spD))))), (10, .w (.c (.d (.int .i64 (i : Int)))))],
  hL [(1, .box [.d (.int .i64 lo), .d (.int .i64 hi)])], uL [1]⟩
def lp_kunf14_0 : SCode :=
  .seq (.seq (.reg [⟨(some 30), .mv (.t 10), none⟩,
    ⟨(some 31), .mv (.t 8), none⟩,
    ⟨(some 32), .len (.t 31), none⟩,
    ⟨(some 33), .bin .lss (.t 30) (.t 32), none⟩])
  (.cond (.t 33) (.skip)
   (.exit 0)))
  (.seq (.block 1 (.seq (.reg [⟨(some 37), .mv (.t 8), none⟩,
     ⟨(some 38), .mv (.t 10), none⟩,
     ⟨(some 39), .idxSl 2 (.t 37) (.t 38), none⟩,
     ⟨(some 40), .fieldAddr 0 (.t 39), none⟩,
     ⟨(some 41), .load .sc (.t 40), none⟩,
     ⟨(some 42), .call 9 [(.t 41)] none, none⟩,
     ⟨(some 36), .mv (.t 42), none⟩,
     ⟨(some 43), .extract (.t 36) 0, none⟩,
     ⟨(some 44), .extract (.t 36) 1, none⟩,
     ⟨(some 11), .mv (.t 43), none⟩,
     ⟨(some 12), .mv (.t 44), none⟩])
   (.seq (.reg [⟨(some 45), .mv (.t 12), none⟩,
     ⟨(some 46), .bin .neq (.t 45) (.k (.c (.d (.int .i64 0)))), none⟩,
     ⟨(some 47), .mv (.t 46), none⟩,
     ⟨(some 48), .mv (.t 11), (some (47, false))⟩,
     ⟨(some 49), .bin .shr (.t 48) (.k (.c (.d (.int .u64 12)))), (some (47, false))⟩,
     ⟨(some 50), .mv (.t 2), (some (47, false))⟩,
     ⟨(some 51), .bin .shr (.t 50) (.k (.c (.d (.int .u64 12)))), (some (47, false))⟩,
     ⟨(some 52), .bin .neq (.t 49) (.t 51), (some (47, false))⟩,
     ⟨(some 53), .pick (.t 47) (.k (.c (.d (.bool true)))) (.t 52), none⟩,
     ⟨(some 54), .mv (.t 53), none⟩,
     ⟨(some 55), .mv (.t 8), (some (54, false))⟩,
     ⟨(some 56), .mv (.t 10), (some (54, false))⟩,
     ⟨(some 57), .idxSl 2 (.t 55) (.t 56), (some (54, false))⟩,
     ⟨(some 58), .fieldAddr 1 (.t 57), (some (54, false))⟩,
     ⟨(some 59), .load .sc (.t 58), (some (54, false))⟩,
     ⟨(some 60), .mv (.t 8), (some (54, false))⟩,
     ⟨(some 61), .mv (.t 10), (some (54, false))⟩,
     ⟨(some 62), .idxSl 2 (.t 60) (.t 61), (some (54, false))⟩,
     ⟨(some 63), .fieldAddr 0 (.t 62), (some (54, false))⟩,
     ⟨(some 64), .load .sc (.t 63), (some (54, false))⟩,
     ⟨(some 65), .bin .sub (.t 59) (.t 64), (some (54, false))⟩,
     ⟨(some 66), .bin .gtr (.t 65) (.k (.c (.d (.int .i64 1)))), (some (54, false))⟩,
     ⟨(some 67), .pick (.t 54) (.k (.c (.d (.bool true)))) (.t 66), none⟩,
     ⟨(some 68), .mv (.t 67), none⟩,
     ⟨(some 69), .mv (.t 8), (some (68, false))⟩,
     ⟨(some 70), .mv (.t 10), (some (68, false))⟩,
     ⟨(some 71), .idxSl 2 (.t 69) (.t 70), (some (68, false))⟩,
     ⟨(some 72), .fieldAddr 1 (.t 71), (some (68, false))⟩,
     ⟨(some 73), .load .sc (.t 72), (some (68, false))⟩,
     ⟨(some 74), .mv (.t 8), (some (68, false))⟩,
     ⟨(some 75), .mv (.t 10), (some (68, false))⟩,
     ⟨(some 76), .idxSl 2 (.t 74) (.t 75), (some (68, false))⟩,
     ⟨(some 77), .fieldAddr 0 (.t 76), (some (68, false))⟩,
     ⟨(some 78), .load .sc (.t 77), (some (68, false))⟩,
     ⟨(some 79), .bin .eql (.t 73) (.t 78), (some (68, false))⟩,
     ⟨(some 80), .mv (.t 2), (some (68, false))⟩,
     ⟨(some 81), .bin .and (.t 80) (.k (.c (.d (.int .u64 4095)))), (some (68, false))⟩,
     ⟨(some 82), .bin .eql (.t 81) (.k (.c (.d (.int .u64 0)))), (some (68, false))⟩,
     ⟨(some 83), .eqB true (.t 79) (.t 82), (some (68, false))⟩,
     ⟨(some 84), .pick (.t 68) (.k (.c (.d (.bool true)))) (.t 83), none⟩,
     ⟨(some 85), .mv (.t 84), none⟩,
     ⟨(some 86), .mv (.t 10), (some (85, false))⟩,
     ⟨(some 87), .bin .gtr (.t 86) (.k (.c (.d (.int .i64 0)))), (some (85, false))⟩,
     ⟨(some 88), .mv (.t 87), (some (85, false))⟩,
     ⟨(some 89), .mv (.t 8), (some (88, true))⟩,
     ⟨(some 90), .mv (.t 10), (some (88, true))⟩,
     ⟨(some 91), .idxSl 2 (.t 89) (.t 90), (some (88, true))⟩,
     ⟨(some 92), .fieldAddr 0 (.t 91), (some (88, true))⟩,
     ⟨(some 93), .load .sc (.t 92), (some (88, true))⟩,
     ⟨(some 94), .mv (.t 8), (some (88, true))⟩,
     ⟨(some 95), .mv (.t 10), (some (88, true))⟩,
     ⟨(some 96), .bin .sub (.t 95) (.k (.c (.d (.int .i64 1)))), (some (88, true))⟩,
     ⟨(some 97), .idxSl 2 (.t 94) (.t 96), (some (88, true))⟩,
     ⟨(some 98), .fieldAddr 0 (.t 97), (some (88, true))⟩,
     ⟨(some 99), .load .sc (.t 98), (some (88, true))⟩,
     ⟨(some 100), .bin .sub (.t 93) (.t 99), (some (88, true))⟩,
     ⟨(some 101), .bin .neq (.t 100) (.k (.c (.d (.int .i64 4503599627370496)))), (some (88, true))⟩,
     ⟨(some 102), .pick (.t 88) (.t 101) (.k (.c (.d (.bool false)))), (some (85, false))⟩,
     ⟨(some 103), .pick (.t 85) (.k (.c (.d (.bool true)))) (.t 102), none⟩,
     ⟨(some 104), .mv (.t 103), none⟩,
     ⟨(some 105), .mv (.t 8), (some (104, false))⟩,
     ⟨(some 106), .mv (.t 10), (some (104, false))⟩,
     ⟨(some 107), .idxSl 2 (.t 105) (.t 106), (some (104, false))⟩,
     ⟨(some 108), .fieldAddr 0 (.t 107), (some (104, false))⟩,
     ⟨(some 109), .load .sc (.t 108), (some (104, false))⟩,
     ⟨(some 110), .fieldAddr 1 (.t 7), (some (104, false))⟩,
     ⟨(some 111), .load .sc (.t 110), (some (104, false))⟩,
     ⟨(some 112), .bin .gtr (.t 109) (.t 111), (some (104, false))⟩,
     ⟨(some 113), .pick (.t 104) (.k (.c (.d (.bool true)))) (.t 112), none⟩,
     ⟨(some 114), .mv (.t 113), none⟩,
     ⟨(some 115), .mv (.t 8), (some (114, false))⟩,
     ⟨(some 116), .mv (.t 10), (some (114, false))⟩,
     ⟨(some 117), .idxSl 2 (.t 115) (.t 116), (some (114, false))⟩,
     ⟨(some 118), .fieldAddr 1 (.t 117), (some (114, false))⟩,
     ⟨(some 119), .load .sc (.t 118), (some (114, false))⟩,
     ⟨(some 120), .fieldAddr 0 (.t 7), (some (114, false))⟩,
     ⟨(some 121), .load .sc (.t 120), (some (114, false))⟩,
     ⟨(some 122), .bin .lss (.t 119) (.t 121), (some (114, false))⟩,
     ⟨(some 123), .pick (.t 114) (.k (.c (.d (.bool true)))) (.t 122), none⟩])
   (.cond (.t 123) (.seq (.reg [⟨(some 6), .mv (.k (.c (.d (.bool false)))), none⟩])
    (.ret))
    (.skip)))))
  (.reg [⟨(some 34), .mv (.t 10), none⟩,
    ⟨(some 35), .bin .add (.t 34) (.k (.c (.d (.int .i64 1)))), none⟩,
    ⟨(some 10), .mv (.t 35), none⟩]))
def sf_kunf14 : SFn := ⟨3, 144,
  .seq (.reg [⟨(some 6), .mv (.k (.c (.d (.bool false)))), none⟩])
  (.seq (.reg [⟨(some 14), .mv (.t 0), none⟩,
    ⟨(some 15), .call 8 [(.t 14), (.k (.c (.d (.int .i64 144115188075855872))))] none, none⟩,
    ⟨(some 0), .mv (.t 15), none⟩])
  (.seq (.reg [⟨(some 16), .mv (.t 0), none⟩,
    ⟨(some 17), .mv (.t 0), none⟩,
    ⟨(some 18), .mv (.t 1), none⟩,
    ⟨(some 19), .call 8 [(.t 18), (.k (.c (.d (.int .i64 36028797018963968))))] none, none⟩,
    ⟨(some 20), .bin .add (.t 17) (.t 19), none⟩,
    ⟨(some 21), .build [(.d (.int .i64 0)), (.d (.int .i64 0))] [(0, 1, (.t 16)), (1, 1, (.t 20))], none⟩,
    ⟨(some 7), .alloc [(.d (.int .i64 0)), (.d (.int .i64 0))], none⟩,
    ⟨none, .store (.ag 2) (.t 7) (.t 21), none⟩])
  (.seq (.reg [⟨(some 23), .load (.ag 2) (.t 7), none⟩,
    ⟨(some 24), .mv (.t 2), none⟩,
    ⟨(some 25), .call 11 [(.t 23), (.t 24)] none, none⟩,
    ⟨(some 22), .mv (.t 25), none⟩,
    ⟨(some 26), .extract (.t 22) 0, none⟩,
    ⟨(some 27), .extract (.t 22) 1, none⟩,
    ⟨(some 8), .mv (.t 26), none⟩,
    ⟨(some 9), .mv (.t 27), none⟩])
  (.seq (.seq (.reg [⟨(some 28), .mv (.t 9), none⟩,
    ⟨(some 29), .bin .neq (.t 28) (.k (.c (.d (.int .i64 0)))), none⟩])
  (.cond (.t 29) (.seq (.reg [⟨(some 6), .mv (.k (.c (.d (.bool false)))), none⟩])
   (.ret))
   (.skip)))
  (.seq (.seq (.reg [⟨(some 10), .mv (.k (.c (.d (.int .i64 0)))), none⟩])
  (.block 0 (.loop lp_kunf14_0)))
  (.seq (.reg [⟨(some 124), .fieldAddr 1 (.t 7), none⟩,
    ⟨(some 125), .load .sc (.t 124), none⟩,
    ⟨(some 126), .fieldAddr 0 (.t 7), none⟩,
    ⟨(some 127), .load .sc (.t 126), none⟩,
    ⟨(some 128), .bin .sub (.t 125) (.t 127), none⟩,
    ⟨(some 129), .bin .shr (.t 128) (.k (.c (.d (.int .u64 52)))), none⟩,
    ⟨(some 13), .mv (.t 129), none⟩])
  (.seq (.reg [⟨(some 130), .call 12 [] none, none⟩,
    ⟨(some 131), .mv (.t 130), none⟩,
    ⟨(some 132), .mv (.t 8), (some (131, true))⟩,
    ⟨(some 133), .len (.t 132), (some (131, true))⟩,
    ⟨(some 134), .mv (.t 13), (some (131, true))⟩,
    ⟨(some 135), .bin .geq (.t 133) (.t 134), (some (131, true))⟩,
    ⟨(some 136), .pick (.t 131) (.t 135) (.k (.c (.d (.bool false)))), none⟩,
    ⟨(some 137), .mv (.t 136), none⟩,
    ⟨(some 138), .mv (.t 8), (some (137, true))⟩,
    ⟨(some 139), .len (.t 138), (some (137, true))⟩,
    ⟨(some 140), .mv (.t 13), (some (137, true))⟩,
    ⟨(some 141), .bin .add (.t 140) (.k (.c (.d (.int .i64 2)))), (some (137, true))⟩,
    ⟨(some 142), .bin .leq (.t 139) (.t 141), (some (137, true))⟩,
    ⟨(some 143), .pick (.t 137) (.t 142) (.k (.c (.d (.bool false)))), none⟩,
    ⟨(some 6), .mv (.t 143), none⟩])
  (.ret)))))))),
  [(6, none)]⟩
theorem cf_kunf14 : compFn Try.prog { own := [], comp := [], frz := [], nils := [] } Try.f4 = some sf_kunf14 := by kernel_rfl
set_option maxHeartbeats 1600000 in
theorem kunf14_c (G : Glob) (a : Int) (ha1 : -9223372036854775808 ≤ a) (ha2 : a ≤ 9223372036854775807) (v : Int) (hv1 : -9223372036854775808 ≤ v) (hv2 : v ≤ 9223372036854775807) (w : Nat) (hw : w < 18446744073709551616)  : Den Try.prog G 4 [.int .i64 a, .int .i64 v, .int .u64 (w : Int)] (.w (.c (.d (.bool true)))) := by
  refine den_walk Try.func4 cf_kunf14 rfl rfl ?_
  have r1 := withinN_range a 144115188075855872 (by decide)
  have r2 := withinN_range v 36028797018963968 (by decide)
  have c1 := within_c G a 144115188075855872 (by decide)
  have c2 := within_c G v 36028797018963968 (by decide)
  generalize withinN a 144115188075855872 = A at *
  generalize withinN v 36028797018963968 = V at *
  have w1 : (0 : Int) ≤ (w : Int) := by omega
  have w2 : (w : Int) < 18446744073709551616 := by omega
  obtain ⟨u1, u2, u3, u4, u5⟩ := up_in w1 w2
  have ca := gunf_c G A (A + V) w w1 w2
  obtain ⟨a1, a2, a3, a4⟩ := unf_at (d := (w : Int) / 4096) (u := upV w) (lo := A) (hi := A + V) (by omega) (by omega) (by omega) (by omega) u3 u4
  rw [a1, a2] at ca
  have hc := unf_count (d := (w : Int) / 4096) (u := upV w) (lo := A) (hi := A + V) (by omega) u3 u4
  have gx : ∀ n, n < unfN ((w : Int) / 4096) (upV w) A (A + V) → _ := fun n hn => erL_get (d := (w : Int) / 4096) (u := upV w) (a := eraA A (upV w)) hn
  simp only [← unfL_er] at gx
  have hin : ∀ n : Nat, n < unfN ((w : Int) / 4096) (upV w) A (A + V) → (eraA A (upV w) + (n : Int)) * 4503599627370496 + (w : Int) / 4096 ≤ A + V ∧ A ≤ (eraA A (upV w) + (n : Int)) * 4503599627370496 + upV w := fun n hn => by
    have := (era_meet ((w : Int) / 4096) (upV w) A (A + V) (eraA A (upV w) + (n : Int))).2 (by have := (unfN_i (d := (w : Int) / 4096) (u := upV w) (lo := A) (hi := A + V) (by omega) u3 u4).1; omega)
    exact this
  generalize unfL ((w : Int) / 4096) (upV w) A (A + V) = L at *
  generalize unfN ((w : Int) / 4096) (upV w) A (A + V) = N at *
  have hA : -2 ≤ eraA A (upV w) ∧ eraA A (upV w) ≤ 40 := by unfold eraA; omega
  generalize eraA A (upV w) = p at *
  simp only [sf_kunf14, putAll, wx, wy, wz, stV, seval, IntWalk.iteOmega, IntWalk.toNatUp, reduceCtorEq]
  refine st_call (c1) rfl (.inl rfl) ?_
  simp only [wx, wy, wz, stV, seval, IntWalk.iteOmega, IntWalk.toNatUp, reduceCtorEq]
  refine st_call (c2) rfl (.inl rfl) ?_
  simp only [wx, wy, wz, stV, seval, IntWalk.iteOmega, IntWalk.toNatUp, reduceCtorEq]
  refine st_call (ca) rfl (.inl rfl) ?_
  simp only [wx, wy, wz, stV, seval, IntWalk.iteOmega, IntWalk.toNatUp, reduceCtorEq]
  refine loop_st (euSt w A (A + V) L) (fun i => N - i) (fun i => i ≤ N) 0 (Nat.zero_le _) ?_ ?_
  · refine ent_l (fun i => if i = 1 then 56 else i) ?_ ?_ rfl rfl <;> simp only [wx, wex, wez, stV, seval, IntWalk.iteOmega, IntWalk.toNatUp, reduceCtorEq]
  · intro i hi
    by_cases hlt : i < N
    · obtain ⟨E, hE⟩ : ∃ E, eraS ((w : Int) / 4096) (upV w) (p + (i : Int)) = E := ⟨_, rfl⟩
      obtain ⟨x, hx⟩ : ∃ x, (p + (i : Int)) * 4503599627370496 + (w : Int) / 4096 = x := ⟨_, rfl⟩
      obtain ⟨y, hy⟩ : ∃ y, (p + (i : Int)) * 4503599627370496 + upV w = y := ⟨_, rfl⟩
      have g := gx i hlt
      rw [hE] at g
      have z : spD E = .agg [.int .i64 x, .int .i64 y] := by rw [← hE, ← hx, ← hy]; rfl
      obtain ⟨m1, m2⟩ := hin i hlt
      rw [hx] at m1
      rw [hy] at m2
      have cw := wir_c G x (by omega) (by omega)
      obtain ⟨q1, q2⟩ := wir_at (t := x) (by omega)
      rw [show x % 4503599627370496 = (w : Int) / 4096 by omega] at q1
      rw [q1, q2] at cw
      have b1 : (w : Int) / 4096 * 4096 / 4096 = (w : Int) / 4096 := by omega
      have b2 := u64_and12 (w : Int) w1 w2
      have b4 : (y - x > 1) = False := eq_false (by omega)
      have b5 : (x > A + V) = False := eq_false (by omega)
      have b8 : (y = x) ↔ (w : Int) % 4096 = 0 := by omega
      have bx : -9007199254740992 ≤ x ∧ x ≤ 1152921504606846976 := by omega
      have by' : -9007199254740992 ≤ y ∧ y ≤ 1152921504606846976 := by omega
      have g' : 0 < i → ∃ E' x' y', L[i - 1]? = some E' ∧ spD E' = .agg [.int .i64 x', .int .i64 y'] ∧ x - x' = 4503599627370496 := fun h0 => by
        refine ⟨_, _, _, gx (i - 1) (by omega), rfl, ?_⟩
        show x - ((p + ((i - 1 : Nat) : Int)) * 4503599627370496 + (w : Int) / 4096) = _
        omega
      have hel : L.length = N := a3
      obtain ⟨d, hd⟩ : ∃ d, (w : Int) / 4096 = d := ⟨_, rfl⟩
      rw [hd] at b1 cw
      clear hx hy hE gx hin
      rcases Nat.eq_zero_or_pos i with h0 | h0
      · subst h0
        by_cases hw0 : (w : Int) % 4096 = 0
        · have b9 := b8.2 hw0
          subst b9
          simp only [lp_kunf14_0, euSt, wx, wy, wz, stV, seval, IntWalk.iteOmega, IntWalk.toNatUp, reduceCtorEq, get_map, g, z]
          refine st_call (cw) rfl (.inl rfl) ?_
          simp only [bU64, b1, hd, b2, b4, b5, get_map, g, z, hw0, wx, wy, wz, stV, seval, IntWalk.iteOmega, IntWalk.toNatUp, reduceCtorEq]
          refine lop_next (0 + 1) (by omega) (by omega) (ent_l (fun i => i) ?_ ?_ rfl rfl) <;> simp only [euSt, wx, wex, wez, stV, seval, IntWalk.iteOmega, IntWalk.toNatUp, reduceCtorEq]
        · have b9 : (y = x) = False := eq_false (fun h => hw0 (b8.1 h))
          simp only [lp_kunf14_0, euSt, wx, wy, wz, stV, seval, IntWalk.iteOmega, IntWalk.toNatUp, reduceCtorEq, get_map, g, z]
          refine st_call (cw) rfl (.inl rfl) ?_
          simp only [bU64, b1, hd, b2, b4, b5, get_map, g, z, hw0, b9, wx, wy, wz, stV, seval, IntWalk.iteOmega, IntWalk.toNatUp, reduceCtorEq]
          refine lop_next (0 + 1) (by omega) (by omega) (ent_l (fun i => i) ?_ ?_ rfl rfl) <;> simp only [euSt, wx, wex, wez, stV, seval, IntWalk.iteOmega, IntWalk.toNatUp, reduceCtorEq]
      · obtain ⟨E', x', y', g2, z2, b6⟩ := g' h0
        have h1 : ((i : Int) > 0) = True := eq_true (by omega)
        have h2 : ((i : Int) - 1).toNat = i - 1 := by omega
        have h3 : ((i : Int) - 1 < 0) = False := eq_false (by omega)
        by_cases hw0 : (w : Int) % 4096 = 0
        · have b9 := b8.2 hw0
          subst b9
          simp only [lp_kunf14_0, euSt, wx, wy, wz, stV, seval, IntWalk.iteOmega, IntWalk.toNatUp, reduceCtorEq, get_map, g, z]
          refine st_call (cw) rfl (.inl rfl) ?_
          simp only [bU64, b1, hd, b2, b4, b5, get_map, g, z, hw0, h1, h2, h3, g2, z2, b6, wx, wy, wz, stV, seval, IntWalk.iteOmega, IntWalk.toNatUp, reduceCtorEq]
          refine lop_next (i + 1) (by omega) (by omega) (ent_l (fun i => i) ?_ ?_ rfl rfl) <;> simp only [euSt, wx, wex, wez, stV, seval, IntWalk.iteOmega, IntWalk.toNatUp, reduceCtorEq]
        · have b9 : (y = x) = False := eq_false (fun h => hw0 (b8.1 h))
          simp only [lp_kunf14_0, euSt, wx, wy, wz, stV, seval, IntWalk.iteOmega, IntWalk.toNatUp, reduceCtorEq, get_map, g, z]
          refine st_call (cw) rfl (.inl rfl) ?_
          simp only [bU64, b1, hd, b2, b4, b5, get_map, g, z, hw0, b9, h1, h2, h3, g2, z2, b6, wx, wy, wz, stV, seval, IntWalk.iteOmega, IntWalk.toNatUp, reduceCtorEq]
          refine lop_next (i + 1) (by omega) (by omega) (ent_l (fun i => i) ?_ ?_ rfl rfl) <;> simp only [euSt, wx, wex, wez, stV, seval, IntWalk.iteOmega, IntWalk.toNatUp, reduceCtorEq]
    · have hil : i = L.length := by omega
      have e1 : A + V - A = V := by omega
      rw [e1] at hc
      have b1 : ((L.length : Int) ≥ V / 4503599627370496) = True := eq_true (by omega)
      have b2 : ((L.length : Int) ≤ V / 4503599627370496 + 2) = True := eq_true (by omega)
      simp only [lp_kunf14_0, euSt, wx, wy, wz, stV, seval, IntWalk.iteOmega, IntWalk.toNatUp, reduceCtorEq, hil, e1, bI64]
      refine st_call (known14_c G) rfl (.inl rfl) ?_
      simp only [b1, b2, wx, wy, wz, stV, seval, IntWalk.iteOmega, IntWalk.toNatUp, reduceCtorEq]
      exact ret_d1 (by simp only [wx, wy, wz, stV, seval, IntWalk.iteOmega, IntWalk.toNatUp, reduceCtorEq])
end Go.Proofs.Ytcafaihnflnkfaa
