/- The laws of layer 12: readings. Own work. -/
import Derived.Test.YtefoldolhgakmaaLl2
set_option linter.unusedVariables false
set_option linter.unusedSimpArgs false
namespace Go.Proofs.Ytefoldolhgakmaa
open Go.RowKit

/-- A second, a step behind it, and what its readings are. -/
theorem rd_two (G : Glob) {L : List Lp} (ok : okB 10 L = true) (hL : L.length ≤ 9223372036854775807) (ins : Bool) {S K : Int} (hs : secIn S = true) (hk : tikIn K = true) :
    (∃ P, Den Try.prog G 18 [.agg [.int .i64 10, .sl (L.map spD)], .int .i64 S] (.tup [.c (.d (.int .i64 P)), .c (.d (.int .i64 0))]) ∧
      Den Try.prog G 12 [.agg [.int .i64 10, .sl (L.map spD)], .agg [.int .i64 S, .bool ins, .int .i64 K]] (.tup [.c (.d (.int .i64 0)), .c (.d (.int .i64 10))]) ∧ ((ins = false ∧ P = -1) ∨ (ins = true ∧ P = -1) ∨ (ins = true ∧ P = 0))) ∨
    (∃ P T, Den Try.prog G 18 [.agg [.int .i64 10, .sl (L.map spD)], .int .i64 S] (.tup [.c (.d (.int .i64 P)), .c (.d (.int .i64 0))]) ∧
      Den Try.prog G 12 [.agg [.int .i64 10, .sl (L.map spD)], .agg [.int .i64 S, .bool ins, .int .i64 K]] (.tup [.c (.d (.int .i64 T)), .c (.d (.int .i64 0))]) ∧
      Den Try.prog G 14 [.agg [.int .i64 10, .sl (L.map spD)], .int .i64 T] (.tup [.c (.d (.agg [.int .i64 S, .bool ins, .int .i64 K])), .c (.d (.int .i64 0))]) ∧ ((ins = true ∧ P = 1) ∨ (ins = false ∧ P = 0) ∨ (ins = false ∧ P = 1))) := by
  have c1 := lsts_c G 10 L S hL
  rw [show stpV 10 L S = stpN 10 L S by unfold stpV; rw [ok, hs]; rfl, show secE 10 L S = 0 by unfold secE; rw [ok, hs]; rfl] at c1
  have c2 := ltai_c G 10 L S ins K hL
  have s3 := stp_3 ok S
  have se := sec_i hs
  have ke := tik_i hk
  have o := off_in ok S
  cases hn : noneB 10 L S ins
  · right
    obtain ⟨n1, n2⟩ := none_ff hn
    have tb : taiB 10 L S ins K = true := by unfold taiB; rw [ok, hs, hk, hn]; rfl
    have e1 : taiV 10 L S ins K = taiS 10 L S ins * 1048576 + K := by unfold taiV; rw [tb]; rfl
    have e2 : taiE 10 L S ins K = 0 := by unfold taiE; rw [ok, hs, hk, hn]; rfl
    rw [e1, e2] at c2
    have tr : -64 ≤ taiS 10 L S ins ∧ taiS 10 L S ins ≤ 274877907200 := by
      unfold taiS taiN bI; cases ins <;> simp <;> omega
    have d1 : (taiS 10 L S ins * 1048576 + K) / 1048576 = taiS 10 L S ins := by omega
    have d2 : (taiS 10 L S ins * 1048576 + K) % 1048576 = K := by omega
    have c3 := lutc_c G 10 L (taiS 10 L S ins * 1048576 + K) hL (by omega) (by omega)
    have isr : IsR 10 L ((taiS 10 L S ins * 1048576 + K) / 1048576) S ins := ⟨hs, hn, d1.symm⟩
    obtain ⟨f1, f2, f3, f4⟩ := utc_of ok isr
    rw [f1, f2, f3, f4, d2] at c3
    refine ⟨stpN 10 L S, _, c1, c2, c3, ?_⟩
    cases ins
    · rcases s3 with k | k | k
      · exact .inr (.inl ⟨rfl, k⟩)
      · exact .inr (.inr ⟨rfl, k⟩)
      · exact absurd k n2
    · exact .inl ⟨rfl, n1 rfl⟩
  · left
    have tb : taiB 10 L S ins K = false := by unfold taiB; rw [hn]; simp
    have e1 : taiV 10 L S ins K = 0 := by unfold taiV; rw [tb]; rfl
    have e2 : taiE 10 L S ins K = 10 := by unfold taiE; rw [ok, hs, hk, hn]; rfl
    rw [e1, e2] at c2
    refine ⟨stpN 10 L S, c1, c2, ?_⟩
    unfold noneB at hn
    cases ins
    · have : stpN 10 L S = -1 := by simpa using hn
      exact .inl ⟨rfl, this⟩
    · rcases s3 with k | k | k
      · exact .inr (.inr ⟨rfl, k⟩)
      · rw [k] at hn; exact absurd hn (by decide)
      · exact .inr (.inl ⟨rfl, k⟩)
def sf_kre12 : SFn := ⟨4, 106,
  .seq (.reg [⟨(some 8), .mv (.k (.c (.d (.bool false)))), none⟩])
  (.seq (.reg [⟨(some 18), .mv (.t 0), none⟩,
    ⟨(some 19), .call 22 [(.t 18)] none, none⟩,
    ⟨(some 9), .alloc [(.d (.int .i64 0)), .nil], none⟩,
    ⟨none, .store (.ag 2) (.t 9) (.t 19), none⟩])
  (.seq (.reg [⟨(some 20), .mv (.t 1), none⟩,
    ⟨(some 21), .call 24 [(.t 20), (.k (.c (.d (.int .i64 1073741824))))] none, none⟩,
    ⟨(some 22), .bin .add (.k (.c (.d (.int .i64 86400)))) (.t 21), none⟩,
    ⟨(some 10), .mv (.t 22), none⟩])
  (.seq (.seq (.reg [⟨(some 23), .fieldAddr 1 (.t 9), none⟩,
    ⟨(some 24), .load .sc (.t 23), none⟩,
    ⟨(some 25), .len (.t 24), none⟩,
    ⟨(some 26), .bin .gtr (.t 25) (.k (.c (.d (.int .i64 0)))), none⟩,
    ⟨(some 27), .mv (.t 26), none⟩,
    ⟨(some 28), .mv (.t 1), (some (27, true))⟩,
    ⟨(some 29), .call 24 [(.t 28), (.k (.c (.d (.int .i64 3))))] none, (some (27, true))⟩,
    ⟨(some 30), .bin .gtr (.t 29) (.k (.c (.d (.int .i64 0)))), (some (27, true))⟩,
    ⟨(some 31), .pick (.t 27) (.t 30) (.k (.c (.d (.bool false)))), none⟩])
  (.cond (.t 31) (.reg [⟨(some 32), .fieldAddr 1 (.t 9), none⟩,
     ⟨(some 33), .load .sc (.t 32), none⟩,
     ⟨(some 34), .mv (.t 1), none⟩,
     ⟨(some 35), .bin .quo (.t 34) (.k (.c (.d (.int .i64 3)))), none⟩,
     ⟨(some 36), .fieldAddr 1 (.t 9), none⟩,
     ⟨(some 37), .load .sc (.t 36), none⟩,
     ⟨(some 38), .len (.t 37), none⟩,
     ⟨(some 39), .call 24 [(.t 35), (.t 38)] none, none⟩,
     ⟨(some 40), .idxSl 2 (.t 33) (.t 39), none⟩,
     ⟨(some 41), .fieldAddr 0 (.t 40), none⟩,
     ⟨(some 42), .load .sc (.t 41), none⟩,
     ⟨(some 43), .bin .sub (.t 42) (.k (.c (.d (.int .i64 1)))), none⟩,
     ⟨(some 44), .mv (.t 1), none⟩,
     ⟨(some 45), .bin .quo (.t 44) (.k (.c (.d (.int .i64 16)))), none⟩,
     ⟨(some 46), .call 24 [(.t 45), (.k (.c (.d (.int .i64 3))))] none, none⟩,
     ⟨(some 47), .bin .add (.t 43) (.t 46), none⟩,
     ⟨(some 48), .bin .sub (.t 47) (.k (.c (.d (.int .i64 1)))), none⟩,
     ⟨(some 10), .mv (.t 48), none⟩])
   (.skip)))
  (.seq (.reg [⟨(some 49), .mv (.t 10), none⟩,
    ⟨(some 50), .mv (.t 3), none⟩,
    ⟨(some 51), .mv (.t 2), none⟩,
    ⟨(some 52), .call 24 [(.t 51), (.k (.c (.d (.int .i64 1048576))))] none, none⟩,
    ⟨(some 53), .build [(.d (.int .i64 0)), (.d (.bool false)), (.d (.int .i64 0))] [(0, 1, (.t 49)), (1, 1, (.t 50)), (2, 1, (.t 52))], none⟩,
    ⟨(some 11), .alloc [(.d (.int .i64 0)), (.d (.bool false)), (.d (.int .i64 0))], none⟩,
    ⟨none, .store (.ag 3) (.t 11) (.t 53), none⟩])
  (.seq (.reg [⟨(some 55), .load (.ag 2) (.t 9), none⟩,
    ⟨(some 56), .mv (.t 10), none⟩,
    ⟨(some 57), .call 18 [(.t 55), (.t 56)] none, none⟩,
    ⟨(some 54), .mv (.t 57), none⟩,
    ⟨(some 58), .extract (.t 54) 0, none⟩,
    ⟨(some 59), .extract (.t 54) 1, none⟩,
    ⟨(some 12), .mv (.t 58), none⟩,
    ⟨(some 13), .mv (.t 59), none⟩])
  (.seq (.reg [⟨(some 61), .load (.ag 2) (.t 9), none⟩,
    ⟨(some 62), .load (.ag 3) (.t 11), none⟩,
    ⟨(some 63), .call 12 [(.t 61), (.t 62)] none, none⟩,
    ⟨(some 60), .mv (.t 63), none⟩,
    ⟨(some 64), .extract (.t 60) 0, none⟩,
    ⟨(some 65), .extract (.t 60) 1, none⟩,
    ⟨(some 14), .mv (.t 64), none⟩,
    ⟨(some 15), .mv (.t 65), none⟩])
  (.seq (.seq (.reg [⟨(some 66), .mv (.t 13), none⟩,
    ⟨(some 67), .bin .neq (.t 66) (.k (.c (.d (.int .i64 0)))), none⟩])
  (.cond (.t 67) (.seq (.reg [⟨(some 8), .mv (.k (.c (.d (.bool false)))), none⟩])
   (.ret))
   (.skip)))
  (.seq (.seq (.reg [⟨(some 68), .mv (.t 3), none⟩,
    ⟨(some 69), .mv (.t 68), none⟩,
    ⟨(some 70), .mv (.t 12), (some (69, true))⟩,
    ⟨(some 71), .bin .neq (.t 70) (.k (.c (.d (.int .i64 1)))), (some (69, true))⟩,
    ⟨(some 72), .pick (.t 69) (.t 71) (.k (.c (.d (.bool false)))), none⟩,
    ⟨(some 73), .mv (.t 72), none⟩,
    ⟨(some 74), .mv (.t 12), (some (73, false))⟩,
    ⟨(some 75), .bin .eql (.t 74) (.k (.c (.d (.int .i64 (-1))))), (some (73, false))⟩,
    ⟨(some 76), .pick (.t 73) (.k (.c (.d (.bool true)))) (.t 75), none⟩])
  (.cond (.t 76) (.seq (.reg [⟨(some 77), .call 9 [] none, none⟩,
     ⟨(some 78), .mv (.t 77), none⟩,
     ⟨(some 79), .mv (.t 15), (some (78, true))⟩,
     ⟨(some 80), .bin .eql (.t 79) (.k (.c (.d (.int .i64 10)))), (some (78, true))⟩,
     ⟨(some 81), .pick (.t 78) (.t 80) (.k (.c (.d (.bool false)))), none⟩,
     ⟨(some 82), .mv (.t 81), none⟩,
     ⟨(some 83), .mv (.t 14), (some (82, true))⟩,
     ⟨(some 84), .bin .eql (.t 83) (.k (.c (.d (.int .i64 0)))), (some (82, true))⟩,
     ⟨(some 85), .pick (.t 82) (.t 84) (.k (.c (.d (.bool false)))), none⟩,
     ⟨(some 8), .mv (.t 85), none⟩])
   (.ret))
   (.skip)))
  (.seq (.reg [⟨(some 87), .load (.ag 2) (.t 9), none⟩,
    ⟨(some 88), .mv (.t 14), none⟩,
    ⟨(some 89), .call 14 [(.t 87), (.t 88)] none, none⟩,
    ⟨(some 86), .mv (.t 89), none⟩,
    ⟨(some 90), .extract (.t 86) 0, none⟩,
    ⟨(some 91), .extract (.t 86) 1, none⟩,
    ⟨(some 16), .alloc [(.d (.int .i64 0)), (.d (.bool false)), (.d (.int .i64 0))], none⟩,
    ⟨none, .store (.ag 3) (.t 16) (.t 90), none⟩,
    ⟨(some 17), .mv (.t 91), none⟩])
  (.seq (.reg [⟨(some 92), .call 9 [] none, none⟩,
    ⟨(some 93), .mv (.t 92), none⟩,
    ⟨(some 94), .mv (.t 15), (some (93, true))⟩,
    ⟨(some 95), .bin .eql (.t 94) (.k (.c (.d (.int .i64 0)))), (some (93, true))⟩,
    ⟨(some 96), .pick (.t 93) (.t 95) (.k (.c (.d (.bool false)))), none⟩,
    ⟨(some 97), .mv (.t 96), none⟩,
    ⟨(some 98), .mv (.t 17), (some (97, true))⟩,
    ⟨(some 99), .bin .eql (.t 98) (.k (.c (.d (.int .i64 0)))), (some (97, true))⟩,
    ⟨(some 100), .pick (.t 97) (.t 99) (.k (.c (.d (.bool false)))), none⟩,
    ⟨(some 101), .mv (.t 100), none⟩,
    ⟨(some 102), .load (.ag 3) (.t 16), (some (101, true))⟩,
    ⟨(some 103), .load (.ag 3) (.t 11), (some (101, true))⟩,
    ⟨(some 104), .eqA false [0, 1, 0] (.t 102) (.t 103), (some (101, true))⟩,
    ⟨(some 105), .pick (.t 101) (.t 104) (.k (.c (.d (.bool false)))), none⟩,
    ⟨(some 8), .mv (.t 105), none⟩])
  (.ret))))))))))),
  [(8, none)]⟩
theorem cf_kre12 : compFn Try.prog { own := [], comp := [], frz := [], nils := [] } Try.f5 = some sf_kre12 := by kernel_rfl
set_option maxHeartbeats 1600000 in
theorem kre12_c (G : Glob) (table : List Int) (htable1 : table.length ≤ maxLen) (htable2 : ∀ n ∈ table, fitI n) (v : Int) (hv1 : -9223372036854775808 ≤ v) (hv2 : v ≤ 9223372036854775807) (ticks : Int) (hticks1 : -9223372036854775808 ≤ ticks) (hticks2 : ticks ≤ 9223372036854775807) (inserted : Bool)  : Den Try.prog G 5 [.sl (table.map zD), .int .i64 v, .int .i64 ticks, .bool inserted] (.w (.c (.d (.bool true)))) := by
  refine den_walk Try.func5 cf_kre12 rfl rfl ?_
  have hm : maxLen ≤ 9223372036854775807 := by decide
  have len := wl_len table
  have ok := wlT_ok table
  have eb := wl_el table
  have cw := wleap_c G table (by omega)
  unfold lpD at cw
  generalize wlT table = L at *
  have hL : L.length ≤ 9223372036854775807 := by omega
  have d1 := within_c G v 1073741824 (by decide)
  have w1 := withinN_range v 1073741824 (by decide)
  have d2 := within_c G v 3 (by decide)
  have d3 := within_c G ticks 1048576 (by decide)
  have w3 := withinN_range ticks 1048576 (by decide)
  generalize withinN v 1073741824 = W1 at *
  generalize withinN ticks 1048576 = K at *
  have hk : tikIn K = true := decide_eq_true (by omega)
  have fin := fun S hs => rd_two G ok hL inserted (S := S) (K := K) hs hk
  by_cases h0 : (L.length : Int) > 0
  · by_cases h1 : withinN v 3 > 0
    · have w := withinN_range (v.tdiv 3) (L.length : Int) (by omega)
      have d4 := within_c G (v.tdiv 3) (L.length : Int) (by omega)
      have d5 := within_c G (v.tdiv 16) 3 (by decide)
      have w5 := withinN_range (v.tdiv 16) 3 (by decide)
      have t3 := tdv_in v (b := 3) (by decide) hv1 hv2
      have t16 := tdv_in v (b := 16) (by decide) hv1 hv2
      generalize q3 : v.tdiv 3 = V3 at *
      generalize q16 : v.tdiv 16 = V16 at *
      obtain ⟨J, hJ⟩ := Int.eq_ofNat_of_zero_le w.1
      rw [hJ] at d4
      have g := lpG_get (l := L) (i := J) (by omega)
      have hb := eb J (by omega)
      generalize withinN v 3 = W2 at *
      generalize withinN V16 3 = W5 at *
      generalize lpG L J = X at *
      obtain ⟨A, O⟩ := X
      simp only at hb
      have hJL : (J : Int) < (L.length : Int) := by omega
      rcases fin (A - 1 + W5 - 1) (sec_t (by omega)) with ⟨P, f1, f2, hc⟩ | ⟨P, T, f1, f2, f3, hc⟩
      · generalize hS : A - 1 + W5 - 1 = S at *
        rcases hc with ⟨rfl, rfl⟩ | ⟨rfl, rfl⟩ | ⟨rfl, rfl⟩ <;> (
          simp only [sf_kre12, putAll, wx, wy, wz, stV, seval, IntWalk.iteOmega, IntWalk.toNatUp, reduceCtorEq]
          refine st_call (cw) rfl (.inl rfl) ?_
          simp only [wx, wy, wz, stV, seval, IntWalk.iteOmega, IntWalk.toNatUp, reduceCtorEq]
          refine st_call (d1) rfl (.inl rfl) ?_
          simp only [eq_true h0, wx, wy, wz, stV, seval, IntWalk.iteOmega, IntWalk.toNatUp, reduceCtorEq]
          refine st_call (d2) rfl (.inl rfl) ?_
          simp only [eq_true h1, q3, wx, wy, wz, stV, seval, IntWalk.iteOmega, IntWalk.toNatUp, reduceCtorEq]
          refine st_call (d4) rfl (.inl rfl) ?_
          simp only [get_map, g, spD, q16, hJL, wx, wy, wz, stV, seval, IntWalk.iteOmega, IntWalk.toNatUp, reduceCtorEq]
          refine st_call (d5) rfl (.inl rfl) ?_
          simp only [hS, wx, wy, wz, stV, seval, IntWalk.iteOmega, IntWalk.toNatUp, reduceCtorEq]
          refine st_call (d3) rfl (.inl rfl) ?_
          simp only [wx, wy, wz, stV, seval, IntWalk.iteOmega, IntWalk.toNatUp, reduceCtorEq]
          refine st_call (f1) rfl (.inl rfl) ?_
          simp only [wx, wy, wz, stV, seval, IntWalk.iteOmega, IntWalk.toNatUp, reduceCtorEq]
          refine st_call (f2) rfl (.inl rfl) ?_
          simp only [wx, wy, wz, stV, seval, IntWalk.iteOmega, IntWalk.toNatUp, reduceCtorEq]
          refine st_call (known12_c G) rfl (.inl rfl) ?_
          simp only [wx, wy, wz, stV, seval, IntWalk.iteOmega, IntWalk.toNatUp, reduceCtorEq]
          exact ret_d1 (by simp only [wx, wy, wz, stV, seval, IntWalk.iteOmega, IntWalk.toNatUp, reduceCtorEq])
          )
      · generalize hS : A - 1 + W5 - 1 = S at *
        rcases hc with ⟨rfl, rfl⟩ | ⟨rfl, rfl⟩ | ⟨rfl, rfl⟩ <;> (
          simp only [sf_kre12, putAll, wx, wy, wz, stV, seval, IntWalk.iteOmega, IntWalk.toNatUp, reduceCtorEq]
          refine st_call (cw) rfl (.inl rfl) ?_
          simp only [wx, wy, wz, stV, seval, IntWalk.iteOmega, IntWalk.toNatUp, reduceCtorEq]
          refine st_call (d1) rfl (.inl rfl) ?_
          simp only [eq_true h0, wx, wy, wz, stV, seval, IntWalk.iteOmega, IntWalk.toNatUp, reduceCtorEq]
          refine st_call (d2) rfl (.inl rfl) ?_
          simp only [eq_true h1, q3, wx, wy, wz, stV, seval, IntWalk.iteOmega, IntWalk.toNatUp, reduceCtorEq]
          refine st_call (d4) rfl (.inl rfl) ?_
          simp only [get_map, g, spD, q16, hJL, wx, wy, wz, stV, seval, IntWalk.iteOmega, IntWalk.toNatUp, reduceCtorEq]
          refine st_call (d5) rfl (.inl rfl) ?_
          simp only [hS, wx, wy, wz, stV, seval, IntWalk.iteOmega, IntWalk.toNatUp, reduceCtorEq]
          refine st_call (d3) rfl (.inl rfl) ?_
          simp only [wx, wy, wz, stV, seval, IntWalk.iteOmega, IntWalk.toNatUp, reduceCtorEq]
          refine st_call (f1) rfl (.inl rfl) ?_
          simp only [wx, wy, wz, stV, seval, IntWalk.iteOmega, IntWalk.toNatUp, reduceCtorEq]
          refine st_call (f2) rfl (.inl rfl) ?_
          simp only [wx, wy, wz, stV, seval, IntWalk.iteOmega, IntWalk.toNatUp, reduceCtorEq]
          refine st_call (f3) rfl (.inl rfl) ?_
          simp only [wx, wy, wz, stV, seval, IntWalk.iteOmega, IntWalk.toNatUp, reduceCtorEq]
          refine st_call (known12_c G) rfl (.inl rfl) ?_
          simp only [wx, wy, wz, stV, seval, IntWalk.iteOmega, IntWalk.toNatUp, reduceCtorEq]
          exact ret_d1 (by simp only [wx, wy, wz, stV, seval, IntWalk.iteOmega, IntWalk.toNatUp, reduceCtorEq])
          )
    · generalize withinN v 3 = W2 at *
      rcases fin (86400 + W1) (sec_t (by omega)) with ⟨P, f1, f2, hc⟩ | ⟨P, T, f1, f2, f3, hc⟩
      · rcases hc with ⟨rfl, rfl⟩ | ⟨rfl, rfl⟩ | ⟨rfl, rfl⟩ <;> (
          simp only [sf_kre12, putAll, wx, wy, wz, stV, seval, IntWalk.iteOmega, IntWalk.toNatUp, reduceCtorEq]
          refine st_call (cw) rfl (.inl rfl) ?_
          simp only [wx, wy, wz, stV, seval, IntWalk.iteOmega, IntWalk.toNatUp, reduceCtorEq]
          refine st_call (d1) rfl (.inl rfl) ?_
          simp only [eq_true h0, wx, wy, wz, stV, seval, IntWalk.iteOmega, IntWalk.toNatUp, reduceCtorEq]
          refine st_call (d2) rfl (.inl rfl) ?_
          simp only [eq_false h1, wx, wy, wz, stV, seval, IntWalk.iteOmega, IntWalk.toNatUp, reduceCtorEq]
          refine st_call (d3) rfl (.inl rfl) ?_
          simp only [wx, wy, wz, stV, seval, IntWalk.iteOmega, IntWalk.toNatUp, reduceCtorEq]
          refine st_call (f1) rfl (.inl rfl) ?_
          simp only [wx, wy, wz, stV, seval, IntWalk.iteOmega, IntWalk.toNatUp, reduceCtorEq]
          refine st_call (f2) rfl (.inl rfl) ?_
          simp only [wx, wy, wz, stV, seval, IntWalk.iteOmega, IntWalk.toNatUp, reduceCtorEq]
          refine st_call (known12_c G) rfl (.inl rfl) ?_
          simp only [wx, wy, wz, stV, seval, IntWalk.iteOmega, IntWalk.toNatUp, reduceCtorEq]
          exact ret_d1 (by simp only [wx, wy, wz, stV, seval, IntWalk.iteOmega, IntWalk.toNatUp, reduceCtorEq])
          )
      · rcases hc with ⟨rfl, rfl⟩ | ⟨rfl, rfl⟩ | ⟨rfl, rfl⟩ <;> (
          simp only [sf_kre12, putAll, wx, wy, wz, stV, seval, IntWalk.iteOmega, IntWalk.toNatUp, reduceCtorEq]
          refine st_call (cw) rfl (.inl rfl) ?_
          simp only [wx, wy, wz, stV, seval, IntWalk.iteOmega, IntWalk.toNatUp, reduceCtorEq]
          refine st_call (d1) rfl (.inl rfl) ?_
          simp only [eq_true h0, wx, wy, wz, stV, seval, IntWalk.iteOmega, IntWalk.toNatUp, reduceCtorEq]
          refine st_call (d2) rfl (.inl rfl) ?_
          simp only [eq_false h1, wx, wy, wz, stV, seval, IntWalk.iteOmega, IntWalk.toNatUp, reduceCtorEq]
          refine st_call (d3) rfl (.inl rfl) ?_
          simp only [wx, wy, wz, stV, seval, IntWalk.iteOmega, IntWalk.toNatUp, reduceCtorEq]
          refine st_call (f1) rfl (.inl rfl) ?_
          simp only [wx, wy, wz, stV, seval, IntWalk.iteOmega, IntWalk.toNatUp, reduceCtorEq]
          refine st_call (f2) rfl (.inl rfl) ?_
          simp only [wx, wy, wz, stV, seval, IntWalk.iteOmega, IntWalk.toNatUp, reduceCtorEq]
          refine st_call (f3) rfl (.inl rfl) ?_
          simp only [wx, wy, wz, stV, seval, IntWalk.iteOmega, IntWalk.toNatUp, reduceCtorEq]
          refine st_call (known12_c G) rfl (.inl rfl) ?_
          simp only [wx, wy, wz, stV, seval, IntWalk.iteOmega, IntWalk.toNatUp, reduceCtorEq]
          exact ret_d1 (by simp only [wx, wy, wz, stV, seval, IntWalk.iteOmega, IntWalk.toNatUp, reduceCtorEq])
          )
  · rcases fin (86400 + W1) (sec_t (by omega)) with ⟨P, f1, f2, hc⟩ | ⟨P, T, f1, f2, f3, hc⟩
    · rcases hc with ⟨rfl, rfl⟩ | ⟨rfl, rfl⟩ | ⟨rfl, rfl⟩ <;> (
        simp only [sf_kre12, putAll, wx, wy, wz, stV, seval, IntWalk.iteOmega, IntWalk.toNatUp, reduceCtorEq]
        refine st_call (cw) rfl (.inl rfl) ?_
        simp only [wx, wy, wz, stV, seval, IntWalk.iteOmega, IntWalk.toNatUp, reduceCtorEq]
        refine st_call (d1) rfl (.inl rfl) ?_
        simp only [eq_false h0, wx, wy, wz, stV, seval, IntWalk.iteOmega, IntWalk.toNatUp, reduceCtorEq]
        refine st_call (d3) rfl (.inl rfl) ?_
        simp only [wx, wy, wz, stV, seval, IntWalk.iteOmega, IntWalk.toNatUp, reduceCtorEq]
        refine st_call (f1) rfl (.inl rfl) ?_
        simp only [wx, wy, wz, stV, seval, IntWalk.iteOmega, IntWalk.toNatUp, reduceCtorEq]
        refine st_call (f2) rfl (.inl rfl) ?_
        simp only [wx, wy, wz, stV, seval, IntWalk.iteOmega, IntWalk.toNatUp, reduceCtorEq]
        refine st_call (known12_c G) rfl (.inl rfl) ?_
        simp only [wx, wy, wz, stV, seval, IntWalk.iteOmega, IntWalk.toNatUp, reduceCtorEq]
        exact ret_d1 (by simp only [wx, wy, wz, stV, seval, IntWalk.iteOmega, IntWalk.toNatUp, reduceCtorEq])
        )
    · rcases hc with ⟨rfl, rfl⟩ | ⟨rfl, rfl⟩ | ⟨rfl, rfl⟩ <;> (
        simp only [sf_kre12, putAll, wx, wy, wz, stV, seval, IntWalk.iteOmega, IntWalk.toNatUp, reduceCtorEq]
        refine st_call (cw) rfl (.inl rfl) ?_
        simp only [wx, wy, wz, stV, seval, IntWalk.iteOmega, IntWalk.toNatUp, reduceCtorEq]
        refine st_call (d1) rfl (.inl rfl) ?_
        simp only [eq_false h0, wx, wy, wz, stV, seval, IntWalk.iteOmega, IntWalk.toNatUp, reduceCtorEq]
        refine st_call (d3) rfl (.inl rfl) ?_
        simp only [wx, wy, wz, stV, seval, IntWalk.iteOmega, IntWalk.toNatUp, reduceCtorEq]
        refine st_call (f1) rfl (.inl rfl) ?_
        simp only [wx, wy, wz, stV, seval, IntWalk.iteOmega, IntWalk.toNatUp, reduceCtorEq]
        refine st_call (f2) rfl (.inl rfl) ?_
        simp only [wx, wy, wz, stV, seval, IntWalk.iteOmega, IntWalk.toNatUp, reduceCtorEq]
        refine st_call (f3) rfl (.inl rfl) ?_
        simp only [wx, wy, wz, stV, seval, IntWalk.iteOmega, IntWalk.toNatUp, reduceCtorEq]
        refine st_call (known12_c G) rfl (.inl rfl) ?_
        simp only [wx, wy, wz, stV, seval, IntWalk.iteOmega, IntWalk.toNatUp, reduceCtorEq]
        exact ret_d1 (by simp only [wx, wy, wz, stV, seval, IntWalk.iteOmega, IntWalk.toNatUp, reduceCtorEq])
        )
end Go.Proofs.Ytefoldolhgakmaa
