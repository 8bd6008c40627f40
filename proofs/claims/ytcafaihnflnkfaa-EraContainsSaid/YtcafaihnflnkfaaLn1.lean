/- The laws of layer 14. Own work. -/
import Derived.Test.YtcafaihnflnkfaaAlV
import Derived.Test.YtcafaihnflnkfaaLn0
set_option linter.unusedVariables false
set_option linter.unusedSimpArgs false
namespace Go.Proofs.Ytcafaihnflnkfaa
open Go.RowKit

def sf_kcon14 : SFn := ⟨3, 69,
  .seq (.reg [⟨(some 6), .mv (.k (.c (.d (.bool false)))), none⟩])
  (.seq (.reg [⟨(some 14), .mv (.t 0), none⟩,
    ⟨(some 15), .call 8 [(.t 14), (.k (.c (.d (.int .i64 288230376151711744))))] none, none⟩,
    ⟨(some 0), .mv (.t 15), none⟩])
  (.seq (.reg [⟨(some 16), .mv (.t 1), none⟩,
    ⟨(some 17), .call 8 [(.t 16), (.k (.c (.d (.int .i64 2251799813685246))))] none, none⟩,
    ⟨(some 18), .mv (.t 2), none⟩,
    ⟨(some 19), .call 8 [(.t 18), (.k (.c (.d (.int .i64 2251799813685246))))] none, none⟩,
    ⟨(some 1), .mv (.t 17), none⟩,
    ⟨(some 2), .mv (.t 19), none⟩])
  (.seq (.reg [⟨(some 21), .mv (.t 0), none⟩,
    ⟨(some 22), .call 9 [(.t 21)] none, none⟩,
    ⟨(some 20), .mv (.t 22), none⟩,
    ⟨(some 23), .extract (.t 20) 0, none⟩,
    ⟨(some 24), .extract (.t 20) 1, none⟩,
    ⟨(some 7), .mv (.t 23), none⟩,
    ⟨(some 8), .mv (.t 24), none⟩])
  (.seq (.reg [⟨(some 25), .mv (.t 0), none⟩,
    ⟨(some 26), .mv (.t 1), none⟩,
    ⟨(some 27), .bin .sub (.t 25) (.t 26), none⟩,
    ⟨(some 28), .mv (.t 0), none⟩,
    ⟨(some 29), .mv (.t 2), none⟩,
    ⟨(some 30), .bin .add (.t 28) (.t 29), none⟩,
    ⟨(some 31), .build [(.d (.int .i64 0)), (.d (.int .i64 0))] [(0, 1, (.t 27)), (1, 1, (.t 30))], none⟩,
    ⟨(some 9), .alloc [(.d (.int .i64 0)), (.d (.int .i64 0))], none⟩,
    ⟨none, .store (.ag 2) (.t 9) (.t 31), none⟩])
  (.seq (.reg [⟨(some 33), .load (.ag 2) (.t 9), none⟩,
    ⟨(some 34), .mv (.t 7), none⟩,
    ⟨(some 35), .call 10 [(.t 33), (.t 34)] none, none⟩,
    ⟨(some 32), .mv (.t 35), none⟩,
    ⟨(some 36), .extract (.t 32) 0, none⟩,
    ⟨(some 37), .extract (.t 32) 1, none⟩,
    ⟨(some 10), .alloc [(.d (.int .i64 0)), (.d (.int .i64 0))], none⟩,
    ⟨none, .store (.ag 2) (.t 10) (.t 36), none⟩,
    ⟨(some 11), .mv (.t 37), none⟩])
  (.seq (.reg [⟨(some 39), .load (.ag 2) (.t 9), none⟩,
    ⟨(some 40), .mv (.t 7), none⟩,
    ⟨(some 41), .call 11 [(.t 39), (.t 40)] none, none⟩,
    ⟨(some 38), .mv (.t 41), none⟩,
    ⟨(some 42), .extract (.t 38) 0, none⟩,
    ⟨(some 43), .extract (.t 38) 1, none⟩,
    ⟨(some 12), .mv (.t 42), none⟩,
    ⟨(some 13), .mv (.t 43), none⟩])
  (.seq (.reg [⟨(some 44), .call 12 [] none, none⟩,
    ⟨(some 45), .mv (.t 44), none⟩,
    ⟨(some 46), .mv (.t 8), (some (45, true))⟩,
    ⟨(some 47), .bin .eql (.t 46) (.k (.c (.d (.int .i64 0)))), (some (45, true))⟩,
    ⟨(some 48), .pick (.t 45) (.t 47) (.k (.c (.d (.bool false)))), none⟩,
    ⟨(some 49), .mv (.t 48), none⟩,
    ⟨(some 50), .mv (.t 11), (some (49, true))⟩,
    ⟨(some 51), .bin .eql (.t 50) (.k (.c (.d (.int .i64 0)))), (some (49, true))⟩,
    ⟨(some 52), .pick (.t 49) (.t 51) (.k (.c (.d (.bool false)))), none⟩,
    ⟨(some 53), .mv (.t 52), none⟩,
    ⟨(some 54), .mv (.t 13), (some (53, true))⟩,
    ⟨(some 55), .bin .eql (.t 54) (.k (.c (.d (.int .i64 0)))), (some (53, true))⟩,
    ⟨(some 56), .pick (.t 53) (.t 55) (.k (.c (.d (.bool false)))), none⟩,
    ⟨(some 57), .mv (.t 56), none⟩,
    ⟨(some 58), .load (.ag 2) (.t 10), (some (57, true))⟩,
    ⟨(some 59), .mv (.t 0), (some (57, true))⟩,
    ⟨(some 60), .mv (.t 0), (some (57, true))⟩,
    ⟨(some 61), .build [(.d (.int .i64 0)), (.d (.int .i64 0))] [(0, 1, (.t 59)), (1, 1, (.t 60))], (some (57, true))⟩,
    ⟨(some 62), .eqA false [0, 0] (.t 58) (.t 61), (some (57, true))⟩,
    ⟨(some 63), .pick (.t 57) (.t 62) (.k (.c (.d (.bool false)))), none⟩,
    ⟨(some 64), .mv (.t 63), none⟩,
    ⟨(some 65), .mv (.t 12), (some (64, true))⟩,
    ⟨(some 66), .len (.t 65), (some (64, true))⟩,
    ⟨(some 67), .bin .eql (.t 66) (.k (.c (.d (.int .i64 1)))), (some (64, true))⟩,
    ⟨(some 68), .pick (.t 64) (.t 67) (.k (.c (.d (.bool false)))), none⟩,
    ⟨(some 6), .mv (.t 68), none⟩])
  (.ret)))))))),
  [(6, none)]⟩
theorem cf_kcon14 : compFn Try.prog { own := [], comp := [], frz := [], nils := [] } Try.f3 = some sf_kcon14 := by kernel_rfl
set_option maxHeartbeats 1600000 in
theorem kcon14_c (G : Glob) (t : Int) (ht1 : -9223372036854775808 ≤ t) (ht2 : t ≤ 9223372036854775807) (b : Int) (hb1 : -9223372036854775808 ≤ b) (hb2 : b ≤ 9223372036854775807) (f : Int) (hf1 : -9223372036854775808 ≤ f) (hf2 : f ≤ 9223372036854775807)  : Den Try.prog G 3 [.int .i64 t, .int .i64 b, .int .i64 f] (.w (.c (.d (.bool true)))) := by
  refine den_walk Try.func3 cf_kcon14 rfl rfl ?_
  have r1 := withinN_range t 288230376151711744 (by decide)
  have r2 := withinN_range b 2251799813685246 (by decide)
  have r3 := withinN_range f 2251799813685246 (by decide)
  have c1 := within_c G t 288230376151711744 (by decide)
  have c2 := within_c G b 2251799813685246 (by decide)
  have c3 := within_c G f 2251799813685246 (by decide)
  generalize withinN t 288230376151711744 = T at *
  generalize withinN b 2251799813685246 = B at *
  generalize withinN f 2251799813685246 = F at *
  have cw := wir_c G T (by omega) (by omega)
  obtain ⟨e1, e2⟩ := wir_at (t := T) (by omega)
  rw [e1, e2] at cw
  have co := gonl_c G (T - B) (T + F) (T % 4503599627370496 * 4096) (by omega) (by omega)
  have cu := gunf_c G (T - B) (T + F) (T % 4503599627370496 * 4096) (by omega) (by omega)
  obtain ⟨k1, k2, k3⟩ := onl_at (t := T) (lo := T - B) (hi := T + F) (by omega) (by omega) (by omega) (by omega) (by omega)
  have k4 : onlB (T % 4503599627370496) (T % 4503599627370496) (T - B) (T + F) = true := by unfold onlB; rw [k1, k2]; rfl
  have k5 : onlE (T % 4503599627370496) (T % 4503599627370496) (T - B) (T + F) = 0 := by unfold onlE; rw [k1, k2]; rfl
  have k6 : unfE (T % 4503599627370496) (T % 4503599627370496) (T - B) (T + F) = 0 := by unfold unfE; rw [k1, k2]; rfl
  rw [wir_dn, wir_up] at co cu
  rw [k3, k4, k5] at co
  rw [k6] at cu
  obtain ⟨L, hL⟩ : ∃ L, unfW (T % 4503599627370496) (T % 4503599627370496) (T - B) (T + F) = L := ⟨_, rfl⟩
  have hl : L.length = 1 := by
    rw [← hL]; unfold unfW; rw [if_pos ⟨k1, by omega⟩]
    exact (unfP_len _ _ _ _).trans k2
  rw [hL] at cu
  generalize T % 4503599627370496 * 4096 = W at *
  have hl' : (L.length : Int) = 1 := by omega
  simp only [sf_kcon14, putAll, wx, wy, wz, stV, seval, IntWalk.iteOmega, IntWalk.toNatUp, reduceCtorEq]
  refine st_call (c1) rfl (.inl rfl) ?_
  simp only [wx, wy, wz, stV, seval, IntWalk.iteOmega, IntWalk.toNatUp, reduceCtorEq]
  refine st_call (c2) rfl (.inl rfl) ?_
  simp only [wx, wy, wz, stV, seval, IntWalk.iteOmega, IntWalk.toNatUp, reduceCtorEq]
  refine st_call (c3) rfl (.inl rfl) ?_
  simp only [wx, wy, wz, stV, seval, IntWalk.iteOmega, IntWalk.toNatUp, reduceCtorEq]
  refine st_call (cw) rfl (.inl rfl) ?_
  simp only [wx, wy, wz, stV, seval, IntWalk.iteOmega, IntWalk.toNatUp, reduceCtorEq]
  refine st_call (co) rfl (.inl rfl) ?_
  simp only [spA, wx, wy, wz, stV, seval, IntWalk.iteOmega, IntWalk.toNatUp, reduceCtorEq]
  refine st_call (cu) rfl (.inl rfl) ?_
  simp only [wx, wy, wz, stV, seval, IntWalk.iteOmega, IntWalk.toNatUp, reduceCtorEq]
  refine st_call (known14_c G) rfl (.inl rfl) ?_
  simp only [hl', wx, wy, wz, stV, seval, IntWalk.iteOmega, IntWalk.toNatUp, reduceCtorEq]
  exact ret_d1 (by simp only [wx, wy, wz, stV, seval, IntWalk.iteOmega, IntWalk.toNatUp, reduceCtorEq])
def sf_kahe14 : SFn := ⟨2, 22,
  .seq (.reg [⟨(some 4), .mv (.k (.c (.d (.bool false)))), none⟩])
  (.seq (.reg [⟨(some 5), .call 12 [] none, none⟩,
    ⟨(some 6), .mv (.t 5), none⟩,
    ⟨(some 7), .mv (.t 0), (some (6, true))⟩,
    ⟨(some 8), .mv (.t 1), (some (6, true))⟩,
    ⟨(some 9), .conv .u64 (.t 8), (some (6, true))⟩,
    ⟨(some 10), .bin .add (.t 7) (.t 9), (some (6, true))⟩,
    ⟨(some 11), .mv (.t 0), (some (6, true))⟩,
    ⟨(some 12), .call 14 [(.t 10), (.t 11)] none, (some (6, true))⟩,
    ⟨(some 13), .mv (.t 1), (some (6, true))⟩,
    ⟨(some 14), .bin .eql (.t 12) (.t 13), (some (6, true))⟩,
    ⟨(some 15), .pick (.t 6) (.t 14) (.k (.c (.d (.bool false)))), none⟩,
    ⟨(some 16), .mv (.t 15), none⟩,
    ⟨(some 17), .mv (.t 0), (some (16, true))⟩,
    ⟨(some 18), .mv (.t 0), (some (16, true))⟩,
    ⟨(some 19), .call 14 [(.t 17), (.t 18)] none, (some (16, true))⟩,
    ⟨(some 20), .bin .eql (.t 19) (.k (.c (.d (.int .i64 0)))), (some (16, true))⟩,
    ⟨(some 21), .pick (.t 16) (.t 20) (.k (.c (.d (.bool false)))), none⟩,
    ⟨(some 4), .mv (.t 21), none⟩])
  (.ret)),
  [(4, none)]⟩
theorem cf_kahe14 : compFn Try.prog { own := [], comp := [], frz := [], nils := [] } Try.f6 = some sf_kahe14 := by kernel_rfl
set_option maxHeartbeats 1600000 in
theorem kahe14_c (G : Glob) (w : Nat) (hw : w < 18446744073709551616) (d : Int) (hd1 : -9223372036854775808 ≤ d) (hd2 : d ≤ 9223372036854775807)  : Den Try.prog G 6 [.int .u64 (w : Int), .int .i64 d] (.w (.c (.d (.bool true)))) := by
  refine den_walk Try.func6 cf_kahe14 rfl rfl ?_
  have c1 := gahe_c G (IntKind.u64.wrap ((w : Int) + IntKind.u64.wrap d)) w
  have c2 := gahe_c G w w
  have e1 : IntKind.i64.wrap (IntKind.u64.wrap (IntKind.u64.wrap ((w : Int) + IntKind.u64.wrap d) - (w : Int))) = d := by
    simp only [IntKind.wrap_u64, IntKind.wrap_i64]
    omega
  have e2 : IntKind.i64.wrap (IntKind.u64.wrap ((w : Int) - (w : Int))) = 0 := by
    rw [Int.sub_self]; decide +kernel
  rw [e1] at c1
  rw [e2] at c2
  generalize hX : IntKind.u64.wrap ((w : Int) + IntKind.u64.wrap d) = X at *
  simp only [sf_kahe14, putAll, wx, stV, seval, IntWalk.iteOmega, IntWalk.toNatUp, reduceCtorEq]
  refine st_call (known14_c G) rfl (.inl rfl) ?_
  simp only [wx, stV, seval, IntWalk.iteOmega, IntWalk.toNatUp, reduceCtorEq, hX]
  refine st_call c1 rfl (.inl rfl) ?_
  simp only [wx, stV, seval, IntWalk.iteOmega, IntWalk.toNatUp, reduceCtorEq]
  refine st_call c2 rfl (.inl rfl) ?_
  simp only [wx, stV, seval, IntWalk.iteOmega, IntWalk.toNatUp, reduceCtorEq]
  exact ret_d1 (by simp only [wx, wy, wz, stV, seval, IntWalk.iteOmega, IntWalk.toNatUp, reduceCtorEq])
end Go.Proofs.Ytcafaihnflnkfaa
