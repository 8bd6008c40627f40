/- The laws of layer 11: order, algebra. Own work. -/
import Derived.Test.YtaodfdnncdelnaaAlV
import Derived.Test.YtaodfdnncdelnaaLk0
set_option linter.unusedVariables false
set_option linter.unusedSimpArgs false
namespace Go.Proofs.Ytaodfdnncdelnaa
open Go.RowKit

theorem ins_ok {a b c d : Int} (h : okP (a, b) = true) (k : okP (c, d) = true) : insB a b c d = decide (c ≤ a ∧ b ≤ d) := by
  unfold insB; rw [h, k]; rfl
theorem ins_t {a b c d : Int} (h : okP (a, b) = true) (k : okP (c, d) = true) (e : c ≤ a ∧ b ≤ d) : insB a b c d = true := by
  rw [ins_ok h k, decide_eq_true e]
theorem ins_f {a b c d : Int} (e : ¬ (c ≤ a ∧ b ≤ d)) : insB a b c d = false := by
  unfold insB
  rw [decide_eq_false e, Bool.and_false]
theorem hld_t {a b t : Int} (h : okP (a, b) = true) (e : a ≤ t ∧ t ≤ b) : hldB a b t = true := by
  unfold hldB; rw [h, decide_eq_true e]; rfl
theorem hld_f {a b t : Int} (e : ¬ (a ≤ t ∧ t ≤ b)) : hldB a b t = false := by
  unfold hldB; rw [decide_eq_false e, Bool.and_false]
theorem mt_t {a b c d : Int} (h : okP (a, b) = true) (k : okP (c, d) = true) (e : max a c ≤ min b d) : mtB a b c d = true := by
  unfold mtB meetB; rw [h, k, decide_eq_true e]; rfl
theorem mt_f {a b c d : Int} (e : ¬ max a c ≤ min b d) : mtB a b c d = false := by
  unfold mtB meetB; rw [decide_eq_false e, Bool.and_false]
theorem wsp_ok (a b : Int) : -1000 ≤ withinN a 2000 - 1000 ∧ withinN a 2000 - 1000 ≤ 999 ∧ withinN a 2000 - 1000 ≤ withinN a 2000 - 1000 + withinN b 500 ∧ withinN a 2000 - 1000 + withinN b 500 ≤ withinN a 2000 - 1000 + 499 := by
  have h1 := withinN_range a 2000 (by decide)
  have h2 := withinN_range b 500 (by decide)
  omega
def sf_kord : SFn := ⟨5, 113,
  .seq (.reg [⟨(some 10), .mv (.k (.c (.d (.bool false)))), none⟩])
  (.seq (.reg [⟨(some 17), .mv (.t 0), none⟩,
    ⟨(some 18), .mv (.t 1), none⟩,
    ⟨(some 19), .call 37 [(.t 17), (.t 18)] none, none⟩,
    ⟨(some 20), .mv (.t 2), none⟩,
    ⟨(some 21), .mv (.t 3), none⟩,
    ⟨(some 22), .call 37 [(.t 20), (.t 21)] none, none⟩,
    ⟨(some 11), .alloc [(.d (.int .i64 0)), (.d (.int .i64 0))], none⟩,
    ⟨(some 12), .alloc [(.d (.int .i64 0)), (.d (.int .i64 0))], none⟩,
    ⟨none, .store (.ag 2) (.t 11) (.t 19), none⟩,
    ⟨none, .store (.ag 2) (.t 12) (.t 22), none⟩])
  (.seq (.reg [⟨(some 24), .load (.ag 2) (.t 11), none⟩,
    ⟨(some 25), .load (.ag 2) (.t 12), none⟩,
    ⟨(some 26), .call 9 [(.t 24), (.t 25)] none, none⟩,
    ⟨(some 23), .mv (.t 26), none⟩,
    ⟨(some 27), .extract (.t 23) 0, none⟩,
    ⟨(some 28), .extract (.t 23) 1, none⟩,
    ⟨(some 13), .alloc [(.d (.int .i64 0)), (.d (.int .i64 0))], none⟩,
    ⟨none, .store (.ag 2) (.t 13) (.t 27), none⟩,
    ⟨(some 14), .mv (.t 28), none⟩])
  (.seq (.reg [⟨(some 29), .mv (.t 4), none⟩,
    ⟨(some 30), .call 38 [(.t 29), (.k (.c (.d (.int .i64 300))))] none, none⟩,
    ⟨(some 4), .mv (.t 30), none⟩])
  (.seq (.reg [⟨(some 32), .load (.ag 2) (.t 11), none⟩,
    ⟨(some 33), .mv (.t 4), none⟩,
    ⟨(some 34), .mv (.t 4), none⟩,
    ⟨(some 35), .bin .mul (.k (.c (.d (.int .i64 2)))) (.t 34), none⟩,
    ⟨(some 36), .call 19 [(.t 32), (.t 33), (.t 35)] none, none⟩,
    ⟨(some 31), .mv (.t 36), none⟩,
    ⟨(some 37), .extract (.t 31) 0, none⟩,
    ⟨(some 38), .extract (.t 31) 1, none⟩,
    ⟨(some 15), .alloc [(.d (.int .i64 0)), (.d (.int .i64 0))], none⟩,
    ⟨none, .store (.ag 2) (.t 15) (.t 37), none⟩,
    ⟨(some 16), .mv (.t 38), none⟩])
  (.seq (.seq (.reg [⟨(some 39), .mv (.t 16), none⟩,
    ⟨(some 40), .bin .neq (.t 39) (.k (.c (.d (.int .i64 0)))), none⟩,
    ⟨(some 41), .mv (.t 40), none⟩,
    ⟨(some 42), .load (.ag 2) (.t 11), (some (41, false))⟩,
    ⟨(some 43), .load (.ag 2) (.t 15), (some (41, false))⟩,
    ⟨(some 44), .call 26 [(.t 42), (.t 43)] none, (some (41, false))⟩,
    ⟨(some 45), .un .not (.t 44), (some (41, false))⟩,
    ⟨(some 46), .pick (.t 41) (.k (.c (.d (.bool true)))) (.t 45), none⟩,
    ⟨(some 47), .mv (.t 46), none⟩,
    ⟨(some 48), .fieldAddr 1 (.t 15), (some (47, false))⟩,
    ⟨(some 49), .load .sc (.t 48), (some (47, false))⟩,
    ⟨(some 50), .fieldAddr 0 (.t 15), (some (47, false))⟩,
    ⟨(some 51), .load .sc (.t 50), (some (47, false))⟩,
    ⟨(some 52), .bin .sub (.t 49) (.t 51), (some (47, false))⟩,
    ⟨(some 53), .fieldAddr 1 (.t 11), (some (47, false))⟩,
    ⟨(some 54), .load .sc (.t 53), (some (47, false))⟩,
    ⟨(some 55), .fieldAddr 0 (.t 11), (some (47, false))⟩,
    ⟨(some 56), .load .sc (.t 55), (some (47, false))⟩,
    ⟨(some 57), .bin .sub (.t 54) (.t 56), (some (47, false))⟩,
    ⟨(some 58), .mv (.t 4), (some (47, false))⟩,
    ⟨(some 59), .bin .mul (.k (.c (.d (.int .i64 3)))) (.t 58), (some (47, false))⟩,
    ⟨(some 60), .bin .add (.t 57) (.t 59), (some (47, false))⟩,
    ⟨(some 61), .bin .neq (.t 52) (.t 60), (some (47, false))⟩,
    ⟨(some 62), .pick (.t 47) (.k (.c (.d (.bool true)))) (.t 61), none⟩,
    ⟨(some 63), .mv (.t 62), none⟩,
    ⟨(some 64), .load (.ag 2) (.t 11), (some (63, false))⟩,
    ⟨(some 65), .load (.ag 2) (.t 11), (some (63, false))⟩,
    ⟨(some 66), .call 30 [(.t 65)] none, (some (63, false))⟩,
    ⟨(some 67), .call 24 [(.t 64), (.t 66)] none, (some (63, false))⟩,
    ⟨(some 68), .un .not (.t 67), (some (63, false))⟩,
    ⟨(some 69), .pick (.t 63) (.k (.c (.d (.bool true)))) (.t 68), none⟩])
  (.cond (.t 69) (.seq (.reg [⟨(some 10), .mv (.k (.c (.d (.bool false)))), none⟩])
   (.ret))
   (.skip)))
  (.seq (.seq (.reg [⟨(some 70), .load (.ag 2) (.t 11), none⟩,
    ⟨(some 71), .load (.ag 2) (.t 12), none⟩,
    ⟨(some 72), .call 26 [(.t 70), (.t 71)] none, none⟩,
    ⟨(some 73), .mv (.t 72), none⟩,
    ⟨(some 74), .load (.ag 2) (.t 12), (some (73, true))⟩,
    ⟨(some 75), .load (.ag 2) (.t 11), (some (73, true))⟩,
    ⟨(some 76), .call 26 [(.t 74), (.t 75)] none, (some (73, true))⟩,
    ⟨(some 77), .pick (.t 73) (.t 76) (.k (.c (.d (.bool false)))), none⟩,
    ⟨(some 78), .mv (.t 77), none⟩,
    ⟨(some 79), .load (.ag 2) (.t 11), (some (78, true))⟩,
    ⟨(some 80), .load (.ag 2) (.t 12), (some (78, true))⟩,
    ⟨(some 81), .eqA true [0, 0] (.t 79) (.t 80), (some (78, true))⟩,
    ⟨(some 82), .pick (.t 78) (.t 81) (.k (.c (.d (.bool false)))), none⟩,
    ⟨(some 83), .mv (.t 82), none⟩,
    ⟨(some 84), .mv (.t 14), (some (83, false))⟩,
    ⟨(some 85), .mv (.t 84), (some (83, false))⟩,
    ⟨(some 86), .load (.ag 2) (.t 13), (some (85, true))⟩,
    ⟨(some 87), .load (.ag 2) (.t 11), (some (85, true))⟩,
    ⟨(some 88), .call 26 [(.t 86), (.t 87)] none, (some (85, true))⟩,
    ⟨(some 89), .un .not (.t 88), (some (85, true))⟩,
    ⟨(some 90), .mv (.t 89), (some (85, true))⟩,
    ⟨(some 91), .load (.ag 2) (.t 13), (some (90, false))⟩,
    ⟨(some 92), .load (.ag 2) (.t 12), (some (90, false))⟩,
    ⟨(some 93), .call 26 [(.t 91), (.t 92)] none, (some (90, false))⟩,
    ⟨(some 94), .un .not (.t 93), (some (90, false))⟩,
    ⟨(some 95), .pick (.t 90) (.k (.c (.d (.bool true)))) (.t 94), (some (85, true))⟩,
    ⟨(some 96), .pick (.t 85) (.t 95) (.k (.c (.d (.bool false)))), (some (83, false))⟩,
    ⟨(some 97), .pick (.t 83) (.k (.c (.d (.bool true)))) (.t 96), none⟩])
  (.cond (.t 97) (.seq (.reg [⟨(some 10), .mv (.k (.c (.d (.bool false)))), none⟩])
   (.ret))
   (.skip)))
  (.seq (.reg [⟨(some 98), .call 21 [] none, none⟩,
    ⟨(some 99), .mv (.t 98), none⟩,
    ⟨(some 100), .load (.ag 2) (.t 11), (some (99, true))⟩,
    ⟨(some 101), .load (.ag 2) (.t 12), (some (99, true))⟩,
    ⟨(some 102), .call 26 [(.t 100), (.t 101)] none, (some (99, true))⟩,
    ⟨(some 103), .un .not (.t 102), (some (99, true))⟩,
    ⟨(some 104), .mv (.t 103), (some (99, true))⟩,
    ⟨(some 105), .mv (.t 14), (some (104, false))⟩,
    ⟨(some 106), .mv (.t 105), (some (104, false))⟩,
    ⟨(some 107), .load (.ag 2) (.t 13), (some (106, true))⟩,
    ⟨(some 108), .load (.ag 2) (.t 11), (some (106, true))⟩,
    ⟨(some 109), .eqA false [0, 0] (.t 107) (.t 108), (some (106, true))⟩,
    ⟨(some 110), .pick (.t 106) (.t 109) (.k (.c (.d (.bool false)))), (some (104, false))⟩,
    ⟨(some 111), .pick (.t 104) (.k (.c (.d (.bool true)))) (.t 110), (some (99, true))⟩,
    ⟨(some 112), .pick (.t 99) (.t 111) (.k (.c (.d (.bool false)))), none⟩,
    ⟨(some 10), .mv (.t 112), none⟩])
  (.ret)))))))),
  [(10, none)]⟩
theorem cf_kord : compFn Try.prog { own := [], comp := [], frz := [], nils := [] } Try.f7 = some sf_kord := by kernel_rfl
set_option maxHeartbeats 1600000 in
theorem kord_c (G : Glob) (a : Int) (ha1 : -9223372036854775808 ≤ a) (ha2 : a ≤ 9223372036854775807) (b : Int) (hb1 : -9223372036854775808 ≤ b) (hb2 : b ≤ 9223372036854775807) (c : Int) (hc1 : -9223372036854775808 ≤ c) (hc2 : c ≤ 9223372036854775807) (d : Int) (hd1 : -9223372036854775808 ≤ d) (hd2 : d ≤ 9223372036854775807) (v : Int) (hv1 : -9223372036854775808 ≤ v) (hv2 : v ≤ 9223372036854775807)  : Den Try.prog G 7 [.int .i64 a, .int .i64 b, .int .i64 c, .int .i64 d, .int .i64 v] (.w (.c (.d (.bool true)))) := by
  refine den_walk Try.func7 cf_kord rfl rfl ?_
  have c1 := wspan_c G a b
  have c2 := wspan_c G c d
  obtain ⟨x1, x2, x3, x4⟩ := wsp_ok a b
  obtain ⟨y1, y2, y3, y4⟩ := wsp_ok c d
  generalize withinN a 2000 - 1000 + withinN b 500 = X1 at *
  generalize withinN a 2000 - 1000 = X0 at *
  generalize withinN c 2000 - 1000 + withinN d 500 = Y1 at *
  generalize withinN c 2000 - 1000 = Y0 at *
  have hw := withinN_range v 300 (by decide)
  have cw := within_c G v 300 (by decide)
  generalize withinN v 300 = W at *
  have oX : okP (X0, X1) = true := okP_d ⟨by omega, by omega, by omega⟩
  have oY : okP (Y0, Y1) = true := okP_d ⟨by omega, by omega, by omega⟩
  have oG : okP (X0 - W, X1 + 2 * W) = true := okP_d ⟨by omega, by omega, by omega⟩
  have cm := imet_c G X0 X1 Y0 Y1
  have cg := igro_c G X0 X1 W (2 * W)
  rw [show groB X0 X1 W (2 * W) = true by unfold groB groK; rw [oX, oG, decide_eq_true ⟨by omega, by omega, by omega, by omega⟩]; rfl,
    show groE X0 X1 W (2 * W) = 0 by unfold groE groK; rw [oX, oG, decide_eq_true ⟨by omega, by omega, by omega, by omega⟩]; rfl] at cg
  have ci := iins_c G X0 X1 (X0 - W) (X1 + 2 * W)
  rw [ins_t oX oG ⟨by omega, by omega⟩] at ci
  have cmid := imid_c G X0 X1
  rw [show midV X0 X1 = (X0 + X1) / 2 by unfold midV; rw [oX]; rfl] at cmid
  have ch := ihld_c G X0 X1 ((X0 + X1) / 2)
  rw [hld_t oX ⟨by omega, by omega⟩] at ch
  have e3 : X1 + 2 * W - (X0 - W) = X1 - X0 + 3 * W := by omega
  have cxy := iins_c G X0 X1 Y0 Y1
  have cyx := iins_c G Y0 Y1 X0 X1
  by_cases hxy : Y0 ≤ X0 ∧ X1 ≤ Y1
  · rw [ins_t oX oY hxy] at cxy
    have hm : max X0 Y0 = X0 := by omega
    have hn : min X1 Y1 = X1 := by omega
    rw [mt_t oX oY (by omega), hm, hn] at cm
    have cmx := iins_c G X0 X1 X0 X1
    rw [ins_t oX oX ⟨by omega, by omega⟩] at cmx
    by_cases hyx : X0 ≤ Y0 ∧ Y1 ≤ X1
    · rw [ins_t oY oX hyx] at cyx
      have f1 : (X0 = Y0) = True := eq_true (by omega)
      have f2 : (X1 = Y1) = True := eq_true (by omega)
      simp only [sf_kord, putAll, wx, wy, wz, stV, seval, IntWalk.iteOmega, IntWalk.toNatUp, reduceCtorEq]
      refine st_call (c1) rfl (.inl rfl) ?_
      simp only [wx, wy, wz, stV, seval, IntWalk.iteOmega, IntWalk.toNatUp, reduceCtorEq]
      refine st_call (c2) rfl (.inl rfl) ?_
      simp only [wx, wy, wz, stV, seval, IntWalk.iteOmega, IntWalk.toNatUp, reduceCtorEq]
      refine st_call (cm) rfl (.inl rfl) ?_
      simp only [spA, wx, wy, wz, stV, seval, IntWalk.iteOmega, IntWalk.toNatUp, reduceCtorEq]
      refine st_call (cw) rfl (.inl rfl) ?_
      simp only [wx, wy, wz, stV, seval, IntWalk.iteOmega, IntWalk.toNatUp, reduceCtorEq]
      refine st_call (cg) rfl (.inl rfl) ?_
      simp only [spA, wx, wy, wz, stV, seval, IntWalk.iteOmega, IntWalk.toNatUp, reduceCtorEq]
      refine st_call (ci) rfl (.inl rfl) ?_
      simp only [wx, wy, wz, stV, seval, IntWalk.iteOmega, IntWalk.toNatUp, reduceCtorEq]
      refine st_call (cmid) rfl (.inl rfl) ?_
      simp only [wx, wy, wz, stV, seval, IntWalk.iteOmega, IntWalk.toNatUp, reduceCtorEq]
      refine st_call (ch) rfl (.inl rfl) ?_
      simp only [e3, wx, wy, wz, stV, seval, IntWalk.iteOmega, IntWalk.toNatUp, reduceCtorEq]
      refine st_call (cxy) rfl (.inl rfl) ?_
      simp only [wx, wy, wz, stV, seval, IntWalk.iteOmega, IntWalk.toNatUp, reduceCtorEq]
      refine st_call (cyx) rfl (.inl rfl) ?_
      simp only [f1, f2, wx, wy, wz, stV, seval, IntWalk.iteOmega, IntWalk.toNatUp, reduceCtorEq]
      refine st_call (cmx) rfl (.inl rfl) ?_
      simp only [wx, wy, wz, stV, seval, IntWalk.iteOmega, IntWalk.toNatUp, reduceCtorEq]
      refine st_call (cxy) rfl (.inl rfl) ?_
      simp only [wx, wy, wz, stV, seval, IntWalk.iteOmega, IntWalk.toNatUp, reduceCtorEq]
      refine st_call (known11_c G) rfl (.inl rfl) ?_
      simp only [wx, wy, wz, stV, seval, IntWalk.iteOmega, IntWalk.toNatUp, reduceCtorEq]
      refine st_call (cxy) rfl (.inl rfl) ?_
      simp only [wx, wy, wz, stV, seval, IntWalk.iteOmega, IntWalk.toNatUp, reduceCtorEq]
      exact ret_d1 (by simp only [wx, wy, wz, stV, seval, IntWalk.iteOmega, IntWalk.toNatUp, reduceCtorEq])
    · rw [ins_f hyx] at cyx
      simp only [sf_kord, putAll, wx, wy, wz, stV, seval, IntWalk.iteOmega, IntWalk.toNatUp, reduceCtorEq]
      refine st_call (c1) rfl (.inl rfl) ?_
      simp only [wx, wy, wz, stV, seval, IntWalk.iteOmega, IntWalk.toNatUp, reduceCtorEq]
      refine st_call (c2) rfl (.inl rfl) ?_
      simp only [wx, wy, wz, stV, seval, IntWalk.iteOmega, IntWalk.toNatUp, reduceCtorEq]
      refine st_call (cm) rfl (.inl rfl) ?_
      simp only [spA, wx, wy, wz, stV, seval, IntWalk.iteOmega, IntWalk.toNatUp, reduceCtorEq]
      refine st_call (cw) rfl (.inl rfl) ?_
      simp only [wx, wy, wz, stV, seval, IntWalk.iteOmega, IntWalk.toNatUp, reduceCtorEq]
      refine st_call (cg) rfl (.inl rfl) ?_
      simp only [spA, wx, wy, wz, stV, seval, IntWalk.iteOmega, IntWalk.toNatUp, reduceCtorEq]
      refine st_call (ci) rfl (.inl rfl) ?_
      simp only [wx, wy, wz, stV, seval, IntWalk.iteOmega, IntWalk.toNatUp, reduceCtorEq]
      refine st_call (cmid) rfl (.inl rfl) ?_
      simp only [wx, wy, wz, stV, seval, IntWalk.iteOmega, IntWalk.toNatUp, reduceCtorEq]
      refine st_call (ch) rfl (.inl rfl) ?_
      simp only [e3, wx, wy, wz, stV, seval, IntWalk.iteOmega, IntWalk.toNatUp, reduceCtorEq]
      refine st_call (cxy) rfl (.inl rfl) ?_
      simp only [wx, wy, wz, stV, seval, IntWalk.iteOmega, IntWalk.toNatUp, reduceCtorEq]
      refine st_call (cyx) rfl (.inl rfl) ?_
      simp only [wx, wy, wz, stV, seval, IntWalk.iteOmega, IntWalk.toNatUp, reduceCtorEq]
      refine st_call (cmx) rfl (.inl rfl) ?_
      simp only [wx, wy, wz, stV, seval, IntWalk.iteOmega, IntWalk.toNatUp, reduceCtorEq]
      refine st_call (cxy) rfl (.inl rfl) ?_
      simp only [wx, wy, wz, stV, seval, IntWalk.iteOmega, IntWalk.toNatUp, reduceCtorEq]
      refine st_call (known11_c G) rfl (.inl rfl) ?_
      simp only [wx, wy, wz, stV, seval, IntWalk.iteOmega, IntWalk.toNatUp, reduceCtorEq]
      refine st_call (cxy) rfl (.inl rfl) ?_
      simp only [wx, wy, wz, stV, seval, IntWalk.iteOmega, IntWalk.toNatUp, reduceCtorEq]
      exact ret_d1 (by simp only [wx, wy, wz, stV, seval, IntWalk.iteOmega, IntWalk.toNatUp, reduceCtorEq])
  · rw [ins_f hxy] at cxy
    by_cases hmt : max X0 Y0 ≤ min X1 Y1
    · rw [mt_t oX oY hmt] at cm
      have oM : okP (max X0 Y0, min X1 Y1) = true := okP_d ⟨by omega, by omega, hmt⟩
      have cmx := iins_c G (max X0 Y0) (min X1 Y1) X0 X1
      rw [ins_t oM oX ⟨by omega, by omega⟩] at cmx
      have cmy := iins_c G (max X0 Y0) (min X1 Y1) Y0 Y1
      rw [ins_t oM oY ⟨by omega, by omega⟩] at cmy
      simp only [sf_kord, putAll, wx, wy, wz, stV, seval, IntWalk.iteOmega, IntWalk.toNatUp, reduceCtorEq]
      refine st_call (c1) rfl (.inl rfl) ?_
      simp only [wx, wy, wz, stV, seval, IntWalk.iteOmega, IntWalk.toNatUp, reduceCtorEq]
      refine st_call (c2) rfl (.inl rfl) ?_
      simp only [wx, wy, wz, stV, seval, IntWalk.iteOmega, IntWalk.toNatUp, reduceCtorEq]
      refine st_call (cm) rfl (.inl rfl) ?_
      simp only [spA, wx, wy, wz, stV, seval, IntWalk.iteOmega, IntWalk.toNatUp, reduceCtorEq]
      refine st_call (cw) rfl (.inl rfl) ?_
      simp only [wx, wy, wz, stV, seval, IntWalk.iteOmega, IntWalk.toNatUp, reduceCtorEq]
      refine st_call (cg) rfl (.inl rfl) ?_
      simp only [spA, wx, wy, wz, stV, seval, IntWalk.iteOmega, IntWalk.toNatUp, reduceCtorEq]
      refine st_call (ci) rfl (.inl rfl) ?_
      simp only [wx, wy, wz, stV, seval, IntWalk.iteOmega, IntWalk.toNatUp, reduceCtorEq]
      refine st_call (cmid) rfl (.inl rfl) ?_
      simp only [wx, wy, wz, stV, seval, IntWalk.iteOmega, IntWalk.toNatUp, reduceCtorEq]
      refine st_call (ch) rfl (.inl rfl) ?_
      simp only [e3, wx, wy, wz, stV, seval, IntWalk.iteOmega, IntWalk.toNatUp, reduceCtorEq]
      refine st_call (cxy) rfl (.inl rfl) ?_
      simp only [wx, wy, wz, stV, seval, IntWalk.iteOmega, IntWalk.toNatUp, reduceCtorEq]
      refine st_call (cmx) rfl (.inl rfl) ?_
      simp only [wx, wy, wz, stV, seval, IntWalk.iteOmega, IntWalk.toNatUp, reduceCtorEq]
      refine st_call (cmy) rfl (.inl rfl) ?_
      simp only [wx, wy, wz, stV, seval, IntWalk.iteOmega, IntWalk.toNatUp, reduceCtorEq]
      refine st_call (known11_c G) rfl (.inl rfl) ?_
      simp only [wx, wy, wz, stV, seval, IntWalk.iteOmega, IntWalk.toNatUp, reduceCtorEq]
      refine st_call (cxy) rfl (.inl rfl) ?_
      simp only [wx, wy, wz, stV, seval, IntWalk.iteOmega, IntWalk.toNatUp, reduceCtorEq]
      exact ret_d1 (by simp only [wx, wy, wz, stV, seval, IntWalk.iteOmega, IntWalk.toNatUp, reduceCtorEq])
    · rw [mt_f hmt] at cm
      simp only [sf_kord, putAll, wx, wy, wz, stV, seval, IntWalk.iteOmega, IntWalk.toNatUp, reduceCtorEq]
      refine st_call (c1) rfl (.inl rfl) ?_
      simp only [wx, wy, wz, stV, seval, IntWalk.iteOmega, IntWalk.toNatUp, reduceCtorEq]
      refine st_call (c2) rfl (.inl rfl) ?_
      simp only [wx, wy, wz, stV, seval, IntWalk.iteOmega, IntWalk.toNatUp, reduceCtorEq]
      refine st_call (cm) rfl (.inl rfl) ?_
      simp only [spA, wx, wy, wz, stV, seval, IntWalk.iteOmega, IntWalk.toNatUp, reduceCtorEq]
      refine st_call (cw) rfl (.inl rfl) ?_
      simp only [wx, wy, wz, stV, seval, IntWalk.iteOmega, IntWalk.toNatUp, reduceCtorEq]
      refine st_call (cg) rfl (.inl rfl) ?_
      simp only [spA, wx, wy, wz, stV, seval, IntWalk.iteOmega, IntWalk.toNatUp, reduceCtorEq]
      refine st_call (ci) rfl (.inl rfl) ?_
      simp only [wx, wy, wz, stV, seval, IntWalk.iteOmega, IntWalk.toNatUp, reduceCtorEq]
      refine st_call (cmid) rfl (.inl rfl) ?_
      simp only [wx, wy, wz, stV, seval, IntWalk.iteOmega, IntWalk.toNatUp, reduceCtorEq]
      refine st_call (ch) rfl (.inl rfl) ?_
      simp only [e3, wx, wy, wz, stV, seval, IntWalk.iteOmega, IntWalk.toNatUp, reduceCtorEq]
      refine st_call (cxy) rfl (.inl rfl) ?_
      simp only [wx, wy, wz, stV, seval, IntWalk.iteOmega, IntWalk.toNatUp, reduceCtorEq]
      refine st_call (known11_c G) rfl (.inl rfl) ?_
      simp only [wx, wy, wz, stV, seval, IntWalk.iteOmega, IntWalk.toNatUp, reduceCtorEq]
      refine st_call (cxy) rfl (.inl rfl) ?_
      simp only [wx, wy, wz, stV, seval, IntWalk.iteOmega, IntWalk.toNatUp, reduceCtorEq]
      exact ret_d1 (by simp only [wx, wy, wz, stV, seval, IntWalk.iteOmega, IntWalk.toNatUp, reduceCtorEq])
theorem sum_t {a b c d x y : Int} (h : okP (a, b) = true) (k : okP (c, d) = true) (e : okP (x, y) = true) : smsB a b c d x y = true ∧ sumE a b c d x y = 0 := by
  unfold smsB sumE; rw [h, k, e]; exact ⟨rfl, rfl⟩
def sf_kalg : SFn := ⟨6, 188,
  .seq (.reg [⟨(some 12), .mv (.k (.c (.d (.bool false)))), none⟩])
  (.seq (.reg [⟨(some 36), .mv (.t 0), none⟩,
    ⟨(some 37), .mv (.t 1), none⟩,
    ⟨(some 38), .call 37 [(.t 36), (.t 37)] none, none⟩,
    ⟨(some 39), .mv (.t 2), none⟩,
    ⟨(some 40), .mv (.t 3), none⟩,
    ⟨(some 41), .call 37 [(.t 39), (.t 40)] none, none⟩,
    ⟨(some 42), .mv (.t 4), none⟩,
    ⟨(some 43), .mv (.t 5), none⟩,
    ⟨(some 44), .call 37 [(.t 42), (.t 43)] none, none⟩,
    ⟨(some 13), .alloc [(.d (.int .i64 0)), (.d (.int .i64 0))], none⟩,
    ⟨(some 14), .alloc [(.d (.int .i64 0)), (.d (.int .i64 0))], none⟩,
    ⟨(some 15), .alloc [(.d (.int .i64 0)), (.d (.int .i64 0))], none⟩,
    ⟨none, .store (.ag 2) (.t 13) (.t 38), none⟩,
    ⟨none, .store (.ag 2) (.t 14) (.t 41), none⟩,
    ⟨none, .store (.ag 2) (.t 15) (.t 44), none⟩])
  (.seq (.reg [⟨(some 46), .load (.ag 2) (.t 13), none⟩,
    ⟨(some 47), .load (.ag 2) (.t 14), none⟩,
    ⟨(some 48), .call 13 [(.t 46), (.t 47)] none, none⟩,
    ⟨(some 45), .mv (.t 48), none⟩,
    ⟨(some 49), .extract (.t 45) 0, none⟩,
    ⟨(some 50), .extract (.t 45) 1, none⟩,
    ⟨(some 16), .alloc [(.d (.int .i64 0)), (.d (.int .i64 0))], none⟩,
    ⟨none, .store (.ag 2) (.t 16) (.t 49), none⟩,
    ⟨(some 17), .mv (.t 50), none⟩])
  (.seq (.reg [⟨(some 52), .load (.ag 2) (.t 14), none⟩,
    ⟨(some 53), .load (.ag 2) (.t 13), none⟩,
    ⟨(some 54), .call 13 [(.t 52), (.t 53)] none, none⟩,
    ⟨(some 51), .mv (.t 54), none⟩,
    ⟨(some 55), .extract (.t 51) 0, none⟩,
    ⟨(some 56), .extract (.t 51) 1, none⟩,
    ⟨(some 18), .alloc [(.d (.int .i64 0)), (.d (.int .i64 0))], none⟩,
    ⟨none, .store (.ag 2) (.t 18) (.t 55), none⟩,
    ⟨(some 19), .mv (.t 56), none⟩])
  (.seq (.reg [⟨(some 58), .load (.ag 2) (.t 16), none⟩,
    ⟨(some 59), .load (.ag 2) (.t 15), none⟩,
    ⟨(some 60), .call 13 [(.t 58), (.t 59)] none, none⟩,
    ⟨(some 57), .mv (.t 60), none⟩,
    ⟨(some 61), .extract (.t 57) 0, none⟩,
    ⟨(some 62), .extract (.t 57) 1, none⟩,
    ⟨(some 20), .alloc [(.d (.int .i64 0)), (.d (.int .i64 0))], none⟩,
    ⟨none, .store (.ag 2) (.t 20) (.t 61), none⟩,
    ⟨(some 21), .mv (.t 62), none⟩])
  (.seq (.reg [⟨(some 64), .load (.ag 2) (.t 14), none⟩,
    ⟨(some 65), .load (.ag 2) (.t 15), none⟩,
    ⟨(some 66), .call 13 [(.t 64), (.t 65)] none, none⟩,
    ⟨(some 63), .mv (.t 66), none⟩,
    ⟨(some 67), .extract (.t 63) 0, none⟩,
    ⟨(some 68), .extract (.t 63) 1, none⟩,
    ⟨(some 22), .alloc [(.d (.int .i64 0)), (.d (.int .i64 0))], none⟩,
    ⟨none, .store (.ag 2) (.t 22) (.t 67), none⟩,
    ⟨(some 23), .mv (.t 68), none⟩])
  (.seq (.reg [⟨(some 70), .load (.ag 2) (.t 13), none⟩,
    ⟨(some 71), .load (.ag 2) (.t 22), none⟩,
    ⟨(some 72), .call 13 [(.t 70), (.t 71)] none, none⟩,
    ⟨(some 69), .mv (.t 72), none⟩,
    ⟨(some 73), .extract (.t 69) 0, none⟩,
    ⟨(some 74), .extract (.t 69) 1, none⟩,
    ⟨(some 24), .alloc [(.d (.int .i64 0)), (.d (.int .i64 0))], none⟩,
    ⟨none, .store (.ag 2) (.t 24) (.t 73), none⟩,
    ⟨(some 25), .mv (.t 74), none⟩])
  (.seq (.reg [⟨(some 76), .load (.ag 2) (.t 16), none⟩,
    ⟨(some 77), .load (.ag 2) (.t 14), none⟩,
    ⟨(some 78), .call 15 [(.t 76), (.t 77)] none, none⟩,
    ⟨(some 75), .mv (.t 78), none⟩,
    ⟨(some 79), .extract (.t 75) 0, none⟩,
    ⟨(some 80), .extract (.t 75) 1, none⟩,
    ⟨(some 26), .alloc [(.d (.int .i64 0)), (.d (.int .i64 0))], none⟩,
    ⟨none, .store (.ag 2) (.t 26) (.t 79), none⟩,
    ⟨(some 27), .mv (.t 80), none⟩])
  (.seq (.reg [⟨(some 82), .load (.ag 2) (.t 13), none⟩,
    ⟨(some 83), .load (.ag 2) (.t 14), none⟩,
    ⟨(some 84), .call 11 [(.t 82), (.t 83)] none, none⟩,
    ⟨(some 81), .mv (.t 84), none⟩,
    ⟨(some 85), .extract (.t 81) 0, none⟩,
    ⟨(some 86), .extract (.t 81) 1, none⟩,
    ⟨(some 28), .alloc [(.d (.int .i64 0)), (.d (.int .i64 0))], none⟩,
    ⟨none, .store (.ag 2) (.t 28) (.t 85), none⟩,
    ⟨(some 29), .mv (.t 86), none⟩])
  (.seq (.reg [⟨(some 88), .load (.ag 2) (.t 13), none⟩,
    ⟨(some 89), .mv (.t 2), none⟩,
    ⟨(some 90), .call 17 [(.t 88), (.t 89)] none, none⟩,
    ⟨(some 87), .mv (.t 90), none⟩,
    ⟨(some 91), .extract (.t 87) 0, none⟩,
    ⟨(some 92), .extract (.t 87) 1, none⟩,
    ⟨(some 30), .alloc [(.d (.int .i64 0)), (.d (.int .i64 0))], none⟩,
    ⟨none, .store (.ag 2) (.t 30) (.t 91), none⟩,
    ⟨(some 31), .mv (.t 92), none⟩])
  (.seq (.seq (.reg [⟨(some 93), .mv (.t 2), none⟩,
    ⟨(some 94), .mv (.t 2), none⟩,
    ⟨(some 95), .build [(.d (.int .i64 0)), (.d (.int .i64 0))] [(0, 1, (.t 93)), (1, 1, (.t 94))], none⟩,
    ⟨(some 96), .call 23 [(.t 95)] none, none⟩,
    ⟨(some 97), .un .not (.t 96), none⟩])
  (.cond (.t 97) (.seq (.reg [⟨(some 98), .load (.ag 2) (.t 13), none⟩,
     ⟨none, .store (.ag 2) (.t 30) (.t 98), none⟩,
     ⟨(some 31), .mv (.k (.c (.d (.int .i64 0)))), none⟩])
   (.reg [⟨(some 2), .mv (.k (.c (.d (.int .i64 0)))), none⟩]))
   (.skip)))
  (.seq (.seq (.reg [⟨(some 99), .mv (.t 31), none⟩,
    ⟨(some 100), .bin .neq (.t 99) (.k (.c (.d (.int .i64 0)))), none⟩])
  (.cond (.t 100) (.seq (.reg [⟨(some 102), .load (.ag 2) (.t 13), none⟩,
     ⟨(some 103), .mv (.t 2), none⟩,
     ⟨(some 104), .call 18 [(.t 102), (.t 103)] none, none⟩,
     ⟨(some 101), .mv (.t 104), none⟩,
     ⟨(some 105), .extract (.t 101) 0, none⟩,
     ⟨(some 106), .extract (.t 101) 1, none⟩,
     ⟨(some 32), .alloc [(.d (.int .i64 0)), (.d (.int .i64 0))], none⟩,
     ⟨none, .store (.ag 2) (.t 32) (.t 105), none⟩,
     ⟨(some 33), .mv (.t 106), none⟩])
   (.seq (.reg [⟨(some 107), .call 21 [] none, none⟩,
     ⟨(some 108), .mv (.t 107), none⟩,
     ⟨(some 109), .mv (.t 31), (some (108, true))⟩,
     ⟨(some 110), .mv (.t 33), (some (108, true))⟩,
     ⟨(some 111), .bin .eql (.t 109) (.t 110), (some (108, true))⟩,
     ⟨(some 112), .pick (.t 108) (.t 111) (.k (.c (.d (.bool false)))), none⟩,
     ⟨(some 12), .mv (.t 112), none⟩])
   (.ret)))
   (.skip)))
  (.seq (.reg [⟨(some 114), .load (.ag 2) (.t 30), none⟩,
    ⟨(some 115), .mv (.t 2), none⟩,
    ⟨(some 116), .un .neg (.t 115), none⟩,
    ⟨(some 117), .call 17 [(.t 114), (.t 116)] none, none⟩,
    ⟨(some 113), .mv (.t 117), none⟩,
    ⟨(some 118), .extract (.t 113) 0, none⟩,
    ⟨(some 119), .extract (.t 113) 1, none⟩,
    ⟨(some 34), .alloc [(.d (.int .i64 0)), (.d (.int .i64 0))], none⟩,
    ⟨none, .store (.ag 2) (.t 34) (.t 118), none⟩,
    ⟨(some 35), .mv (.t 119), none⟩])
  (.seq (.reg [⟨(some 120), .call 21 [] none, none⟩,
    ⟨(some 121), .mv (.t 120), none⟩,
    ⟨(some 122), .mv (.t 17), (some (121, true))⟩,
    ⟨(some 123), .bin .eql (.t 122) (.k (.c (.d (.int .i64 0)))), (some (121, true))⟩,
    ⟨(some 124), .pick (.t 121) (.t 123) (.k (.c (.d (.bool false)))), none⟩,
    ⟨(some 125), .mv (.t 124), none⟩,
    ⟨(some 126), .mv (.t 19), (some (125, true))⟩,
    ⟨(some 127), .bin .eql (.t 126) (.k (.c (.d (.int .i64 0)))), (some (125, true))⟩,
    ⟨(some 128), .pick (.t 125) (.t 127) (.k (.c (.d (.bool false)))), none⟩,
    ⟨(some 129), .mv (.t 128), none⟩,
    ⟨(some 130), .mv (.t 21), (some (129, true))⟩,
    ⟨(some 131), .bin .eql (.t 130) (.k (.c (.d (.int .i64 0)))), (some (129, true))⟩,
    ⟨(some 132), .pick (.t 129) (.t 131) (.k (.c (.d (.bool false)))), none⟩,
    ⟨(some 133), .mv (.t 132), none⟩,
    ⟨(some 134), .mv (.t 23), (some (133, true))⟩,
    ⟨(some 135), .bin .eql (.t 134) (.k (.c (.d (.int .i64 0)))), (some (133, true))⟩,
    ⟨(some 136), .pick (.t 133) (.t 135) (.k (.c (.d (.bool false)))), none⟩,
    ⟨(some 137), .mv (.t 136), none⟩,
    ⟨(some 138), .mv (.t 25), (some (137, true))⟩,
    ⟨(some 139), .bin .eql (.t 138) (.k (.c (.d (.int .i64 0)))), (some (137, true))⟩,
    ⟨(some 140), .pick (.t 137) (.t 139) (.k (.c (.d (.bool false)))), none⟩,
    ⟨(some 141), .mv (.t 140), none⟩,
    ⟨(some 142), .mv (.t 27), (some (141, true))⟩,
    ⟨(some 143), .bin .eql (.t 142) (.k (.c (.d (.int .i64 0)))), (some (141, true))⟩,
    ⟨(some 144), .pick (.t 141) (.t 143) (.k (.c (.d (.bool false)))), none⟩,
    ⟨(some 145), .mv (.t 144), none⟩,
    ⟨(some 146), .mv (.t 29), (some (145, true))⟩,
    ⟨(some 147), .bin .eql (.t 146) (.k (.c (.d (.int .i64 0)))), (some (145, true))⟩,
    ⟨(some 148), .pick (.t 145) (.t 147) (.k (.c (.d (.bool false)))), none⟩,
    ⟨(some 149), .mv (.t 148), none⟩,
    ⟨(some 150), .mv (.t 35), (some (149, true))⟩,
    ⟨(some 151), .bin .eql (.t 150) (.k (.c (.d (.int .i64 0)))), (some (149, true))⟩,
    ⟨(some 152), .pick (.t 149) (.t 151) (.k (.c (.d (.bool false)))), none⟩,
    ⟨(some 153), .mv (.t 152), none⟩,
    ⟨(some 154), .load (.ag 2) (.t 16), (some (153, true))⟩,
    ⟨(some 155), .load (.ag 2) (.t 18), (some (153, true))⟩,
    ⟨(some 156), .eqA false [0, 0] (.t 154) (.t 155), (some (153, true))⟩,
    ⟨(some 157), .pick (.t 153) (.t 156) (.k (.c (.d (.bool false)))), none⟩,
    ⟨(some 158), .mv (.t 157), none⟩,
    ⟨(some 159), .load (.ag 2) (.t 20), (some (158, true))⟩,
    ⟨(some 160), .load (.ag 2) (.t 24), (some (158, true))⟩,
    ⟨(some 161), .eqA false [0, 0] (.t 159) (.t 160), (some (158, true))⟩,
    ⟨(some 162), .pick (.t 158) (.t 161) (.k (.c (.d (.bool false)))), none⟩,
    ⟨(some 163), .mv (.t 162), none⟩,
    ⟨(some 164), .load (.ag 2) (.t 13), (some (163, true))⟩,
    ⟨(some 165), .load (.ag 2) (.t 26), (some (163, true))⟩,
    ⟨(some 166), .call 26 [(.t 164), (.t 165)] none, (some (163, true))⟩,
    ⟨(some 167), .pick (.t 163) (.t 166) (.k (.c (.d (.bool false)))), none⟩,
    ⟨(some 168), .mv (.t 167), none⟩,
    ⟨(some 169), .load (.ag 2) (.t 28), (some (168, true))⟩,
    ⟨(some 170), .fieldAddr 0 (.t 13), (some (168, true))⟩,
    ⟨(some 171), .load .sc (.t 170), (some (168, true))⟩,
    ⟨(some 172), .fieldAddr 0 (.t 14), (some (168, true))⟩,
    ⟨(some 173), .load .sc (.t 172), (some (168, true))⟩,
    ⟨(some 174), .min [(.t 171), (.t 173)], (some (168, true))⟩,
    ⟨(some 175), .fieldAddr 1 (.t 13), (some (168, true))⟩,
    ⟨(some 176), .load .sc (.t 175), (some (168, true))⟩,
    ⟨(some 177), .fieldAddr 1 (.t 14), (some (168, true))⟩,
    ⟨(some 178), .load .sc (.t 177), (some (168, true))⟩,
    ⟨(some 179), .max [(.t 176), (.t 178)], (some (168, true))⟩,
    ⟨(some 180), .build [(.d (.int .i64 0)), (.d (.int .i64 0))] [(0, 1, (.t 174)), (1, 1, (.t 179))], (some (168, true))⟩,
    ⟨(some 181), .eqA false [0, 0] (.t 169) (.t 180), (some (168, true))⟩,
    ⟨(some 182), .pick (.t 168) (.t 181) (.k (.c (.d (.bool false)))), none⟩,
    ⟨(some 183), .mv (.t 182), none⟩,
    ⟨(some 184), .load (.ag 2) (.t 34), (some (183, true))⟩,
    ⟨(some 185), .load (.ag 2) (.t 13), (some (183, true))⟩,
    ⟨(some 186), .eqA false [0, 0] (.t 184) (.t 185), (some (183, true))⟩,
    ⟨(some 187), .pick (.t 183) (.t 186) (.k (.c (.d (.bool false)))), none⟩,
    ⟨(some 12), .mv (.t 187), none⟩])
  (.ret)))))))))))))),
  [(12, none)]⟩
theorem cf_kalg : compFn Try.prog { own := [], comp := [], frz := [], nils := [] } Try.f8 = some sf_kalg := by kernel_rfl
set_option maxHeartbeats 1600000 in
theorem kalg_c (G : Glob) (a : Int) (ha1 : -9223372036854775808 ≤ a) (ha2 : a ≤ 9223372036854775807) (b : Int) (hb1 : -9223372036854775808 ≤ b) (hb2 : b ≤ 9223372036854775807) (c : Int) (hc1 : -9223372036854775808 ≤ c) (hc2 : c ≤ 9223372036854775807) (d : Int) (hd1 : -9223372036854775808 ≤ d) (hd2 : d ≤ 9223372036854775807) (e : Int) (he1 : -9223372036854775808 ≤ e) (he2 : e ≤ 9223372036854775807) (f : Int) (hf1 : -9223372036854775808 ≤ f) (hf2 : f ≤ 9223372036854775807)  : Den Try.prog G 8 [.int .i64 a, .int .i64 b, .int .i64 c, .int .i64 d, .int .i64 e, .int .i64 f] (.w (.c (.d (.bool true)))) := by
  refine den_walk Try.func8 cf_kalg rfl rfl ?_
  have c1 := wspan_c G a b
  have c2 := wspan_c G c d
  have c3 := wspan_c G e f
  obtain ⟨x1, x2, x3, x4⟩ := wsp_ok a b
  obtain ⟨y1, y2, y3, y4⟩ := wsp_ok c d
  obtain ⟨z1, z2, z3, z4⟩ := wsp_ok e f
  generalize withinN a 2000 - 1000 + withinN b 500 = X1 at *
  generalize withinN a 2000 - 1000 = X0 at *
  generalize withinN c 2000 - 1000 + withinN d 500 = Y1 at *
  generalize withinN c 2000 - 1000 = Y0 at *
  generalize withinN e 2000 - 1000 + withinN f 500 = Z1 at *
  generalize withinN e 2000 - 1000 = Z0 at *
  have ok : ∀ p q : Int, -100000 ≤ p → q ≤ 100000 → p ≤ q → okP (p, q) = true := fun p q h1 h2 h3 => okP_d ⟨by omega, by omega, h3⟩
  have oX := ok X0 X1 (by omega) (by omega) (by omega)
  have oY := ok Y0 Y1 (by omega) (by omega) (by omega)
  have oZ := ok Z0 Z1 (by omega) (by omega) (by omega)
  have oP := ok (X0 + Y0) (X1 + Y1) (by omega) (by omega) (by omega)
  have oQ := ok (Y0 + X0) (Y1 + X1) (by omega) (by omega) (by omega)
  have oS := ok (Y0 + Z0) (Y1 + Z1) (by omega) (by omega) (by omega)
  have oR := ok (X0 + Y0 + Z0) (X1 + Y1 + Z1) (by omega) (by omega) (by omega)
  have oT := ok (X0 + (Y0 + Z0)) (X1 + (Y1 + Z1)) (by omega) (by omega) (by omega)
  have oU := ok (X0 + Y0 - Y1) (X1 + Y1 - Y0) (by omega) (by omega) (by omega)
  have k1 := iadd_c G X0 X1 Y0 Y1
  rw [(sum_t oX oY oP).1, (sum_t oX oY oP).2] at k1
  have k2 := iadd_c G Y0 Y1 X0 X1
  rw [(sum_t oY oX oQ).1, (sum_t oY oX oQ).2] at k2
  have k3 := iadd_c G (X0 + Y0) (X1 + Y1) Z0 Z1
  rw [(sum_t oP oZ oR).1, (sum_t oP oZ oR).2] at k3
  have k4 := iadd_c G Y0 Y1 Z0 Z1
  rw [(sum_t oY oZ oS).1, (sum_t oY oZ oS).2] at k4
  have k5 := iadd_c G X0 X1 (Y0 + Z0) (Y1 + Z1)
  rw [(sum_t oX oS oT).1, (sum_t oX oS oT).2] at k5
  have k6 := isbs_c G (X0 + Y0) (X1 + Y1) Y0 Y1
  rw [(sum_t oP oY oU).1, (sum_t oP oY oU).2] at k6
  have k7 := ihul_c G X0 X1 Y0 Y1
  rw [show hulB X0 X1 Y0 Y1 = true by unfold hulB; rw [oX, oY]; rfl] at k7
  have k8 := ishf_c G X0 X1 c
  have kv := rsv_c G c c
  have ci := iins_c G X0 X1 (X0 + Y0 - Y1) (X1 + Y1 - Y0)
  rw [ins_t oX oU ⟨by omega, by omega⟩] at ci
  have f1 : (X0 + Y0 = Y0 + X0) = True := eq_true (by omega)
  have f2 : (X1 + Y1 = Y1 + X1) = True := eq_true (by omega)
  have f3 : (X0 + Y0 + Z0 = X0 + (Y0 + Z0)) = True := eq_true (by omega)
  have f4 : (X1 + Y1 + Z1 = X1 + (Y1 + Z1)) = True := eq_true (by omega)
  cases hc : okP (c, c)
  · rw [hc] at kv
    have k9 := ishf_c G X0 X1 0
    have e9 : shfB X0 X1 0 = true ∧ shfE X0 X1 0 = 0 := by
      unfold shfB shfE
      rw [Int.add_zero, Int.add_zero, oX]
      exact ⟨rfl, rfl⟩
    rw [e9.1, e9.2, Int.add_zero, Int.add_zero] at k9
    simp only [sf_kalg, putAll, wx, wy, wz, stV, seval, IntWalk.iteOmega, IntWalk.toNatUp, reduceCtorEq]
    refine st_call (c1) rfl (.inl rfl) ?_
    simp only [wx, wy, wz, stV, seval, IntWalk.iteOmega, IntWalk.toNatUp, reduceCtorEq]
    refine st_call (c2) rfl (.inl rfl) ?_
    simp only [wx, wy, wz, stV, seval, IntWalk.iteOmega, IntWalk.toNatUp, reduceCtorEq]
    refine st_call (c3) rfl (.inl rfl) ?_
    simp only [wx, wy, wz, stV, seval, IntWalk.iteOmega, IntWalk.toNatUp, reduceCtorEq]
    refine st_call (k1) rfl (.inl rfl) ?_
    simp only [spA, wx, wy, wz, stV, seval, IntWalk.iteOmega, IntWalk.toNatUp, reduceCtorEq]
    refine st_call (k2) rfl (.inl rfl) ?_
    simp only [spA, wx, wy, wz, stV, seval, IntWalk.iteOmega, IntWalk.toNatUp, reduceCtorEq]
    refine st_call (k3) rfl (.inl rfl) ?_
    simp only [spA, wx, wy, wz, stV, seval, IntWalk.iteOmega, IntWalk.toNatUp, reduceCtorEq]
    refine st_call (k4) rfl (.inl rfl) ?_
    simp only [spA, wx, wy, wz, stV, seval, IntWalk.iteOmega, IntWalk.toNatUp, reduceCtorEq]
    refine st_call (k5) rfl (.inl rfl) ?_
    simp only [spA, wx, wy, wz, stV, seval, IntWalk.iteOmega, IntWalk.toNatUp, reduceCtorEq]
    refine st_call (k6) rfl (.inl rfl) ?_
    simp only [spA, wx, wy, wz, stV, seval, IntWalk.iteOmega, IntWalk.toNatUp, reduceCtorEq]
    refine st_call (k7) rfl (.inl rfl) ?_
    simp only [spA, wx, wy, wz, stV, seval, IntWalk.iteOmega, IntWalk.toNatUp, reduceCtorEq]
    refine st_call (k8) rfl (.inl rfl) ?_
    simp only [spA, wx, wy, wz, stV, seval, IntWalk.iteOmega, IntWalk.toNatUp, reduceCtorEq]
    refine st_call (kv) rfl (.inl rfl) ?_
    simp only [wx, wy, wz, stV, seval, IntWalk.iteOmega, IntWalk.toNatUp, reduceCtorEq]
    refine st_call (k9) rfl (.inl rfl) ?_
    simp only [spA, wx, wy, wz, stV, seval, IntWalk.iteOmega, IntWalk.toNatUp, reduceCtorEq]
    refine st_call (known11_c G) rfl (.inl rfl) ?_
    simp only [f1, f2, f3, f4, wx, wy, wz, stV, seval, IntWalk.iteOmega, IntWalk.toNatUp, reduceCtorEq]
    refine st_call (ci) rfl (.inl rfl) ?_
    simp only [max2, min2, wx, wy, wz, stV, seval, IntWalk.iteOmega, IntWalk.toNatUp, reduceCtorEq]
    exact ret_d1 (by simp only [wx, wy, wz, stV, seval, IntWalk.iteOmega, IntWalk.toNatUp, reduceCtorEq])
  · rw [hc] at kv
    have hcc := okP_i hc
    have vc : valT c = true := valT_t ⟨hcc.1, hcc.2.1⟩
    cases hs : okP (X0 + c, X1 + c)
    · have e8 : shfB X0 X1 c = false ∧ shfE X0 X1 c = 4 := by
        unfold shfB shfE
        rw [oX, vc, hs]
        exact ⟨rfl, rfl⟩
      have r8 := rshf_c G X0 X1 c
      rw [e8.1, e8.2] at k8 r8
      simp only [sf_kalg, putAll, wx, wy, wz, stV, seval, IntWalk.iteOmega, IntWalk.toNatUp, reduceCtorEq]
      refine st_call (c1) rfl (.inl rfl) ?_
      simp only [wx, wy, wz, stV, seval, IntWalk.iteOmega, IntWalk.toNatUp, reduceCtorEq]
      refine st_call (c2) rfl (.inl rfl) ?_
      simp only [wx, wy, wz, stV, seval, IntWalk.iteOmega, IntWalk.toNatUp, reduceCtorEq]
      refine st_call (c3) rfl (.inl rfl) ?_
      simp only [wx, wy, wz, stV, seval, IntWalk.iteOmega, IntWalk.toNatUp, reduceCtorEq]
      refine st_call (k1) rfl (.inl rfl) ?_
      simp only [spA, wx, wy, wz, stV, seval, IntWalk.iteOmega, IntWalk.toNatUp, reduceCtorEq]
      refine st_call (k2) rfl (.inl rfl) ?_
      simp only [spA, wx, wy, wz, stV, seval, IntWalk.iteOmega, IntWalk.toNatUp, reduceCtorEq]
      refine st_call (k3) rfl (.inl rfl) ?_
      simp only [spA, wx, wy, wz, stV, seval, IntWalk.iteOmega, IntWalk.toNatUp, reduceCtorEq]
      refine st_call (k4) rfl (.inl rfl) ?_
      simp only [spA, wx, wy, wz, stV, seval, IntWalk.iteOmega, IntWalk.toNatUp, reduceCtorEq]
      refine st_call (k5) rfl (.inl rfl) ?_
      simp only [spA, wx, wy, wz, stV, seval, IntWalk.iteOmega, IntWalk.toNatUp, reduceCtorEq]
      refine st_call (k6) rfl (.inl rfl) ?_
      simp only [spA, wx, wy, wz, stV, seval, IntWalk.iteOmega, IntWalk.toNatUp, reduceCtorEq]
      refine st_call (k7) rfl (.inl rfl) ?_
      simp only [spA, wx, wy, wz, stV, seval, IntWalk.iteOmega, IntWalk.toNatUp, reduceCtorEq]
      refine st_call (k8) rfl (.inl rfl) ?_
      simp only [spA, wx, wy, wz, stV, seval, IntWalk.iteOmega, IntWalk.toNatUp, reduceCtorEq]
      refine st_call (kv) rfl (.inl rfl) ?_
      simp only [wx, wy, wz, stV, seval, IntWalk.iteOmega, IntWalk.toNatUp, reduceCtorEq]
      refine st_call (r8) rfl (.inl rfl) ?_
      simp only [wx, wy, wz, stV, seval, IntWalk.iteOmega, IntWalk.toNatUp, reduceCtorEq]
      refine st_call (known11_c G) rfl (.inl rfl) ?_
      simp only [wx, wy, wz, stV, seval, IntWalk.iteOmega, IntWalk.toNatUp, reduceCtorEq]
      exact ret_d1 (by simp only [wx, wy, wz, stV, seval, IntWalk.iteOmega, IntWalk.toNatUp, reduceCtorEq])
    · have e8 : shfB X0 X1 c = true ∧ shfE X0 X1 c = 0 := by
        unfold shfB shfE
        rw [oX, vc, hs]
        exact ⟨rfl, rfl⟩
      rw [e8.1, e8.2] at k8
      have k9 := ishf_c G (X0 + c) (X1 + c) (0 - c)
      have vn : valT (0 - c) = true := valT_t ⟨by omega, by omega⟩
      have g0 : X0 + c + (0 - c) = X0 := by omega
      have g1 : X1 + c + (0 - c) = X1 := by omega
      have e9 : shfB (X0 + c) (X1 + c) (0 - c) = true ∧ shfE (X0 + c) (X1 + c) (0 - c) = 0 := by
        unfold shfB shfE
        rw [hs, vn, g0, g1, oX]
        exact ⟨rfl, rfl⟩
      rw [e9.1, e9.2, g0, g1] at k9
      simp only [sf_kalg, putAll, wx, wy, wz, stV, seval, IntWalk.iteOmega, IntWalk.toNatUp, reduceCtorEq]
      refine st_call (c1) rfl (.inl rfl) ?_
      simp only [wx, wy, wz, stV, seval, IntWalk.iteOmega, IntWalk.toNatUp, reduceCtorEq]
      refine st_call (c2) rfl (.inl rfl) ?_
      simp only [wx, wy, wz, stV, seval, IntWalk.iteOmega, IntWalk.toNatUp, reduceCtorEq]
      refine st_call (c3) rfl (.inl rfl) ?_
      simp only [wx, wy, wz, stV, seval, IntWalk.iteOmega, IntWalk.toNatUp, reduceCtorEq]
      refine st_call (k1) rfl (.inl rfl) ?_
      simp only [spA, wx, wy, wz, stV, seval, IntWalk.iteOmega, IntWalk.toNatUp, reduceCtorEq]
      refine st_call (k2) rfl (.inl rfl) ?_
      simp only [spA, wx, wy, wz, stV, seval, IntWalk.iteOmega, IntWalk.toNatUp, reduceCtorEq]
      refine st_call (k3) rfl (.inl rfl) ?_
      simp only [spA, wx, wy, wz, stV, seval, IntWalk.iteOmega, IntWalk.toNatUp, reduceCtorEq]
      refine st_call (k4) rfl (.inl rfl) ?_
      simp only [spA, wx, wy, wz, stV, seval, IntWalk.iteOmega, IntWalk.toNatUp, reduceCtorEq]
      refine st_call (k5) rfl (.inl rfl) ?_
      simp only [spA, wx, wy, wz, stV, seval, IntWalk.iteOmega, IntWalk.toNatUp, reduceCtorEq]
      refine st_call (k6) rfl (.inl rfl) ?_
      simp only [spA, wx, wy, wz, stV, seval, IntWalk.iteOmega, IntWalk.toNatUp, reduceCtorEq]
      refine st_call (k7) rfl (.inl rfl) ?_
      simp only [spA, wx, wy, wz, stV, seval, IntWalk.iteOmega, IntWalk.toNatUp, reduceCtorEq]
      refine st_call (k8) rfl (.inl rfl) ?_
      simp only [spA, wx, wy, wz, stV, seval, IntWalk.iteOmega, IntWalk.toNatUp, reduceCtorEq]
      refine st_call (kv) rfl (.inl rfl) ?_
      simp only [wx, wy, wz, stV, seval, IntWalk.iteOmega, IntWalk.toNatUp, reduceCtorEq]
      refine st_call (k9) rfl (.inl rfl) ?_
      simp only [spA, wx, wy, wz, stV, seval, IntWalk.iteOmega, IntWalk.toNatUp, reduceCtorEq]
      refine st_call (known11_c G) rfl (.inl rfl) ?_
      simp only [f1, f2, f3, f4, wx, wy, wz, stV, seval, IntWalk.iteOmega, IntWalk.toNatUp, reduceCtorEq]
      refine st_call (ci) rfl (.inl rfl) ?_
      simp only [max2, min2, wx, wy, wz, stV, seval, IntWalk.iteOmega, IntWalk.toNatUp, reduceCtorEq]
      exact ret_d1 (by simp only [wx, wy, wz, stV, seval, IntWalk.iteOmega, IntWalk.toNatUp, reduceCtorEq])
end Go.Proofs.Ytaodfdnncdelnaa
