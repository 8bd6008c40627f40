/- The laws of layer 15: parts, rates, greater bounds, there and back. Own work. -/
import Derived.Test.YtjebhdadegfbdaaAlV
import Derived.Test.YtjebhdadegfbdaaLo0
set_option linter.unusedVariables false
set_option linter.unusedSimpArgs false
namespace Go.Proofs.Ytjebhdadegfbdaa
open Go.RowKit

def sf_kprt15 : SFn := ⟨5, 101,
  .seq (.reg [⟨(some 10), .mv (.k (.c (.d (.bool false)))), none⟩])
  (.seq (.reg [⟨(some 19), .mv (.t 0), none⟩,
    ⟨(some 20), .call 25 [(.t 19), (.k (.c (.d (.int .i64 18014398509481984))))] none, none⟩,
    ⟨(some 21), .mv (.t 1), none⟩,
    ⟨(some 22), .call 25 [(.t 21), (.k (.c (.d (.int .i64 18014398509481984))))] none, none⟩,
    ⟨(some 23), .mv (.t 2), none⟩,
    ⟨(some 24), .call 25 [(.t 23), (.k (.c (.d (.int .i64 1000001))))] none, none⟩,
    ⟨(some 0), .mv (.t 20), none⟩,
    ⟨(some 1), .mv (.t 22), none⟩,
    ⟨(some 2), .mv (.t 24), none⟩])
  (.seq (.reg [⟨(some 25), .mv (.t 0), none⟩,
    ⟨(some 26), .mv (.t 2), none⟩,
    ⟨(some 27), .mv (.t 3), none⟩,
    ⟨(some 28), .call 26 [(.t 25), (.t 26), (.t 27)] none, none⟩,
    ⟨(some 29), .mv (.t 1), none⟩,
    ⟨(some 30), .mv (.t 2), none⟩,
    ⟨(some 31), .mv (.t 4), none⟩,
    ⟨(some 32), .call 26 [(.t 29), (.t 30), (.t 31)] none, none⟩,
    ⟨(some 11), .mv (.t 28), none⟩,
    ⟨(some 12), .mv (.t 32), none⟩])
  (.seq (.reg [⟨(some 34), .mv (.t 11), none⟩,
    ⟨(some 35), .mv (.t 2), none⟩,
    ⟨(some 36), .call 12 [(.t 34), (.t 35)] none, none⟩,
    ⟨(some 33), .mv (.t 36), none⟩,
    ⟨(some 37), .extract (.t 33) 0, none⟩,
    ⟨(some 38), .extract (.t 33) 1, none⟩,
    ⟨(some 13), .alloc [(.d (.int .i64 0)), (.d (.int .i64 0))], none⟩,
    ⟨none, .store (.ag 2) (.t 13) (.t 37), none⟩,
    ⟨(some 14), .mv (.t 38), none⟩])
  (.seq (.reg [⟨(some 40), .mv (.t 12), none⟩,
    ⟨(some 41), .mv (.t 2), none⟩,
    ⟨(some 42), .call 12 [(.t 40), (.t 41)] none, none⟩,
    ⟨(some 39), .mv (.t 42), none⟩,
    ⟨(some 43), .extract (.t 39) 0, none⟩,
    ⟨(some 44), .extract (.t 39) 1, none⟩,
    ⟨(some 15), .alloc [(.d (.int .i64 0)), (.d (.int .i64 0))], none⟩,
    ⟨none, .store (.ag 2) (.t 15) (.t 43), none⟩,
    ⟨(some 16), .mv (.t 44), none⟩])
  (.seq (.reg [⟨(some 46), .mv (.t 11), none⟩,
    ⟨(some 47), .mv (.t 12), none⟩,
    ⟨(some 48), .bin .add (.t 46) (.t 47), none⟩,
    ⟨(some 49), .mv (.t 2), none⟩,
    ⟨(some 50), .call 12 [(.t 48), (.t 49)] none, none⟩,
    ⟨(some 45), .mv (.t 50), none⟩,
    ⟨(some 51), .extract (.t 45) 0, none⟩,
    ⟨(some 52), .extract (.t 45) 1, none⟩,
    ⟨(some 17), .alloc [(.d (.int .i64 0)), (.d (.int .i64 0))], none⟩,
    ⟨none, .store (.ag 2) (.t 17) (.t 51), none⟩,
    ⟨(some 18), .mv (.t 52), none⟩])
  (.seq (.seq (.reg [⟨(some 53), .mv (.t 14), none⟩,
    ⟨(some 54), .bin .neq (.t 53) (.k (.c (.d (.int .i64 0)))), none⟩,
    ⟨(some 55), .mv (.t 54), none⟩,
    ⟨(some 56), .mv (.t 16), (some (55, false))⟩,
    ⟨(some 57), .bin .neq (.t 56) (.k (.c (.d (.int .i64 0)))), (some (55, false))⟩,
    ⟨(some 58), .pick (.t 55) (.k (.c (.d (.bool true)))) (.t 57), none⟩,
    ⟨(some 59), .mv (.t 58), none⟩,
    ⟨(some 60), .mv (.t 18), (some (59, false))⟩,
    ⟨(some 61), .bin .neq (.t 60) (.k (.c (.d (.int .i64 0)))), (some (59, false))⟩,
    ⟨(some 62), .pick (.t 59) (.k (.c (.d (.bool true)))) (.t 61), none⟩])
  (.cond (.t 62) (.seq (.reg [⟨(some 10), .mv (.k (.c (.d (.bool false)))), none⟩])
   (.ret))
   (.skip)))
  (.seq (.reg [⟨(some 63), .call 22 [] none, none⟩,
    ⟨(some 64), .mv (.t 63), none⟩,
    ⟨(some 65), .mv (.t 0), (some (64, true))⟩,
    ⟨(some 66), .mv (.t 1), (some (64, true))⟩,
    ⟨(some 67), .bin .add (.t 65) (.t 66), (some (64, true))⟩,
    ⟨(some 68), .mv (.t 11), (some (64, true))⟩,
    ⟨(some 69), .mv (.t 12), (some (64, true))⟩,
    ⟨(some 70), .bin .add (.t 68) (.t 69), (some (64, true))⟩,
    ⟨(some 71), .mv (.t 2), (some (64, true))⟩,
    ⟨(some 72), .call 23 [(.t 67), (.t 70), (.t 71)] none, (some (64, true))⟩,
    ⟨(some 73), .pick (.t 64) (.t 72) (.k (.c (.d (.bool false)))), none⟩,
    ⟨(some 74), .mv (.t 73), none⟩,
    ⟨(some 75), .load (.ag 2) (.t 17), (some (74, true))⟩,
    ⟨(some 76), .mv (.t 0), (some (74, true))⟩,
    ⟨(some 77), .mv (.t 1), (some (74, true))⟩,
    ⟨(some 78), .bin .add (.t 76) (.t 77), (some (74, true))⟩,
    ⟨(some 79), .call 28 [(.t 75), (.t 78)] none, (some (74, true))⟩,
    ⟨(some 80), .pick (.t 74) (.t 79) (.k (.c (.d (.bool false)))), none⟩,
    ⟨(some 81), .mv (.t 80), none⟩,
    ⟨(some 82), .fieldAddr 0 (.t 13), (some (81, true))⟩,
    ⟨(some 83), .load .sc (.t 82), (some (81, true))⟩,
    ⟨(some 84), .fieldAddr 0 (.t 15), (some (81, true))⟩,
    ⟨(some 85), .load .sc (.t 84), (some (81, true))⟩,
    ⟨(some 86), .bin .add (.t 83) (.t 85), (some (81, true))⟩,
    ⟨(some 87), .fieldAddr 0 (.t 17), (some (81, true))⟩,
    ⟨(some 88), .load .sc (.t 87), (some (81, true))⟩,
    ⟨(some 89), .bin .leq (.t 86) (.t 88), (some (81, true))⟩,
    ⟨(some 90), .pick (.t 81) (.t 89) (.k (.c (.d (.bool false)))), none⟩,
    ⟨(some 91), .mv (.t 90), none⟩,
    ⟨(some 92), .fieldAddr 1 (.t 17), (some (91, true))⟩,
    ⟨(some 93), .load .sc (.t 92), (some (91, true))⟩,
    ⟨(some 94), .fieldAddr 1 (.t 13), (some (91, true))⟩,
    ⟨(some 95), .load .sc (.t 94), (some (91, true))⟩,
    ⟨(some 96), .fieldAddr 1 (.t 15), (some (91, true))⟩,
    ⟨(some 97), .load .sc (.t 96), (some (91, true))⟩,
    ⟨(some 98), .bin .add (.t 95) (.t 97), (some (91, true))⟩,
    ⟨(some 99), .bin .leq (.t 93) (.t 98), (some (91, true))⟩,
    ⟨(some 100), .pick (.t 91) (.t 99) (.k (.c (.d (.bool false)))), none⟩,
    ⟨(some 10), .mv (.t 100), none⟩])
  (.ret)))))))),
  [(10, none)]⟩
theorem cf_kprt15 : compFn Try.prog { own := [], comp := [], frz := [], nils := [] } Try.f5 = some sf_kprt15 := by kernel_rfl
set_option maxHeartbeats 1600000 in
theorem kprt15_c (G : Glob) (e : Int) (he1 : -9223372036854775808 ≤ e) (he2 : e ≤ 9223372036854775807) (f : Int) (hf1 : -9223372036854775808 ≤ f) (hf2 : f ≤ 9223372036854775807) (ppb : Int) (hppb1 : -9223372036854775808 ≤ ppb) (hppb2 : ppb ≤ 9223372036854775807) (choice : Int) (hchoice1 : -9223372036854775808 ≤ choice) (hchoice2 : choice ≤ 9223372036854775807) (other : Int) (hother1 : -9223372036854775808 ≤ other) (hother2 : other ≤ 9223372036854775807)  : Den Try.prog G 5 [.int .i64 e, .int .i64 f, .int .i64 ppb, .int .i64 choice, .int .i64 other] (.w (.c (.d (.bool true)))) := by
  refine den_walk Try.func5 cf_kprt15 rfl rfl ?_
  have r1 := withinN_range e 18014398509481984 (by decide)
  have r2 := withinN_range f 18014398509481984 (by decide)
  have r3 := withinN_range ppb 1000001 (by decide)
  have k1 := within_c G e 18014398509481984 (by decide)
  have k2 := within_c G f 18014398509481984 (by decide)
  have k3 := within_c G ppb 1000001 (by decide)
  generalize withinN e 18014398509481984 = E at *
  generalize withinN f 18014398509481984 = F at *
  generalize withinN ppb 1000001 = p at *
  have hE : inD E p = true := inD_d ⟨by omega, by omega, by omega, by omega⟩
  have hF : inD F p = true := inD_d ⟨by omega, by omega, by omega, by omega⟩
  obtain ⟨f1, f2, f3, f4⟩ := adv_ok hE choice
  obtain ⟨f5, f6, f7, f8⟩ := adv_ok hF other
  have k4 := adv15_c G E p choice hE
  have k5 := adv15_c G F p other hF
  have bl := adB_le E p (by omega) (by omega) (by omega)
  have bm := adB_le F p (by omega) (by omega) (by omega)
  generalize advV E p choice = c at *
  generalize advV F p other = d at *
  have hc : inD c p = true := inD_d ⟨by omega, by omega, by omega, by omega⟩
  have hd : inD d p = true := inD_d ⟨by omega, by omega, by omega, by omega⟩
  have hs : inD (c + d) p = true := inD_d ⟨by omega, by omega, by omega, by omega⟩
  have fs := fit_add f2 f6
  have g1 := el_fit (p := p) (by omega) (by omega) fs
  have g2 := el_parts (c := c) (d := d) (p := p) (by omega) (by omega)
  have g3 := el_order (c + d) p (by omega) (by omega) (by omega)
  have g4 := elB_le (c + d) p (by omega) (by omega) (by omega)
  have g5 := el_order c p (by omega) (by omega) (by omega)
  have g6 := el_order d p (by omega) (by omega) (by omega)
  have g7 := elB_le c p (by omega) (by omega) (by omega)
  have g8 := elB_le d p (by omega) (by omega) (by omega)
  have c1 := dela_c G c p
  rw [hc, ela_0 hc, spA_t] at c1
  have c2 := dela_c G d p
  rw [hd, ela_0 hd, spA_t] at c2
  have c3 := dela_c G (c + d) p
  rw [hs, ela_0 hs, spA_t] at c3
  have c5 := dfit_c G (E + F) (c + d) p
  rw [fitB_d (show fitR (E + F) (c + d) p from ⟨by omega, by omega, by omega, by omega, by omega, by omega⟩) fs] at c5
  have c6 := rhld_c G (elA (c + d) p) (elB (c + d) p) (E + F)
  rw [hld_t (okP_d ⟨by omega, by omega, by omega⟩) g1.1 g1.2] at c6
  clear f2 f6 fs
  generalize elA (c + d) p = A at *
  generalize elB (c + d) p = B at *
  generalize elA c p = A1 at *
  generalize elB c p = B1 at *
  generalize elA d p = A2 at *
  generalize elB d p = B2 at *
  simp only [sf_kprt15, putAll, wx, wy, wz, stV, seval, IntWalk.iteOmega, IntWalk.toNatUp, reduceCtorEq]
  refine st_call (k1) rfl (.inl rfl) ?_
  simp only [wx, wy, wz, stV, seval, IntWalk.iteOmega, IntWalk.toNatUp, reduceCtorEq]
  refine st_call (k2) rfl (.inl rfl) ?_
  simp only [wx, wy, wz, stV, seval, IntWalk.iteOmega, IntWalk.toNatUp, reduceCtorEq]
  refine st_call (k3) rfl (.inl rfl) ?_
  simp only [wx, wy, wz, stV, seval, IntWalk.iteOmega, IntWalk.toNatUp, reduceCtorEq]
  refine st_call (k4) rfl (.inl rfl) ?_
  simp only [wx, wy, wz, stV, seval, IntWalk.iteOmega, IntWalk.toNatUp, reduceCtorEq]
  refine st_call (k5) rfl (.inl rfl) ?_
  simp only [wx, wy, wz, stV, seval, IntWalk.iteOmega, IntWalk.toNatUp, reduceCtorEq]
  refine st_call (c1) rfl (.inl rfl) ?_
  simp only [wx, wy, wz, stV, seval, IntWalk.iteOmega, IntWalk.toNatUp, reduceCtorEq]
  refine st_call (c2) rfl (.inl rfl) ?_
  simp only [wx, wy, wz, stV, seval, IntWalk.iteOmega, IntWalk.toNatUp, reduceCtorEq]
  refine st_call (c3) rfl (.inl rfl) ?_
  simp only [wx, wy, wz, stV, seval, IntWalk.iteOmega, IntWalk.toNatUp, reduceCtorEq]
  refine st_call (known15_c G) rfl (.inl rfl) ?_
  simp only [wx, wy, wz, stV, seval, IntWalk.iteOmega, IntWalk.toNatUp, reduceCtorEq]
  refine st_call (c5) rfl (.inl rfl) ?_
  simp only [wx, wy, wz, stV, seval, IntWalk.iteOmega, IntWalk.toNatUp, reduceCtorEq]
  refine st_call (c6) rfl (.inl rfl) ?_
  simp only [g2.1, g2.2, wx, wy, wz, stV, seval, IntWalk.iteOmega, IntWalk.toNatUp, reduceCtorEq]
  exact ret_d1 (by simp only [wx, wy, wz, stV, seval, IntWalk.iteOmega, IntWalk.toNatUp, reduceCtorEq])
def sf_krat15 : SFn := ⟨4, 80,
  .seq (.reg [⟨(some 8), .mv (.k (.c (.d (.bool false)))), none⟩])
  (.seq (.reg [⟨(some 14), .mv (.t 0), none⟩,
    ⟨(some 15), .call 25 [(.t 14), (.k (.c (.d (.int .i64 1125899906842624))))] none, none⟩,
    ⟨(some 16), .mv (.t 1), none⟩,
    ⟨(some 17), .call 25 [(.t 16), (.k (.c (.d (.int .i64 1000001))))] none, none⟩,
    ⟨(some 0), .mv (.t 15), none⟩,
    ⟨(some 1), .mv (.t 17), none⟩])
  (.seq (.reg [⟨(some 18), .mv (.t 0), none⟩,
    ⟨(some 19), .mv (.t 1), none⟩,
    ⟨(some 20), .mv (.t 2), none⟩,
    ⟨(some 21), .call 26 [(.t 18), (.t 19), (.t 20)] none, none⟩,
    ⟨(some 9), .mv (.t 21), none⟩])
  (.seq (.reg [⟨(some 23), .mv (.t 0), none⟩,
    ⟨(some 24), .mv (.t 9), none⟩,
    ⟨(some 25), .call 20 [(.t 23), (.t 24)] none, none⟩,
    ⟨(some 22), .mv (.t 25), none⟩,
    ⟨(some 26), .extract (.t 22) 0, none⟩,
    ⟨(some 27), .extract (.t 22) 1, none⟩,
    ⟨(some 10), .mv (.t 26), none⟩,
    ⟨(some 11), .mv (.t 27), none⟩])
  (.seq (.reg [⟨(some 29), .mv (.t 0), none⟩,
    ⟨(some 30), .mv (.t 0), none⟩,
    ⟨(some 31), .call 20 [(.t 29), (.t 30)] none, none⟩,
    ⟨(some 28), .mv (.t 31), none⟩,
    ⟨(some 32), .extract (.t 28) 0, none⟩,
    ⟨(some 33), .extract (.t 28) 1, none⟩,
    ⟨(some 12), .mv (.t 32), none⟩,
    ⟨(some 13), .mv (.t 33), none⟩])
  (.seq (.seq (.reg [⟨(some 34), .mv (.t 11), none⟩,
    ⟨(some 35), .bin .neq (.t 34) (.k (.c (.d (.int .i64 0)))), none⟩,
    ⟨(some 36), .mv (.t 35), none⟩,
    ⟨(some 37), .mv (.t 13), (some (36, false))⟩,
    ⟨(some 38), .bin .neq (.t 37) (.k (.c (.d (.int .i64 0)))), (some (36, false))⟩,
    ⟨(some 39), .pick (.t 36) (.k (.c (.d (.bool true)))) (.t 38), none⟩,
    ⟨(some 40), .mv (.t 39), none⟩,
    ⟨(some 41), .mv (.t 12), (some (40, false))⟩,
    ⟨(some 42), .bin .neq (.t 41) (.k (.c (.d (.int .i64 0)))), (some (40, false))⟩,
    ⟨(some 43), .pick (.t 40) (.k (.c (.d (.bool true)))) (.t 42), none⟩,
    ⟨(some 44), .mv (.t 43), none⟩,
    ⟨(some 45), .mv (.t 10), (some (44, false))⟩,
    ⟨(some 46), .mv (.t 1), (some (44, false))⟩,
    ⟨(some 47), .bin .gtr (.t 45) (.t 46), (some (44, false))⟩,
    ⟨(some 48), .pick (.t 44) (.k (.c (.d (.bool true)))) (.t 47), none⟩,
    ⟨(some 49), .mv (.t 48), none⟩,
    ⟨(some 50), .mv (.t 0), (some (49, false))⟩,
    ⟨(some 51), .mv (.t 9), (some (49, false))⟩,
    ⟨(some 52), .mv (.t 10), (some (49, false))⟩,
    ⟨(some 53), .call 23 [(.t 50), (.t 51), (.t 52)] none, (some (49, false))⟩,
    ⟨(some 54), .un .not (.t 53), (some (49, false))⟩,
    ⟨(some 55), .pick (.t 49) (.k (.c (.d (.bool true)))) (.t 54), none⟩,
    ⟨(some 56), .mv (.t 55), none⟩,
    ⟨(some 57), .mv (.t 10), (some (56, false))⟩,
    ⟨(some 58), .bin .gtr (.t 57) (.k (.c (.d (.int .i64 0)))), (some (56, false))⟩,
    ⟨(some 59), .mv (.t 58), (some (56, false))⟩,
    ⟨(some 60), .mv (.t 0), (some (59, true))⟩,
    ⟨(some 61), .mv (.t 9), (some (59, true))⟩,
    ⟨(some 62), .mv (.t 10), (some (59, true))⟩,
    ⟨(some 63), .bin .sub (.t 62) (.k (.c (.d (.int .i64 1)))), (some (59, true))⟩,
    ⟨(some 64), .call 23 [(.t 60), (.t 61), (.t 63)] none, (some (59, true))⟩,
    ⟨(some 65), .pick (.t 59) (.t 64) (.k (.c (.d (.bool false)))), (some (56, false))⟩,
    ⟨(some 66), .pick (.t 56) (.k (.c (.d (.bool true)))) (.t 65), none⟩])
  (.cond (.t 66) (.seq (.reg [⟨(some 8), .mv (.k (.c (.d (.bool false)))), none⟩])
   (.ret))
   (.skip)))
  (.seq (.reg [⟨(some 67), .call 22 [] none, none⟩,
    ⟨(some 68), .mv (.t 67), none⟩,
    ⟨(some 69), .mv (.t 0), (some (68, true))⟩,
    ⟨(some 70), .mv (.t 9), (some (68, true))⟩,
    ⟨(some 71), .mv (.t 10), (some (68, true))⟩,
    ⟨(some 72), .mv (.t 3), (some (68, true))⟩,
    ⟨(some 73), .mv (.t 10), (some (68, true))⟩,
    ⟨(some 74), .bin .sub (.k (.c (.d (.int .i64 1000000)))) (.t 73), (some (68, true))⟩,
    ⟨(some 75), .bin .add (.t 74) (.k (.c (.d (.int .i64 1)))), (some (68, true))⟩,
    ⟨(some 76), .call 25 [(.t 72), (.t 75)] none, (some (68, true))⟩,
    ⟨(some 77), .bin .add (.t 71) (.t 76), (some (68, true))⟩,
    ⟨(some 78), .call 23 [(.t 69), (.t 70), (.t 77)] none, (some (68, true))⟩,
    ⟨(some 79), .pick (.t 68) (.t 78) (.k (.c (.d (.bool false)))), none⟩,
    ⟨(some 8), .mv (.t 79), none⟩])
  (.ret))))))),
  [(8, none)]⟩
theorem cf_krat15 : compFn Try.prog { own := [], comp := [], frz := [], nils := [] } Try.f6 = some sf_krat15 := by kernel_rfl
set_option maxHeartbeats 1600000 in
theorem krat15_c (G : Glob) (e : Int) (he1 : -9223372036854775808 ≤ e) (he2 : e ≤ 9223372036854775807) (ppb : Int) (hppb1 : -9223372036854775808 ≤ ppb) (hppb2 : ppb ≤ 9223372036854775807) (choice : Int) (hchoice1 : -9223372036854775808 ≤ choice) (hchoice2 : choice ≤ 9223372036854775807) (more : Int) (hmore1 : -9223372036854775808 ≤ more) (hmore2 : more ≤ 9223372036854775807)  : Den Try.prog G 6 [.int .i64 e, .int .i64 ppb, .int .i64 choice, .int .i64 more] (.w (.c (.d (.bool true)))) := by
  refine den_walk Try.func6 cf_krat15 rfl rfl ?_
  have r1 := withinN_range e 1125899906842624 (by decide)
  have r2 := withinN_range ppb 1000001 (by decide)
  have k1 := within_c G e 1125899906842624 (by decide)
  have k2 := within_c G ppb 1000001 (by decide)
  generalize withinN e 1125899906842624 = E at *
  generalize withinN ppb 1000001 = p at *
  have hE : inD E p = true := inD_d ⟨by omega, by omega, by omega, by omega⟩
  obtain ⟨f1, f2, f3, f4⟩ := adv_ok hE choice
  have k3 := adv15_c G E p choice hE
  have bl := adB_le E p (by omega) (by omega) (by omega)
  generalize advV E p choice = d at *
  obtain ⟨a1, a2, a3, a4⟩ := rat_ok E d
  have hr : ratN E d ≤ p := by
    rcases Int.lt_or_le p (ratN E d) with k | k
    · have := a3 p (by omega) k
      unfold ratP at this
      rw [f1] at this; cases this
    · exact k
  have hR : ratR E d = true := by
    unfold ratR
    rw [inD_d ⟨by omega, by omega, by omega, by omega⟩, inD_d ⟨by omega, by omega, by omega, by omega⟩]; rfl
  have hz : ratR E E = true := by
    unfold ratR
    rw [inD_d ⟨by omega, by omega, by omega, by omega⟩]; rfl
  have hN : ratN E E = 0 := by
    obtain ⟨b1, b2, b3, b4⟩ := rat_ok E E
    rcases Int.lt_or_le 0 (ratN E E) with k | k
    · have t : ratP E E 0 = true := fitB_d ⟨by omega, by omega, by omega, by omega, by omega, by omega⟩ (fit_same (by omega) (by omega))
      rw [b3 0 (by omega) k] at t; cases t
    · omega
  have c1 := drat_c G E d
  rw [show ratV E d = ratN E d by unfold ratV; rw [if_pos hR, if_pos (by omega)], show ratE E d = 0 by unfold ratE; rw [if_pos hR, if_pos (by omega)]] at c1
  have c2 := drat_c G E E
  rw [show ratV E E = 0 by unfold ratV; rw [if_pos hz, if_pos (by omega), hN], show ratE E E = 0 by unfold ratE; rw [if_pos hz, if_pos (by omega)]] at c2
  have t1 := a4 (by omega)
  have c3 := dfit_c G E d (ratN E d)
  rw [show fitB E d (ratN E d) = true from t1] at c3
  have r3 := withinN_range more (1000000 - ratN E d + 1) (by omega)
  have k4 := within_c G more (1000000 - ratN E d + 1) (by omega)
  have c5 := dfit_c G E d (ratN E d + withinN more (1000000 - ratN E d + 1))
  rw [show fitB E d (ratN E d + withinN more (1000000 - ratN E d + 1)) = true from ratP_mono E d _ _ a1 (by omega) (by omega) t1] at c5
  have c4 : 0 < ratN E d → _ := fun h => by
    have c4 := dfit_c G E d (ratN E d - 1)
    rw [show fitB E d (ratN E d - 1) = false from a3 _ (by omega) (by omega)] at c4
    exact c4
  clear a3 a4 t1 f1 f2 hN hz hR
  generalize withinN more (1000000 - ratN E d + 1) = W at *
  generalize ratN E d = R at *
  have q1 : (R > p) = False := eq_false (by omega)
  by_cases h0 : 0 < R
  · have q2 : (R > 0) = True := eq_true h0
    have c4 := c4 h0
    simp only [sf_krat15, putAll, wx, wy, wz, stV, seval, IntWalk.iteOmega, IntWalk.toNatUp, reduceCtorEq]
    refine st_call (k1) rfl (.inl rfl) ?_
    simp only [wx, wy, wz, stV, seval, IntWalk.iteOmega, IntWalk.toNatUp, reduceCtorEq]
    refine st_call (k2) rfl (.inl rfl) ?_
    simp only [wx, wy, wz, stV, seval, IntWalk.iteOmega, IntWalk.toNatUp, reduceCtorEq]
    refine st_call (k3) rfl (.inl rfl) ?_
    simp only [wx, wy, wz, stV, seval, IntWalk.iteOmega, IntWalk.toNatUp, reduceCtorEq]
    refine st_call (c1) rfl (.inl rfl) ?_
    simp only [wx, wy, wz, stV, seval, IntWalk.iteOmega, IntWalk.toNatUp, reduceCtorEq]
    refine st_call (c2) rfl (.inl rfl) ?_
    simp only [q1, q2, wx, wy, wz, stV, seval, IntWalk.iteOmega, IntWalk.toNatUp, reduceCtorEq]
    refine st_call (c3) rfl (.inl rfl) ?_
    simp only [q1, q2, wx, wy, wz, stV, seval, IntWalk.iteOmega, IntWalk.toNatUp, reduceCtorEq]
    refine st_call (c4) rfl (.inl rfl) ?_
    simp only [wx, wy, wz, stV, seval, IntWalk.iteOmega, IntWalk.toNatUp, reduceCtorEq]
    refine st_call (known15_c G) rfl (.inl rfl) ?_
    simp only [wx, wy, wz, stV, seval, IntWalk.iteOmega, IntWalk.toNatUp, reduceCtorEq]
    refine st_call (k4) rfl (.inl rfl) ?_
    simp only [wx, wy, wz, stV, seval, IntWalk.iteOmega, IntWalk.toNatUp, reduceCtorEq]
    refine st_call (c5) rfl (.inl rfl) ?_
    simp only [wx, wy, wz, stV, seval, IntWalk.iteOmega, IntWalk.toNatUp, reduceCtorEq]
    exact ret_d1 (by simp only [wx, wy, wz, stV, seval, IntWalk.iteOmega, IntWalk.toNatUp, reduceCtorEq])
  · have q2 : (R > 0) = False := eq_false h0
    simp only [sf_krat15, putAll, wx, wy, wz, stV, seval, IntWalk.iteOmega, IntWalk.toNatUp, reduceCtorEq]
    refine st_call (k1) rfl (.inl rfl) ?_
    simp only [wx, wy, wz, stV, seval, IntWalk.iteOmega, IntWalk.toNatUp, reduceCtorEq]
    refine st_call (k2) rfl (.inl rfl) ?_
    simp only [wx, wy, wz, stV, seval, IntWalk.iteOmega, IntWalk.toNatUp, reduceCtorEq]
    refine st_call (k3) rfl (.inl rfl) ?_
    simp only [wx, wy, wz, stV, seval, IntWalk.iteOmega, IntWalk.toNatUp, reduceCtorEq]
    refine st_call (c1) rfl (.inl rfl) ?_
    simp only [wx, wy, wz, stV, seval, IntWalk.iteOmega, IntWalk.toNatUp, reduceCtorEq]
    refine st_call (c2) rfl (.inl rfl) ?_
    simp only [q1, q2, wx, wy, wz, stV, seval, IntWalk.iteOmega, IntWalk.toNatUp, reduceCtorEq]
    refine st_call (c3) rfl (.inl rfl) ?_
    simp only [q1, q2, wx, wy, wz, stV, seval, IntWalk.iteOmega, IntWalk.toNatUp, reduceCtorEq]
    refine st_call (known15_c G) rfl (.inl rfl) ?_
    simp only [wx, wy, wz, stV, seval, IntWalk.iteOmega, IntWalk.toNatUp, reduceCtorEq]
    refine st_call (k4) rfl (.inl rfl) ?_
    simp only [wx, wy, wz, stV, seval, IntWalk.iteOmega, IntWalk.toNatUp, reduceCtorEq]
    refine st_call (c5) rfl (.inl rfl) ?_
    simp only [wx, wy, wz, stV, seval, IntWalk.iteOmega, IntWalk.toNatUp, reduceCtorEq]
    exact ret_d1 (by simp only [wx, wy, wz, stV, seval, IntWalk.iteOmega, IntWalk.toNatUp, reduceCtorEq])
def sf_kwid15 : SFn := ⟨4, 103,
  .seq (.reg [⟨(some 8), .mv (.k (.c (.d (.bool false)))), none⟩])
  (.seq (.reg [⟨(some 17), .mv (.t 0), none⟩,
    ⟨(some 18), .call 25 [(.t 17), (.k (.c (.d (.int .i64 18014398509481984))))] none, none⟩,
    ⟨(some 19), .mv (.t 1), none⟩,
    ⟨(some 20), .call 25 [(.t 19), (.k (.c (.d (.int .i64 18014398509481984))))] none, none⟩,
    ⟨(some 21), .mv (.t 2), none⟩,
    ⟨(some 22), .call 25 [(.t 21), (.k (.c (.d (.int .i64 1000001))))] none, none⟩,
    ⟨(some 0), .mv (.t 18), none⟩,
    ⟨(some 1), .mv (.t 20), none⟩,
    ⟨(some 2), .mv (.t 22), none⟩])
  (.seq (.reg [⟨(some 23), .mv (.t 2), none⟩,
    ⟨(some 24), .mv (.t 3), none⟩,
    ⟨(some 25), .mv (.t 2), none⟩,
    ⟨(some 26), .bin .sub (.k (.c (.d (.int .i64 1000000)))) (.t 25), none⟩,
    ⟨(some 27), .bin .add (.t 26) (.k (.c (.d (.int .i64 1)))), none⟩,
    ⟨(some 28), .call 25 [(.t 24), (.t 27)] none, none⟩,
    ⟨(some 29), .bin .add (.t 23) (.t 28), none⟩,
    ⟨(some 3), .mv (.t 29), none⟩])
  (.seq (.reg [⟨(some 31), .mv (.t 0), none⟩,
    ⟨(some 32), .mv (.t 2), none⟩,
    ⟨(some 33), .call 12 [(.t 31), (.t 32)] none, none⟩,
    ⟨(some 30), .mv (.t 33), none⟩,
    ⟨(some 34), .extract (.t 30) 0, none⟩,
    ⟨(some 35), .extract (.t 30) 1, none⟩,
    ⟨(some 9), .alloc [(.d (.int .i64 0)), (.d (.int .i64 0))], none⟩,
    ⟨none, .store (.ag 2) (.t 9) (.t 34), none⟩,
    ⟨(some 10), .mv (.t 35), none⟩])
  (.seq (.reg [⟨(some 37), .mv (.t 0), none⟩,
    ⟨(some 38), .mv (.t 3), none⟩,
    ⟨(some 39), .call 12 [(.t 37), (.t 38)] none, none⟩,
    ⟨(some 36), .mv (.t 39), none⟩,
    ⟨(some 40), .extract (.t 36) 0, none⟩,
    ⟨(some 41), .extract (.t 36) 1, none⟩,
    ⟨(some 11), .alloc [(.d (.int .i64 0)), (.d (.int .i64 0))], none⟩,
    ⟨none, .store (.ag 2) (.t 11) (.t 40), none⟩,
    ⟨(some 12), .mv (.t 41), none⟩])
  (.seq (.reg [⟨(some 43), .mv (.t 0), none⟩,
    ⟨(some 44), .mv (.t 1), none⟩,
    ⟨(some 45), .bin .add (.t 43) (.t 44), none⟩,
    ⟨(some 46), .mv (.t 2), none⟩,
    ⟨(some 47), .call 12 [(.t 45), (.t 46)] none, none⟩,
    ⟨(some 42), .mv (.t 47), none⟩,
    ⟨(some 48), .extract (.t 42) 0, none⟩,
    ⟨(some 49), .extract (.t 42) 1, none⟩,
    ⟨(some 13), .alloc [(.d (.int .i64 0)), (.d (.int .i64 0))], none⟩,
    ⟨none, .store (.ag 2) (.t 13) (.t 48), none⟩,
    ⟨(some 14), .mv (.t 49), none⟩])
  (.seq (.reg [⟨(some 51), .mv (.t 0), none⟩,
    ⟨(some 52), .call 12 [(.t 51), (.k (.c (.d (.int .i64 0))))] none, none⟩,
    ⟨(some 50), .mv (.t 52), none⟩,
    ⟨(some 53), .extract (.t 50) 0, none⟩,
    ⟨(some 54), .extract (.t 50) 1, none⟩,
    ⟨(some 15), .alloc [(.d (.int .i64 0)), (.d (.int .i64 0))], none⟩,
    ⟨none, .store (.ag 2) (.t 15) (.t 53), none⟩,
    ⟨(some 16), .mv (.t 54), none⟩])
  (.seq (.reg [⟨(some 55), .call 22 [] none, none⟩,
    ⟨(some 56), .mv (.t 55), none⟩,
    ⟨(some 57), .mv (.t 10), (some (56, true))⟩,
    ⟨(some 58), .bin .eql (.t 57) (.k (.c (.d (.int .i64 0)))), (some (56, true))⟩,
    ⟨(some 59), .pick (.t 56) (.t 58) (.k (.c (.d (.bool false)))), none⟩,
    ⟨(some 60), .mv (.t 59), none⟩,
    ⟨(some 61), .mv (.t 12), (some (60, true))⟩,
    ⟨(some 62), .bin .eql (.t 61) (.k (.c (.d (.int .i64 0)))), (some (60, true))⟩,
    ⟨(some 63), .pick (.t 60) (.t 62) (.k (.c (.d (.bool false)))), none⟩,
    ⟨(some 64), .mv (.t 63), none⟩,
    ⟨(some 65), .mv (.t 14), (some (64, true))⟩,
    ⟨(some 66), .bin .eql (.t 65) (.k (.c (.d (.int .i64 0)))), (some (64, true))⟩,
    ⟨(some 67), .pick (.t 64) (.t 66) (.k (.c (.d (.bool false)))), none⟩,
    ⟨(some 68), .mv (.t 67), none⟩,
    ⟨(some 69), .mv (.t 16), (some (68, true))⟩,
    ⟨(some 70), .bin .eql (.t 69) (.k (.c (.d (.int .i64 0)))), (some (68, true))⟩,
    ⟨(some 71), .pick (.t 68) (.t 70) (.k (.c (.d (.bool false)))), none⟩,
    ⟨(some 72), .mv (.t 71), none⟩,
    ⟨(some 73), .load (.ag 2) (.t 9), (some (72, true))⟩,
    ⟨(some 74), .load (.ag 2) (.t 11), (some (72, true))⟩,
    ⟨(some 75), .call 29 [(.t 73), (.t 74)] none, (some (72, true))⟩,
    ⟨(some 76), .pick (.t 72) (.t 75) (.k (.c (.d (.bool false)))), none⟩,
    ⟨(some 77), .mv (.t 76), none⟩,
    ⟨(some 78), .fieldAddr 0 (.t 9), (some (77, true))⟩,
    ⟨(some 79), .load .sc (.t 78), (some (77, true))⟩,
    ⟨(some 80), .fieldAddr 0 (.t 13), (some (77, true))⟩,
    ⟨(some 81), .load .sc (.t 80), (some (77, true))⟩,
    ⟨(some 82), .bin .leq (.t 79) (.t 81), (some (77, true))⟩,
    ⟨(some 83), .pick (.t 77) (.t 82) (.k (.c (.d (.bool false)))), none⟩,
    ⟨(some 84), .mv (.t 83), none⟩,
    ⟨(some 85), .fieldAddr 1 (.t 9), (some (84, true))⟩,
    ⟨(some 86), .load .sc (.t 85), (some (84, true))⟩,
    ⟨(some 87), .fieldAddr 1 (.t 13), (some (84, true))⟩,
    ⟨(some 88), .load .sc (.t 87), (some (84, true))⟩,
    ⟨(some 89), .bin .leq (.t 86) (.t 88), (some (84, true))⟩,
    ⟨(some 90), .pick (.t 84) (.t 89) (.k (.c (.d (.bool false)))), none⟩,
    ⟨(some 91), .mv (.t 90), none⟩,
    ⟨(some 92), .load (.ag 2) (.t 15), (some (91, true))⟩,
    ⟨(some 93), .mv (.t 0), (some (91, true))⟩,
    ⟨(some 94), .mv (.t 0), (some (91, true))⟩,
    ⟨(some 95), .build [(.d (.int .i64 0)), (.d (.int .i64 0))] [(0, 1, (.t 93)), (1, 1, (.t 94))], (some (91, true))⟩,
    ⟨(some 96), .eqA false [0, 0] (.t 92) (.t 95), (some (91, true))⟩,
    ⟨(some 97), .pick (.t 91) (.t 96) (.k (.c (.d (.bool false)))), none⟩,
    ⟨(some 98), .mv (.t 97), none⟩,
    ⟨(some 99), .load (.ag 2) (.t 9), (some (98, true))⟩,
    ⟨(some 100), .mv (.t 0), (some (98, true))⟩,
    ⟨(some 101), .call 28 [(.t 99), (.t 100)] none, (some (98, true))⟩,
    ⟨(some 102), .pick (.t 98) (.t 101) (.k (.c (.d (.bool false)))), none⟩,
    ⟨(some 8), .mv (.t 102), none⟩])
  (.ret)))))))),
  [(8, none)]⟩
theorem cf_kwid15 : compFn Try.prog { own := [], comp := [], frz := [], nils := [] } Try.f7 = some sf_kwid15 := by kernel_rfl
set_option maxHeartbeats 1600000 in
theorem kwid15_c (G : Glob) (d : Int) (hd1 : -9223372036854775808 ≤ d) (hd2 : d ≤ 9223372036854775807) (more : Int) (hmore1 : -9223372036854775808 ≤ more) (hmore2 : more ≤ 9223372036854775807) (ppb : Int) (hppb1 : -9223372036854775808 ≤ ppb) (hppb2 : ppb ≤ 9223372036854775807) (greater : Int) (hgreater1 : -9223372036854775808 ≤ greater) (hgreater2 : greater ≤ 9223372036854775807)  : Den Try.prog G 7 [.int .i64 d, .int .i64 more, .int .i64 ppb, .int .i64 greater] (.w (.c (.d (.bool true)))) := by
  refine den_walk Try.func7 cf_kwid15 rfl rfl ?_
  have r1 := withinN_range d 18014398509481984 (by decide)
  have r2 := withinN_range more 18014398509481984 (by decide)
  have r3 := withinN_range ppb 1000001 (by decide)
  have k1 := within_c G d 18014398509481984 (by decide)
  have k2 := within_c G more 18014398509481984 (by decide)
  have k3 := within_c G ppb 1000001 (by decide)
  generalize withinN d 18014398509481984 = E at *
  generalize withinN more 18014398509481984 = F at *
  generalize withinN ppb 1000001 = p at *
  have r4 := withinN_range greater (1000000 - p + 1) (by omega)
  have k4 := within_c G greater (1000000 - p + 1) (by omega)
  generalize withinN greater (1000000 - p + 1) = W at *
  obtain ⟨q, hq⟩ : ∃ q, p + W = q := ⟨_, rfl⟩
  have h1 : inD E p = true := inD_d ⟨by omega, by omega, by omega, by omega⟩
  have h2 : inD E q = true := inD_d ⟨by omega, by omega, by omega, by omega⟩
  have h3 : inD (E + F) p = true := inD_d ⟨by omega, by omega, by omega, by omega⟩
  have h4 : inD E 0 = true := inD_d ⟨by omega, by omega, by omega, by omega⟩
  have c1 := dela_c G E p
  rw [h1, ela_0 h1, spA_t] at c1
  have c2 := dela_c G E q
  rw [h2, ela_0 h2, spA_t] at c2
  have c3 := dela_c G (E + F) p
  rw [h3, ela_0 h3, spA_t] at c3
  have c4 := dela_c G E 0
  rw [h4, ela_0 h4, spA_t, (el_zero E).1, (el_zero E).2] at c4
  have g1 := el_wide (d := E) (p := p) (q := q) (by omega) (by omega) (by omega) (by omega)
  have g2 := el_mono (d := E) (e := E + F) (p := p) (by omega) (by omega) (by omega)
  have g3 := el_order E p (by omega) (by omega) (by omega)
  have g4 := elB_le E p (by omega) (by omega) (by omega)
  have g5 := el_order E q (by omega) (by omega) (by omega)
  have g6 := elB_le E q (by omega) (by omega) (by omega)
  have c5 := rins_c G (elA E p) (elB E p) (elA E q) (elB E q)
  rw [ins_t (okP_d ⟨by omega, by omega, by omega⟩) (okP_d ⟨by omega, by omega, by omega⟩) g1.1 g1.2] at c5
  have c6 := rhld_c G (elA E p) (elB E p) E
  rw [hld_t (okP_d ⟨by omega, by omega, by omega⟩) (by omega) (by omega)] at c6
  clear g1
  generalize elA (E + F) p = A at *
  generalize elB (E + F) p = B at *
  generalize elA E p = A1 at *
  generalize elB E p = B1 at *
  generalize elA E q = A2 at *
  generalize elB E q = B2 at *
  simp only [sf_kwid15, putAll, wx, wy, wz, stV, seval, IntWalk.iteOmega, IntWalk.toNatUp, reduceCtorEq]
  refine st_call (k1) rfl (.inl rfl) ?_
  simp only [wx, wy, wz, stV, seval, IntWalk.iteOmega, IntWalk.toNatUp, reduceCtorEq]
  refine st_call (k2) rfl (.inl rfl) ?_
  simp only [wx, wy, wz, stV, seval, IntWalk.iteOmega, IntWalk.toNatUp, reduceCtorEq]
  refine st_call (k3) rfl (.inl rfl) ?_
  simp only [wx, wy, wz, stV, seval, IntWalk.iteOmega, IntWalk.toNatUp, reduceCtorEq]
  refine st_call (k4) rfl (.inl rfl) ?_
  simp only [hq, wx, wy, wz, stV, seval, IntWalk.iteOmega, IntWalk.toNatUp, reduceCtorEq]
  refine st_call (c1) rfl (.inl rfl) ?_
  simp only [wx, wy, wz, stV, seval, IntWalk.iteOmega, IntWalk.toNatUp, reduceCtorEq]
  refine st_call (c2) rfl (.inl rfl) ?_
  simp only [wx, wy, wz, stV, seval, IntWalk.iteOmega, IntWalk.toNatUp, reduceCtorEq]
  refine st_call (c3) rfl (.inl rfl) ?_
  simp only [wx, wy, wz, stV, seval, IntWalk.iteOmega, IntWalk.toNatUp, reduceCtorEq]
  refine st_call (c4) rfl (.inl rfl) ?_
  simp only [wx, wy, wz, stV, seval, IntWalk.iteOmega, IntWalk.toNatUp, reduceCtorEq]
  refine st_call (known15_c G) rfl (.inl rfl) ?_
  simp only [wx, wy, wz, stV, seval, IntWalk.iteOmega, IntWalk.toNatUp, reduceCtorEq]
  refine st_call (c5) rfl (.inl rfl) ?_
  simp only [wx, wy, wz, stV, seval, IntWalk.iteOmega, IntWalk.toNatUp, reduceCtorEq]
  refine st_call (c6) rfl (.inl rfl) ?_
  simp only [g2.1, g2.2, wx, wy, wz, stV, seval, IntWalk.iteOmega, IntWalk.toNatUp, reduceCtorEq]
  exact ret_d1 (by simp only [wx, wy, wz, stV, seval, IntWalk.iteOmega, IntWalk.toNatUp, reduceCtorEq])
def sf_kret15 : SFn := ⟨4, 110,
  .seq (.reg [⟨(some 8), .mv (.k (.c (.d (.bool false)))), none⟩])
  (.seq (.reg [⟨(some 20), .mv (.t 0), none⟩,
    ⟨(some 21), .mv (.t 1), none⟩,
    ⟨(some 22), .call 27 [(.t 20), (.t 21)] none, none⟩,
    ⟨(some 9), .alloc [(.d (.int .i64 0)), (.d (.int .i64 0))], none⟩,
    ⟨none, .store (.ag 2) (.t 9) (.t 22), none⟩])
  (.seq (.reg [⟨(some 23), .mv (.t 2), none⟩,
    ⟨(some 24), .call 25 [(.t 23), (.k (.c (.d (.int .i64 36028797018963968))))] none, none⟩,
    ⟨(some 25), .mv (.t 3), none⟩,
    ⟨(some 26), .call 25 [(.t 25), (.k (.c (.d (.int .i64 1000001))))] none, none⟩,
    ⟨(some 2), .mv (.t 24), none⟩,
    ⟨(some 3), .mv (.t 26), none⟩])
  (.seq (.reg [⟨(some 28), .load (.ag 2) (.t 9), none⟩,
    ⟨(some 29), .mv (.t 2), none⟩,
    ⟨(some 30), .mv (.t 3), none⟩,
    ⟨(some 31), .call 16 [(.t 28), (.t 29), (.t 30)] none, none⟩,
    ⟨(some 27), .mv (.t 31), none⟩,
    ⟨(some 32), .extract (.t 27) 0, none⟩,
    ⟨(some 33), .extract (.t 27) 1, none⟩,
    ⟨(some 10), .alloc [(.d (.int .i64 0)), (.d (.int .i64 0))], none⟩,
    ⟨none, .store (.ag 2) (.t 10) (.t 32), none⟩,
    ⟨(some 11), .mv (.t 33), none⟩])
  (.seq (.reg [⟨(some 35), .load (.ag 2) (.t 10), none⟩,
    ⟨(some 36), .mv (.t 2), none⟩,
    ⟨(some 37), .mv (.t 3), none⟩,
    ⟨(some 38), .call 18 [(.t 35), (.t 36), (.t 37)] none, none⟩,
    ⟨(some 34), .mv (.t 38), none⟩,
    ⟨(some 39), .extract (.t 34) 0, none⟩,
    ⟨(some 40), .extract (.t 34) 1, none⟩,
    ⟨(some 12), .alloc [(.d (.int .i64 0)), (.d (.int .i64 0))], none⟩,
    ⟨none, .store (.ag 2) (.t 12) (.t 39), none⟩,
    ⟨(some 13), .mv (.t 40), none⟩])
  (.seq (.reg [⟨(some 42), .load (.ag 2) (.t 9), none⟩,
    ⟨(some 43), .mv (.t 2), none⟩,
    ⟨(some 44), .mv (.t 3), none⟩,
    ⟨(some 45), .call 18 [(.t 42), (.t 43), (.t 44)] none, none⟩,
    ⟨(some 41), .mv (.t 45), none⟩,
    ⟨(some 46), .extract (.t 41) 0, none⟩,
    ⟨(some 47), .extract (.t 41) 1, none⟩,
    ⟨(some 14), .alloc [(.d (.int .i64 0)), (.d (.int .i64 0))], none⟩,
    ⟨none, .store (.ag 2) (.t 14) (.t 46), none⟩,
    ⟨(some 15), .mv (.t 47), none⟩])
  (.seq (.reg [⟨(some 49), .load (.ag 2) (.t 14), none⟩,
    ⟨(some 50), .mv (.t 2), none⟩,
    ⟨(some 51), .mv (.t 3), none⟩,
    ⟨(some 52), .call 16 [(.t 49), (.t 50), (.t 51)] none, none⟩,
    ⟨(some 48), .mv (.t 52), none⟩,
    ⟨(some 53), .extract (.t 48) 0, none⟩,
    ⟨(some 54), .extract (.t 48) 1, none⟩,
    ⟨(some 16), .alloc [(.d (.int .i64 0)), (.d (.int .i64 0))], none⟩,
    ⟨none, .store (.ag 2) (.t 16) (.t 53), none⟩,
    ⟨(some 17), .mv (.t 54), none⟩])
  (.seq (.reg [⟨(some 56), .load (.ag 2) (.t 9), none⟩,
    ⟨(some 57), .mv (.t 2), none⟩,
    ⟨(some 58), .call 16 [(.t 56), (.t 57), (.k (.c (.d (.int .i64 0))))] none, none⟩,
    ⟨(some 55), .mv (.t 58), none⟩,
    ⟨(some 59), .extract (.t 55) 0, none⟩,
    ⟨(some 60), .extract (.t 55) 1, none⟩,
    ⟨(some 18), .alloc [(.d (.int .i64 0)), (.d (.int .i64 0))], none⟩,
    ⟨none, .store (.ag 2) (.t 18) (.t 59), none⟩,
    ⟨(some 19), .mv (.t 60), none⟩])
  (.seq (.reg [⟨(some 61), .call 22 [] none, none⟩,
    ⟨(some 62), .mv (.t 61), none⟩,
    ⟨(some 63), .mv (.t 11), (some (62, true))⟩,
    ⟨(some 64), .bin .eql (.t 63) (.k (.c (.d (.int .i64 0)))), (some (62, true))⟩,
    ⟨(some 65), .pick (.t 62) (.t 64) (.k (.c (.d (.bool false)))), none⟩,
    ⟨(some 66), .mv (.t 65), none⟩,
    ⟨(some 67), .mv (.t 13), (some (66, true))⟩,
    ⟨(some 68), .bin .eql (.t 67) (.k (.c (.d (.int .i64 0)))), (some (66, true))⟩,
    ⟨(some 69), .pick (.t 66) (.t 68) (.k (.c (.d (.bool false)))), none⟩,
    ⟨(some 70), .mv (.t 69), none⟩,
    ⟨(some 71), .mv (.t 15), (some (70, true))⟩,
    ⟨(some 72), .bin .eql (.t 71) (.k (.c (.d (.int .i64 0)))), (some (70, true))⟩,
    ⟨(some 73), .pick (.t 70) (.t 72) (.k (.c (.d (.bool false)))), none⟩,
    ⟨(some 74), .mv (.t 73), none⟩,
    ⟨(some 75), .mv (.t 17), (some (74, true))⟩,
    ⟨(some 76), .bin .eql (.t 75) (.k (.c (.d (.int .i64 0)))), (some (74, true))⟩,
    ⟨(some 77), .pick (.t 74) (.t 76) (.k (.c (.d (.bool false)))), none⟩,
    ⟨(some 78), .mv (.t 77), none⟩,
    ⟨(some 79), .mv (.t 19), (some (78, true))⟩,
    ⟨(some 80), .bin .eql (.t 79) (.k (.c (.d (.int .i64 0)))), (some (78, true))⟩,
    ⟨(some 81), .pick (.t 78) (.t 80) (.k (.c (.d (.bool false)))), none⟩,
    ⟨(some 82), .mv (.t 81), none⟩,
    ⟨(some 83), .load (.ag 2) (.t 9), (some (82, true))⟩,
    ⟨(some 84), .load (.ag 2) (.t 12), (some (82, true))⟩,
    ⟨(some 85), .call 29 [(.t 83), (.t 84)] none, (some (82, true))⟩,
    ⟨(some 86), .pick (.t 82) (.t 85) (.k (.c (.d (.bool false)))), none⟩,
    ⟨(some 87), .mv (.t 86), none⟩,
    ⟨(some 88), .load (.ag 2) (.t 9), (some (87, true))⟩,
    ⟨(some 89), .load (.ag 2) (.t 16), (some (87, true))⟩,
    ⟨(some 90), .call 29 [(.t 88), (.t 89)] none, (some (87, true))⟩,
    ⟨(some 91), .pick (.t 87) (.t 90) (.k (.c (.d (.bool false)))), none⟩,
    ⟨(some 92), .mv (.t 91), none⟩,
    ⟨(some 93), .load (.ag 2) (.t 18), (some (92, true))⟩,
    ⟨(some 94), .fieldAddr 0 (.t 9), (some (92, true))⟩,
    ⟨(some 95), .load .sc (.t 94), (some (92, true))⟩,
    ⟨(some 96), .mv (.t 2), (some (92, true))⟩,
    ⟨(some 97), .bin .add (.t 95) (.t 96), (some (92, true))⟩,
    ⟨(some 98), .fieldAddr 1 (.t 9), (some (92, true))⟩,
    ⟨(some 99), .load .sc (.t 98), (some (92, true))⟩,
    ⟨(some 100), .mv (.t 2), (some (92, true))⟩,
    ⟨(some 101), .bin .add (.t 99) (.t 100), (some (92, true))⟩,
    ⟨(some 102), .build [(.d (.int .i64 0)), (.d (.int .i64 0))] [(0, 1, (.t 97)), (1, 1, (.t 101))], (some (92, true))⟩,
    ⟨(some 103), .eqA false [0, 0] (.t 93) (.t 102), (some (92, true))⟩,
    ⟨(some 104), .pick (.t 92) (.t 103) (.k (.c (.d (.bool false)))), none⟩,
    ⟨(some 105), .mv (.t 104), none⟩,
    ⟨(some 106), .load (.ag 2) (.t 18), (some (105, true))⟩,
    ⟨(some 107), .load (.ag 2) (.t 10), (some (105, true))⟩,
    ⟨(some 108), .call 29 [(.t 106), (.t 107)] none, (some (105, true))⟩,
    ⟨(some 109), .pick (.t 105) (.t 108) (.k (.c (.d (.bool false)))), none⟩,
    ⟨(some 8), .mv (.t 109), none⟩])
  (.ret))))))))),
  [(8, none)]⟩
theorem cf_kret15 : compFn Try.prog { own := [], comp := [], frz := [], nils := [] } Try.f8 = some sf_kret15 := by kernel_rfl
set_option maxHeartbeats 1600000 in
theorem kret15_c (G : Glob) (a : Int) (ha1 : -9223372036854775808 ≤ a) (ha2 : a ≤ 9223372036854775807) (b : Int) (hb1 : -9223372036854775808 ≤ b) (hb2 : b ≤ 9223372036854775807) (d : Int) (hd1 : -9223372036854775808 ≤ d) (hd2 : d ≤ 9223372036854775807) (ppb : Int) (hppb1 : -9223372036854775808 ≤ ppb) (hppb2 : ppb ≤ 9223372036854775807)  : Den Try.prog G 8 [.int .i64 a, .int .i64 b, .int .i64 d, .int .i64 ppb] (.w (.c (.d (.bool true)))) := by
  refine den_walk Try.func8 cf_kret15 rfl rfl ?_
  have r1 := withinN_range d 36028797018963968 (by decide)
  have r2 := withinN_range ppb 1000001 (by decide)
  have r3 := withinN_range a 2000 (by decide)
  have r4 := withinN_range b 500 (by decide)
  have k1 := within_c G d 36028797018963968 (by decide)
  have k2 := within_c G ppb 1000001 (by decide)
  have k3 := wspan_c G a b
  obtain ⟨S, hS⟩ : ∃ S, withinN a 2000 - 1000 = S := ⟨_, rfl⟩
  rw [hS] at k3
  obtain ⟨T, hT⟩ : ∃ T, S + withinN b 500 = T := ⟨_, rfl⟩
  rw [hT] at k3
  generalize withinN d 36028797018963968 = E at *
  generalize withinN ppb 1000001 = p at *
  have hi : inD E p = true := inD_d ⟨by omega, by omega, by omega, by omega⟩
  have h0 : inD E 0 = true := inD_d ⟨by omega, by omega, by omega, by omega⟩
  have g3 := el_order E p (by omega) (by omega) (by omega)
  have g4 := elB_le E p (by omega) (by omega) (by omega)
  have c1 := dprj_c G S T E p
  obtain ⟨e1, e2⟩ := car_at (a := S) (b := T) (x := S + elA E p) (y := T + elB E p) (okP_d ⟨by omega, by omega, by omega⟩) hi (okP_d ⟨by omega, by omega, by omega⟩)
  rw [e1, e2, spA_t] at c1
  have c2 := dbck_c G (S + elA E p) (T + elB E p) E p
  obtain ⟨e3, e4⟩ := car_at (a := S + elA E p) (b := T + elB E p) (x := S + elA E p - elB E p) (y := T + elB E p - elA E p) (okP_d ⟨by omega, by omega, by omega⟩) hi (okP_d ⟨by omega, by omega, by omega⟩)
  rw [e3, e4, spA_t] at c2
  have c3 := dbck_c G S T E p
  obtain ⟨e5, e6⟩ := car_at (a := S) (b := T) (x := S - elB E p) (y := T - elA E p) (okP_d ⟨by omega, by omega, by omega⟩) hi (okP_d ⟨by omega, by omega, by omega⟩)
  rw [e5, e6, spA_t] at c3
  have c4 := dprj_c G (S - elB E p) (T - elA E p) E p
  obtain ⟨e7, e8⟩ := car_at (a := S - elB E p) (b := T - elA E p) (x := S - elB E p + elA E p) (y := T - elA E p + elB E p) (okP_d ⟨by omega, by omega, by omega⟩) hi (okP_d ⟨by omega, by omega, by omega⟩)
  rw [e7, e8, spA_t] at c4
  have c5 := dprj_c G S T E 0
  rw [(el_zero E).1, (el_zero E).2] at c5
  obtain ⟨e9, e0⟩ := car_at (a := S) (b := T) (x := S + E) (y := T + E) (okP_d ⟨by omega, by omega, by omega⟩) h0 (okP_d ⟨by omega, by omega, by omega⟩)
  rw [e9, e0, spA_t] at c5
  have c6 := rins_c G S T (S + elA E p - elB E p) (T + elB E p - elA E p)
  rw [ins_t (okP_d ⟨by omega, by omega, by omega⟩) (okP_d ⟨by omega, by omega, by omega⟩) (by omega) (by omega)] at c6
  have c7 := rins_c G S T (S - elB E p + elA E p) (T - elA E p + elB E p)
  rw [ins_t (okP_d ⟨by omega, by omega, by omega⟩) (okP_d ⟨by omega, by omega, by omega⟩) (by omega) (by omega)] at c7
  have c8 := rins_c G (S + E) (T + E) (S + elA E p) (T + elB E p)
  rw [ins_t (okP_d ⟨by omega, by omega, by omega⟩) (okP_d ⟨by omega, by omega, by omega⟩) (by omega) (by omega)] at c8
  clear e1 e2 e3 e4 e5 e6 e7 e8 e9 e0
  generalize hx1 : S + elA E p - elB E p = x1 at *
  generalize hx2 : T + elB E p - elA E p = x2 at *
  generalize hx5 : S - elB E p + elA E p = x5 at *
  generalize hx6 : T - elA E p + elB E p = x6 at *
  generalize hx3 : S + elA E p = x3 at *
  generalize hx4 : T + elB E p = x4 at *
  generalize hx7 : S - elB E p = x7 at *
  generalize hx8 : T - elA E p = x8 at *
  simp only [sf_kret15, putAll, wx, wy, wz, stV, seval, IntWalk.iteOmega, IntWalk.toNatUp, reduceCtorEq]
  refine st_call (k3) rfl (.inl rfl) ?_
  simp only [wx, wy, wz, stV, seval, IntWalk.iteOmega, IntWalk.toNatUp, reduceCtorEq]
  refine st_call (k1) rfl (.inl rfl) ?_
  simp only [wx, wy, wz, stV, seval, IntWalk.iteOmega, IntWalk.toNatUp, reduceCtorEq]
  refine st_call (k2) rfl (.inl rfl) ?_
  simp only [wx, wy, wz, stV, seval, IntWalk.iteOmega, IntWalk.toNatUp, reduceCtorEq]
  refine st_call (c1) rfl (.inl rfl) ?_
  simp only [wx, wy, wz, stV, seval, IntWalk.iteOmega, IntWalk.toNatUp, reduceCtorEq]
  refine st_call (c2) rfl (.inl rfl) ?_
  simp only [wx, wy, wz, stV, seval, IntWalk.iteOmega, IntWalk.toNatUp, reduceCtorEq]
  refine st_call (c3) rfl (.inl rfl) ?_
  simp only [wx, wy, wz, stV, seval, IntWalk.iteOmega, IntWalk.toNatUp, reduceCtorEq]
  refine st_call (c4) rfl (.inl rfl) ?_
  simp only [wx, wy, wz, stV, seval, IntWalk.iteOmega, IntWalk.toNatUp, reduceCtorEq]
  refine st_call (c5) rfl (.inl rfl) ?_
  simp only [wx, wy, wz, stV, seval, IntWalk.iteOmega, IntWalk.toNatUp, reduceCtorEq]
  refine st_call (known15_c G) rfl (.inl rfl) ?_
  simp only [wx, wy, wz, stV, seval, IntWalk.iteOmega, IntWalk.toNatUp, reduceCtorEq]
  refine st_call (c6) rfl (.inl rfl) ?_
  simp only [wx, wy, wz, stV, seval, IntWalk.iteOmega, IntWalk.toNatUp, reduceCtorEq]
  refine st_call (c7) rfl (.inl rfl) ?_
  simp only [wx, wy, wz, stV, seval, IntWalk.iteOmega, IntWalk.toNatUp, reduceCtorEq]
  refine st_call (c8) rfl (.inl rfl) ?_
  simp only [wx, wy, wz, stV, seval, IntWalk.iteOmega, IntWalk.toNatUp, reduceCtorEq]
  exact ret_d1 (by simp only [wx, wy, wz, stV, seval, IntWalk.iteOmega, IntWalk.toNatUp, reduceCtorEq])
end Go.Proofs.Ytjebhdadegfbdaa
