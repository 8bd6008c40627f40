/- The laws of layer 13: the sanity check; instants that the laws draw. Own work. -/
import Derived.Test.YtibpaciljnfpmaaPe5
import Derived.Test.YtibpaciljnfpmaaPl7
import Derived.Test.YtibpaciljnfpmaaLl2
set_option linter.unusedVariables false
set_option linter.unusedSimpArgs false
namespace Go.Proofs.Ytibpaciljnfpmaa
open Go.RowKit

def sf_known13 : SFn := ⟨0, 47,
  .seq (.reg [⟨(some 0), .mv (.k (.c (.d (.bool false)))), none⟩])
  (.seq (.reg [⟨(some 7), .build [(.d (.int .i64 0)), (.d (.int .i64 0))] [(0, 1, (.k (.c (.d (.int .i64 172800))))), (1, 1, (.k (.c (.d (.int .i64 11)))))], none⟩,
    ⟨(some 8), .bldSl false 1 2 (.agg [(.int .i64 0), (.int .i64 0)]) [(0, (.t 7))], none⟩,
    ⟨(some 9), .build [(.d (.int .i64 0)), .nil] [(0, 1, (.k (.c (.d (.int .i64 10))))), (1, 1, (.t 8))], none⟩,
    ⟨(some 1), .alloc [(.d (.int .i64 0)), .nil], none⟩,
    ⟨none, .store (.ag 2) (.t 1) (.t 9), none⟩])
  (.seq (.reg [⟨(some 11), .load (.ag 2) (.t 1), none⟩,
    ⟨(some 12), .call 11 [(.t 11), (.k (.c (.d (.int .i64 181204418560))))] none, none⟩,
    ⟨(some 10), .mv (.t 12), none⟩,
    ⟨(some 13), .extract (.t 10) 0, none⟩,
    ⟨(some 14), .extract (.t 10) 1, none⟩,
    ⟨(some 2), .mv (.t 13), none⟩,
    ⟨(some 3), .mv (.t 14), none⟩])
  (.seq (.reg [⟨(some 16), .load (.ag 2) (.t 1), none⟩,
    ⟨(some 17), .call 9 [(.t 16), (.k (.c (.d (.int .i64 0))))] none, none⟩,
    ⟨(some 15), .mv (.t 17), none⟩,
    ⟨(some 18), .extract (.t 15) 0, none⟩,
    ⟨(some 19), .extract (.t 15) 1, none⟩,
    ⟨(some 20), .extract (.t 15) 2, none⟩,
    ⟨(some 4), .alloc [(.d (.int .i64 0)), (.d (.int .i64 0))], none⟩,
    ⟨(some 5), .alloc [(.d (.int .i64 0)), (.d (.int .i64 0))], none⟩,
    ⟨none, .store (.ag 2) (.t 4) (.t 18), none⟩,
    ⟨none, .store (.ag 2) (.t 5) (.t 19), none⟩,
    ⟨(some 6), .mv (.t 20), none⟩])
  (.seq (.reg [⟨(some 21), .mv (.t 3), none⟩,
    ⟨(some 22), .bin .eql (.t 21) (.k (.c (.d (.int .i64 0)))), none⟩,
    ⟨(some 23), .mv (.t 22), none⟩,
    ⟨(some 24), .mv (.t 6), (some (23, true))⟩,
    ⟨(some 25), .bin .eql (.t 24) (.k (.c (.d (.int .i64 0)))), (some (23, true))⟩,
    ⟨(some 26), .pick (.t 23) (.t 25) (.k (.c (.d (.bool false)))), none⟩,
    ⟨(some 27), .mv (.t 26), none⟩,
    ⟨(some 28), .mv (.t 2), (some (27, true))⟩,
    ⟨(some 29), .bin .eql (.t 28) (.k (.c (.d (.int .i64 181193408518)))), (some (27, true))⟩,
    ⟨(some 30), .pick (.t 27) (.t 29) (.k (.c (.d (.bool false)))), none⟩,
    ⟨(some 31), .mv (.t 30), none⟩,
    ⟨(some 32), .fieldAddr 1 (.t 5), (some (31, true))⟩,
    ⟨(some 33), .load .sc (.t 32), (some (31, true))⟩,
    ⟨(some 34), .fieldAddr 0 (.t 5), (some (31, true))⟩,
    ⟨(some 35), .load .sc (.t 34), (some (31, true))⟩,
    ⟨(some 36), .bin .sub (.t 33) (.t 35), (some (31, true))⟩,
    ⟨(some 37), .bin .eql (.t 36) (.k (.c (.d (.int .i64 90598014976)))), (some (31, true))⟩,
    ⟨(some 38), .pick (.t 31) (.t 37) (.k (.c (.d (.bool false)))), none⟩,
    ⟨(some 39), .mv (.t 38), none⟩,
    ⟨(some 40), .fieldAddr 1 (.t 4), (some (39, true))⟩,
    ⟨(some 41), .load .sc (.t 40), (some (39, true))⟩,
    ⟨(some 42), .fieldAddr 0 (.t 4), (some (39, true))⟩,
    ⟨(some 43), .load .sc (.t 42), (some (39, true))⟩,
    ⟨(some 44), .bin .sub (.t 41) (.t 43), (some (39, true))⟩,
    ⟨(some 45), .bin .eql (.t 44) (.k (.c (.d (.int .i64 90596966400)))), (some (39, true))⟩,
    ⟨(some 46), .pick (.t 39) (.t 45) (.k (.c (.d (.bool false)))), none⟩,
    ⟨(some 0), .mv (.t 46), none⟩])
  (.ret))))),
  [(0, none)]⟩
theorem cf_known13 : compFn Try.prog { own := [], comp := [], frz := [], nils := [] } Try.f8 = some sf_known13 := by kernel_rfl
theorem known13_c (G : Glob) : Den Try.prog G 8 [] (.w (.c (.d (.bool true)))) := by
  refine den_walk Try.func8 cf_known13 rfl rfl ?_
  have c1 := esme_c G 10 [(172800, 11)] 181204418560 (by decide)
  rw [show smvV 10 [(172800, 11)] 181204418560 = 181193408518 by decide +kernel, show smvE 10 [(172800, 11)] 181204418560 = 0 by decide +kernel] at c1
  have c2 := ewin_c G 10 [(172800, 11)] 0 (by decide)
  rw [show wdwV 10 [(172800, 11)] 0 (frA (lpG [(172800, 11)] (0 : Int).toNat)) = 135895449600 by decide +kernel, show wdwV 10 [(172800, 11)] 0 (frB (lpG [(172800, 11)] (0 : Int).toNat)) = 226492416000 by decide +kernel, show wdwV 10 [(172800, 11)] 0 (winA (lastO 10 [(172800, 11)] (0 : Int).toNat) (lpG [(172800, 11)] (0 : Int).toNat)) = 135905935360 by decide +kernel,
    show wdwV 10 [(172800, 11)] 0 (winB (lpG [(172800, 11)] (0 : Int).toNat)) = 226503950336 by decide +kernel, show wdwE 10 [(172800, 11)] 0 = 0 by decide +kernel] at c2
  simp only [lpD, spV, List.map_cons, List.map_nil, spD] at c1 c2
  simp only [sf_known13, putAll, wx, wy, wz, stV, seval, IntWalk.iteOmega, IntWalk.toNatUp, reduceCtorEq]
  refine st_call (c1) rfl (.inl rfl) ?_
  simp only [wx, wy, wz, stV, seval, IntWalk.iteOmega, IntWalk.toNatUp, reduceCtorEq]
  refine st_call (c2) rfl (.inl rfl) ?_
  simp only [wx, wy, wz, stV, seval, IntWalk.iteOmega, IntWalk.toNatUp, reduceCtorEq]
  exact ret_d1 (by simp only [wx, wy, wz, stV, seval, IntWalk.iteOmega, IntWalk.toNatUp, reduceCtorEq])
/-! ### Within the range of what the functions take -/
theorem smv_at {f : Int} {l : List Lp} (h : okB f l = true) {t : Int} (h1 : 134217728 ≤ t) (h2 : t ≤ 288230376151711744) : smvV f l t = smN f l t ∧ smvE f l t = 0 := by
  have hb : smvB f l t = true := by unfold smvB; rw [h, decide_eq_true ⟨h1, h2⟩]; rfl
  refine ⟨if_pos hb, ?_⟩
  unfold smvE
  rw [if_pos h, if_pos ⟨h1, h2⟩]
theorem clr_at {f : Int} {l : List Lp} (h : okB f l = true) {t : Int} (h1 : 536870912 ≤ t) (h2 : t ≤ 144115187807420416) :
    clrLo f l (smN f l t) = lsN f l (smN f l t) ∧ clrHi f l (smN f l t) = lsN f l (smN f l t + 1) - 1 ∧ clrE f l (smN f l t) = 0 ∧ lsN f l (smN f l t) ≤ t ∧ t ≤ lsN f l (smN f l t + 1) - 1 ∧ lsN f l (smN f l t + 1) - 1 ≤ lsN f l (smN f l t) + 1 ∧ 268435456 ≤ smN f l t ∧ smN f l t ≤ 144115188075855872 := by
  have r := sm_range h t
  have g1 := (ls_gal (okB_leap h) (smN f l t) t).1 (Int.le_refl _)
  have g2 : t < lsN f l (smN f l t + 1) := by
    rcases Int.lt_or_le t (lsN f l (smN f l t + 1)) with k | k
    · exact k
    · have := (ls_gal (okB_leap h) _ _).2 k; omega
  have g3 := ls_two (okB_leap h) (smN f l t)
  have hn : clrN f l (smN f l t) = false := decide_eq_false (by omega)
  have hr : clrR f l (smN f l t) = true := by unfold clrR; rw [h, decide_eq_true (by omega)]; rfl
  have hb : clrB f l (smN f l t) = true := by unfold clrB; rw [hr, hn]; rfl
  refine ⟨if_pos hb, if_pos hb, ?_, g1, by omega, by omega, by omega, by omega⟩
  unfold clrE
  rw [if_pos h, if_pos (by omega), hn]; rfl
theorem er_at {f : Int} {l : List Lp} (h : okB f l = true) {t : Int} (h1 : 536870912 ≤ t) (h2 : t ≤ 144115187807420416) : errV f l t = smN f l t - utN f l t ∧ errE f l t = 0 := by
  obtain ⟨s, b, r1, r2, r3⟩ := rd_ex h (T := t / 1048576) (by omega) (by omega)
  have e := shw_is h r1
  have eu : utcB f l t = true := by unfold utcB; rw [h, e]; exact r1.sec
  have eb : smvB f l t = true := by unfold smvB; rw [h, decide_eq_true (by omega)]; rfl
  have ee := (smv_at h (t := t) (by omega) (by omega)).2
  have at1 := isR_at h r1
  have eo := u_off (okB_leap h) at1.1 at1.2
  have tt := r1.tai
  unfold taiS taiN at tt
  constructor
  · unfold errV errB
    rw [eb, eu, Bool.true_and, if_pos rfl, e, eo]
    simp only
    omega
  · unfold errE
    rw [if_pos ee, eu]; rfl
end Go.Proofs.Ytibpaciljnfpmaa
