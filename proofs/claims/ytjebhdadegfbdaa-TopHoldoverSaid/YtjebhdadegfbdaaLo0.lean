/- The laws of layer 15: the sanity check; an advance that the laws draw. Own work. -/
import Derived.Test.YtjebhdadegfbdaaPd3
import Derived.Test.YtjebhdadegfbdaaAlZ
import Derived.Test.YtjebhdadegfbdaaPw0
import Derived.Test.YtjebhdadegfbdaaPi4
set_option linter.unusedVariables false
set_option linter.unusedSimpArgs false
namespace Go.Proofs.Ytjebhdadegfbdaa
open Go.RowKit

def sf_known15 : SFn := ⟨0, 40,
  .seq (.reg [⟨(some 0), .mv (.k (.c (.d (.bool false)))), none⟩])
  (.seq (.reg [⟨(some 6), .call 12 [(.k (.c (.d (.int .i64 1099511627776)))), (.k (.c (.d (.int .i64 1000))))] none, none⟩,
    ⟨(some 5), .mv (.t 6), none⟩,
    ⟨(some 7), .extract (.t 5) 0, none⟩,
    ⟨(some 8), .extract (.t 5) 1, none⟩,
    ⟨(some 1), .alloc [(.d (.int .i64 0)), (.d (.int .i64 0))], none⟩,
    ⟨none, .store (.ag 2) (.t 1) (.t 7), none⟩,
    ⟨(some 2), .mv (.t 8), none⟩])
  (.seq (.reg [⟨(some 10), .call 20 [(.k (.c (.d (.int .i64 1000000)))), (.k (.c (.d (.int .i64 1000001))))] none, none⟩,
    ⟨(some 9), .mv (.t 10), none⟩,
    ⟨(some 11), .extract (.t 9) 0, none⟩,
    ⟨(some 12), .extract (.t 9) 1, none⟩,
    ⟨(some 3), .mv (.t 11), none⟩,
    ⟨(some 4), .mv (.t 12), none⟩])
  (.seq (.reg [⟨(some 13), .mv (.t 2), none⟩,
    ⟨(some 14), .bin .eql (.t 13) (.k (.c (.d (.int .i64 0)))), none⟩,
    ⟨(some 15), .mv (.t 14), none⟩,
    ⟨(some 16), .mv (.t 4), (some (15, true))⟩,
    ⟨(some 17), .bin .eql (.t 16) (.k (.c (.d (.int .i64 0)))), (some (15, true))⟩,
    ⟨(some 18), .pick (.t 15) (.t 17) (.k (.c (.d (.bool false)))), none⟩,
    ⟨(some 19), .mv (.t 18), none⟩,
    ⟨(some 20), .fieldAddr 0 (.t 1), (some (19, true))⟩,
    ⟨(some 21), .load .sc (.t 20), (some (19, true))⟩,
    ⟨(some 22), .bin .eql (.t 21) (.k (.c (.d (.int .i64 1099510528265)))), (some (19, true))⟩,
    ⟨(some 23), .pick (.t 19) (.t 22) (.k (.c (.d (.bool false)))), none⟩,
    ⟨(some 24), .mv (.t 23), none⟩,
    ⟨(some 25), .fieldAddr 1 (.t 1), (some (24, true))⟩,
    ⟨(some 26), .load .sc (.t 25), (some (24, true))⟩,
    ⟨(some 27), .bin .eql (.t 26) (.k (.c (.d (.int .i64 1099512727289)))), (some (24, true))⟩,
    ⟨(some 28), .pick (.t 24) (.t 27) (.k (.c (.d (.bool false)))), none⟩,
    ⟨(some 29), .mv (.t 28), none⟩,
    ⟨(some 30), .mv (.t 3), (some (29, true))⟩,
    ⟨(some 31), .bin .eql (.t 30) (.k (.c (.d (.int .i64 1000)))), (some (29, true))⟩,
    ⟨(some 32), .pick (.t 29) (.t 31) (.k (.c (.d (.bool false)))), none⟩,
    ⟨(some 33), .mv (.t 32), none⟩,
    ⟨(some 34), .call 23 [(.k (.c (.d (.int .i64 0)))), (.k (.c (.d (.int .i64 0)))), (.k (.c (.d (.int .i64 0))))] none, (some (33, true))⟩,
    ⟨(some 35), .pick (.t 33) (.t 34) (.k (.c (.d (.bool false)))), none⟩,
    ⟨(some 36), .mv (.t 35), none⟩,
    ⟨(some 37), .call 23 [(.k (.c (.d (.int .i64 0)))), (.k (.c (.d (.int .i64 1)))), (.k (.c (.d (.int .i64 1000000))))] none, (some (36, true))⟩,
    ⟨(some 38), .un .not (.t 37), (some (36, true))⟩,
    ⟨(some 39), .pick (.t 36) (.t 38) (.k (.c (.d (.bool false)))), none⟩,
    ⟨(some 0), .mv (.t 39), none⟩])
  (.ret)))),
  [(0, none)]⟩
theorem cf_known15 : compFn Try.prog { own := [], comp := [], frz := [], nils := [] } Try.f22 = some sf_known15 := by kernel_rfl
theorem known15_c (G : Glob) : Den Try.prog G 22 [] (.w (.c (.d (.bool true)))) := by
  refine den_walk Try.func22 cf_known15 rfl rfl ?_
  have c1 := dela_c G 1099511627776 1000
  rw [show inD 1099511627776 1000 = true by decide, show elA 1099511627776 1000 = 1099510528265 by decide +kernel, show elB 1099511627776 1000 = 1099512727289 by decide +kernel, show elaE 1099511627776 1000 = 0 by decide +kernel] at c1
  have c2 := drat_c G 1000000 1000001
  have hn : ratN 1000000 1000001 = 1000 := by
    obtain ⟨b1, b2, b3, b4⟩ := rat_ok 1000000 1000001
    have t1 : ratP 1000000 1000001 1000 = true := by decide +kernel
    have t2 : ratP 1000000 1000001 999 = false := by decide +kernel
    have l1 : ratN 1000000 1000001 ≤ 1000 := by
      rcases Int.lt_or_le 1000 (ratN 1000000 1000001) with k | k
      · rw [b3 1000 (by decide) k] at t1; cases t1
      · exact k
    rcases Int.lt_or_le (ratN 1000000 1000001) 1000 with k | k
    · have := ratP_mono 1000000 1000001 _ 999 b1 (by omega) (by decide) (b4 (by omega))
      rw [t2] at this; cases this
    · omega
  rw [show ratV 1000000 1000001 = 1000 by unfold ratV; rw [hn, show ratR 1000000 1000001 = true by decide]; rfl, show ratE 1000000 1000001 = 0 by unfold ratE; rw [hn, show ratR 1000000 1000001 = true by decide]; rfl] at c2
  have c3 := dfit_c G 0 0 0
  rw [show fitB 0 0 0 = true by decide] at c3
  have c4 := dfit_c G 0 1 1000000
  rw [show fitB 0 1 1000000 = false by decide] at c4
  simp only [sf_known15, putAll, wx, wy, wz, stV, seval, IntWalk.iteOmega, IntWalk.toNatUp, reduceCtorEq]
  refine st_call (c1) rfl (.inl rfl) ?_
  simp only [spA, wx, wy, wz, stV, seval, IntWalk.iteOmega, IntWalk.toNatUp, reduceCtorEq]
  refine st_call (c2) rfl (.inl rfl) ?_
  simp only [wx, wy, wz, stV, seval, IntWalk.iteOmega, IntWalk.toNatUp, reduceCtorEq]
  refine st_call (c3) rfl (.inl rfl) ?_
  simp only [wx, wy, wz, stV, seval, IntWalk.iteOmega, IntWalk.toNatUp, reduceCtorEq]
  refine st_call (c4) rfl (.inl rfl) ?_
  simp only [wx, wy, wz, stV, seval, IntWalk.iteOmega, IntWalk.toNatUp, reduceCtorEq]
  exact ret_d1 (by simp only [wx, wy, wz, stV, seval, IntWalk.iteOmega, IntWalk.toNatUp, reduceCtorEq])
/-! ### An advance that fits -/
def advN (e p c : Int) : Int := adA e p + withinN c (adB e p - adA e p + 1)
def advV (e p c : Int) : Int := if fitB e (advN e p c) p = true then advN e p c else e
theorem adv_in {e p : Int} (h : inD e p = true) (c : Int) : adA e p ≤ advN e p c ∧ advN e p c ≤ adB e p := by
  obtain ⟨h1, h2, h3, h4⟩ := inD_t h
  have o := ad_order e p h1 h3 h4
  have w := withinN_range c (adB e p - adA e p + 1) (by omega)
  unfold advN
  omega
theorem adv_ok {e p : Int} (h : inD e p = true) (c : Int) : fitB e (advV e p c) p = true ∧ fitP e (advV e p c) p ∧ 0 ≤ advV e p c ∧ advV e p c ≤ adB e p := by
  obtain ⟨h1, h2, h3, h4⟩ := inD_t h
  have o := ad_order e p h1 h3 h4
  have k := adv_in h c
  unfold advV
  by_cases hf : fitB e (advN e p c) p = true
  · rw [if_pos hf]
    exact ⟨hf, (fitB_t hf).2, by omega, by omega⟩
  · rw [if_neg hf]
    have hs := fit_same (e := e) (p := p) h1 h3
    exact ⟨fitB_d ⟨h1, by omega, h1, by omega, h3, h4⟩ hs, hs, h1, by omega⟩
theorem adB_le (e p : Int) (he : 0 ≤ e) (h0 : 0 ≤ p) (hp : p ≤ 1000000) : 1000 * adB e p ≤ 1001 * e + 1000 := by
  have h2 : e * p ≤ e * 1000000 := Int.mul_le_mul_of_nonneg_left hp he
  have : adB e p ≤ (1001 * e + 1000) / 1000 := by
    unfold adB
    rw [upQ_le (by decide), Int.mul_add]
    omega
  omega
theorem ela_0 {d p : Int} (h : inD d p = true) : elaE d p = 0 := if_pos h
theorem car_at {a b d p x y : Int} (h : okP (a, b) = true) (h2 : inD d p = true) (h3 : okP (x, y) = true) : carB a b d p x y = true ∧ carE a b d p x y = 0 := by
  unfold carB carE
  rw [h, h2, h3]; exact ⟨rfl, rfl⟩
theorem hld_t {a b t : Int} (h : okP (a, b) = true) (h1 : a ≤ t) (h2 : t ≤ b) : hldB a b t = true := by
  unfold hldB
  rw [h, decide_eq_true ⟨h1, h2⟩]; rfl
theorem ins_t {a b c d : Int} (h : okP (a, b) = true) (h2 : okP (c, d) = true) (h3 : c ≤ a) (h4 : b ≤ d) : insB a b c d = true := by
  unfold insB
  rw [h, h2, decide_eq_true ⟨h3, h4⟩]; rfl
theorem spA_t (x y : Int) : spA true x y = .agg [.int .i64 x, .int .i64 y] := rfl
def sf_adv15 : SFn := ⟨3, 34,
  .seq (.reg [⟨(some 6), .mv (.k (.c (.d (.int .i64 0)))), none⟩])
  (.seq (.reg [⟨(some 11), .mv (.t 0), none⟩,
    ⟨(some 12), .mv (.t 1), none⟩,
    ⟨(some 13), .call 15 [(.t 11), (.t 12)] none, none⟩,
    ⟨(some 10), .mv (.t 13), none⟩,
    ⟨(some 14), .extract (.t 10) 0, none⟩,
    ⟨(some 15), .extract (.t 10) 1, none⟩,
    ⟨(some 7), .alloc [(.d (.int .i64 0)), (.d (.int .i64 0))], none⟩,
    ⟨none, .store (.ag 2) (.t 7) (.t 14), none⟩,
    ⟨(some 8), .mv (.t 15), none⟩])
  (.seq (.reg [⟨(some 16), .fieldAddr 0 (.t 7), none⟩,
    ⟨(some 17), .load .sc (.t 16), none⟩,
    ⟨(some 18), .mv (.t 2), none⟩,
    ⟨(some 19), .fieldAddr 1 (.t 7), none⟩,
    ⟨(some 20), .load .sc (.t 19), none⟩,
    ⟨(some 21), .fieldAddr 0 (.t 7), none⟩,
    ⟨(some 22), .load .sc (.t 21), none⟩,
    ⟨(some 23), .bin .sub (.t 20) (.t 22), none⟩,
    ⟨(some 24), .bin .add (.t 23) (.k (.c (.d (.int .i64 1)))), none⟩,
    ⟨(some 25), .call 25 [(.t 18), (.t 24)] none, none⟩,
    ⟨(some 26), .bin .add (.t 17) (.t 25), none⟩,
    ⟨(some 9), .mv (.t 26), none⟩])
  (.seq (.seq (.reg [⟨(some 27), .mv (.t 0), none⟩,
    ⟨(some 28), .mv (.t 9), none⟩,
    ⟨(some 29), .mv (.t 1), none⟩,
    ⟨(some 30), .call 24 [(.t 27), (.t 28), (.t 29)] none, none⟩,
    ⟨(some 31), .un .not (.t 30), none⟩])
  (.cond (.t 31) (.seq (.reg [⟨(some 32), .mv (.t 0), none⟩,
     ⟨(some 6), .mv (.t 32), none⟩])
   (.ret))
   (.skip)))
  (.seq (.reg [⟨(some 33), .mv (.t 9), none⟩,
    ⟨(some 6), .mv (.t 33), none⟩])
  (.ret))))),
  [(6, none)]⟩
theorem cf_adv15 : compFn Try.prog { own := [], comp := [], frz := [], nils := [] } Try.f26 = some sf_adv15 := by kernel_rfl
theorem adv15_c (G : Glob) (e p c : Int) (h : inD e p = true) : Den Try.prog G 26 [.int .i64 e, .int .i64 p, .int .i64 c] (.w (.c (.d (.int .i64 (advV e p c))))) := by
  refine den_walk Try.func26 cf_adv15 rfl rfl ?_
  obtain ⟨h1, h2, h3, h4⟩ := inD_t h
  have o := ad_order e p h1 h3 h4
  have k := adv_in h c
  have c1 := radv_c G e p
  rw [h] at c1
  have c2 := within_c G c (adB e p - adA e p + 1) (by omega)
  have c3 := rfit_c G e (advN e p c) p
  have hN : adA e p + withinN c (adB e p - adA e p + 1) = advN e p c := rfl
  unfold advV
  generalize advN e p c = N at *
  generalize withinN c (adB e p - adA e p + 1) = W at *
  generalize adA e p = A at *
  generalize adB e p = B at *
  have w1 : 0 ≤ W := by omega
  cases hf : fitB e N p
  · rw [hf] at c3
    simp only [Bool.false_eq_true, if_false]
    simp only [sf_adv15, putAll, wx, wy, wz, stV, seval, IntWalk.iteOmega, IntWalk.toNatUp, reduceCtorEq]
    refine st_call (c1) rfl (.inl rfl) ?_
    simp only [spA, wx, wy, wz, stV, seval, IntWalk.iteOmega, IntWalk.toNatUp, reduceCtorEq]
    refine st_call (c2) rfl (.inl rfl) ?_
    simp only [hN, wx, wy, wz, stV, seval, IntWalk.iteOmega, IntWalk.toNatUp, reduceCtorEq]
    refine st_call (c3) rfl (.inl rfl) ?_
    simp only [wx, wy, wz, stV, seval, IntWalk.iteOmega, IntWalk.toNatUp, reduceCtorEq]
    exact ret_d1 (by simp only [wx, wy, wz, stV, seval, IntWalk.iteOmega, IntWalk.toNatUp, reduceCtorEq])
  · rw [hf] at c3
    rw [if_pos rfl]
    simp only [sf_adv15, putAll, wx, wy, wz, stV, seval, IntWalk.iteOmega, IntWalk.toNatUp, reduceCtorEq]
    refine st_call (c1) rfl (.inl rfl) ?_
    simp only [spA, wx, wy, wz, stV, seval, IntWalk.iteOmega, IntWalk.toNatUp, reduceCtorEq]
    refine st_call (c2) rfl (.inl rfl) ?_
    simp only [hN, wx, wy, wz, stV, seval, IntWalk.iteOmega, IntWalk.toNatUp, reduceCtorEq]
    refine st_call (c3) rfl (.inl rfl) ?_
    simp only [wx, wy, wz, stV, seval, IntWalk.iteOmega, IntWalk.toNatUp, reduceCtorEq]
    exact ret_d1 (by simp only [wx, wy, wz, stV, seval, IntWalk.iteOmega, IntWalk.toNatUp, reduceCtorEq])
end Go.Proofs.Ytjebhdadegfbdaa
