/- Layer 15 on data: the program: drift. Own work. -/
import Derived.Test.YtjebhdadegfbdaaPd1
import Derived.Test.YtjebhdadegfbdaaPi7
import Derived.Test.YtjebhdadegfbdaaAlY
import Derived.Shelf.Abstract
set_option linter.unusedVariables false
set_option linter.unusedSimpArgs false
namespace Go.Proofs.Ytjebhdadegfbdaa
open Go.RowKit

def upB (n m : Int) : Bool := decide (0 ≤ n ∧ n ≤ m)
theorem upB_t {n m : Int} (h : 0 ≤ n ∧ n ≤ m) : upB n m = true := decide_eq_true h
theorem upB_f {n m : Int} (h : ¬ (0 ≤ n ∧ n ≤ m)) : upB n m = false := decide_eq_false h
def sf_dup : SFn := ⟨2, 12,
  .seq (.reg [⟨(some 4), .mv (.k (.c (.d (.bool false)))), none⟩])
  (.seq (.reg [⟨(some 5), .mv (.t 0), none⟩,
    ⟨(some 6), .bin .geq (.t 5) (.k (.c (.d (.int .i64 0)))), none⟩,
    ⟨(some 7), .mv (.t 6), none⟩,
    ⟨(some 8), .mv (.t 0), (some (7, true))⟩,
    ⟨(some 9), .mv (.t 1), (some (7, true))⟩,
    ⟨(some 10), .bin .leq (.t 8) (.t 9), (some (7, true))⟩,
    ⟨(some 11), .pick (.t 7) (.t 10) (.k (.c (.d (.bool false)))), none⟩,
    ⟨(some 4), .mv (.t 11), none⟩])
  (.ret)),
  [(4, none)]⟩
theorem cf_dup : compFn Try.prog { own := [], comp := [], frz := [], nils := [] } Try.f55 = some sf_dup := by kernel_rfl
theorem dup_c (G : Glob) (n m : Int) : Den Try.prog G 55 [.int .i64 n, .int .i64 m] (.w (.c (.d (.bool (upB n m))))) := by
  refine den_walk Try.func55 cf_dup rfl rfl ?_
  by_cases h : n ≥ 0
  · by_cases h2 : n ≤ m
    · rw [upB_t ⟨h, h2⟩]
      simp only [sf_dup, putAll, wx, wy, wz, stV, seval, IntWalk.iteOmega, IntWalk.toNatUp, reduceCtorEq, eq_true h, eq_true h2]
      exact ret_d1 (by simp only [wx, wy, wz, stV, seval, IntWalk.iteOmega, IntWalk.toNatUp, reduceCtorEq])
    · rw [upB_f (by omega)]
      simp only [sf_dup, putAll, wx, wy, wz, stV, seval, IntWalk.iteOmega, IntWalk.toNatUp, reduceCtorEq, eq_true h, eq_false h2]
      exact ret_d1 (by simp only [wx, wy, wz, stV, seval, IntWalk.iteOmega, IntWalk.toNatUp, reduceCtorEq])
  · rw [upB_f (by omega)]
    simp only [sf_dup, putAll, wx, wy, wz, stV, seval, IntWalk.iteOmega, IntWalk.toNatUp, reduceCtorEq, eq_false h]
    exact ret_d1 (by simp only [wx, wy, wz, stV, seval, IntWalk.iteOmega, IntWalk.toNatUp, reduceCtorEq])
def sf_dfit : SFn := ⟨3, 39,
  .seq (.reg [⟨(some 6), .mv (.k (.c (.d (.bool false)))), none⟩])
  (.seq (.seq (.reg [⟨(some 9), .mv (.t 0), none⟩,
    ⟨(some 10), .call 55 [(.t 9), (.k (.c (.d (.int .i64 1152921504606846976))))] none, none⟩,
    ⟨(some 11), .un .not (.t 10), none⟩,
    ⟨(some 12), .mv (.t 11), none⟩,
    ⟨(some 13), .mv (.t 1), (some (12, false))⟩,
    ⟨(some 14), .call 55 [(.t 13), (.k (.c (.d (.int .i64 1152921504606846976))))] none, (some (12, false))⟩,
    ⟨(some 15), .un .not (.t 14), (some (12, false))⟩,
    ⟨(some 16), .pick (.t 12) (.k (.c (.d (.bool true)))) (.t 15), none⟩])
  (.cond (.t 16) (.seq (.reg [⟨(some 6), .mv (.k (.c (.d (.bool false)))), none⟩])
   (.ret))
   (.skip)))
  (.seq (.reg [⟨(some 18), .mv (.t 0), none⟩,
    ⟨(some 19), .mv (.t 2), none⟩,
    ⟨(some 20), .call 47 [(.t 18), (.t 19), (.k (.c (.d (.bool false))))] none, none⟩,
    ⟨(some 17), .mv (.t 20), none⟩,
    ⟨(some 21), .extract (.t 17) 0, none⟩,
    ⟨(some 22), .extract (.t 17) 1, none⟩,
    ⟨(some 7), .mv (.t 21), none⟩,
    ⟨(some 8), .mv (.t 22), none⟩])
  (.seq (.reg [⟨(some 23), .mv (.t 8), none⟩,
    ⟨(some 24), .bin .eql (.t 23) (.k (.c (.d (.int .i64 0)))), none⟩,
    ⟨(some 25), .mv (.t 24), none⟩,
    ⟨(some 26), .mv (.t 1), (some (25, true))⟩,
    ⟨(some 27), .mv (.t 0), (some (25, true))⟩,
    ⟨(some 28), .bin .sub (.t 26) (.t 27), (some (25, true))⟩,
    ⟨(some 29), .mv (.t 7), (some (25, true))⟩,
    ⟨(some 30), .bin .leq (.t 28) (.t 29), (some (25, true))⟩,
    ⟨(some 31), .pick (.t 25) (.t 30) (.k (.c (.d (.bool false)))), none⟩,
    ⟨(some 32), .mv (.t 31), none⟩,
    ⟨(some 33), .mv (.t 0), (some (32, true))⟩,
    ⟨(some 34), .mv (.t 1), (some (32, true))⟩,
    ⟨(some 35), .bin .sub (.t 33) (.t 34), (some (32, true))⟩,
    ⟨(some 36), .mv (.t 7), (some (32, true))⟩,
    ⟨(some 37), .bin .leq (.t 35) (.t 36), (some (32, true))⟩,
    ⟨(some 38), .pick (.t 32) (.t 37) (.k (.c (.d (.bool false)))), none⟩,
    ⟨(some 6), .mv (.t 38), none⟩])
  (.ret)))),
  [(6, none)]⟩
theorem cf_dfit : compFn Try.prog { own := [], comp := [], frz := [], nils := [] } Try.f23 = some sf_dfit := by kernel_rfl
theorem dfit_c (G : Glob) (e d p : Int) : Den Try.prog G 23 [.int .i64 e, .int .i64 d, .int .i64 p] (.w (.c (.d (.bool (fitB e d p))))) := by
  refine den_walk Try.func23 cf_dfit rfl rfl ?_
  have c1 := dup_c G e 1152921504606846976
  have c2 := dup_c G d 1152921504606846976
  by_cases h1 : 0 ≤ e ∧ e ≤ 1152921504606846976
  · rw [upB_t h1] at c1
    by_cases h2 : 0 ≤ d ∧ d ≤ 1152921504606846976
    · rw [upB_t h2] at c2
      have cs := sca_c G e p false (by omega) (by omega)
      by_cases h3 : 0 ≤ p ∧ p ≤ 1000000
      · have hs : scaB e p = true := scaB_t (by omega) h3.1 h3.2
        unfold scaV scaE at cs
        rw [hs, if_pos rfl, if_pos rfl, sca_dn] at cs
        have q1 : 0 ≤ e * p / 1000000000 := Int.ediv_nonneg (Int.mul_nonneg h1.1 h3.1) (by decide)
        have hf := fit_sca e d p
        have hb : fitB e d p = decide (fitP e d p) := by
          unfold fitB; rw [decide_eq_true ⟨h1.1, h1.2, h2.1, h2.2, h3.1, h3.2⟩]; rfl
        have t1 : d - e ≤ e * p / 1000000000 ∧ e - d ≤ e * p / 1000000000 → fitB e d p = true := fun h => by rw [hb]; exact decide_eq_true (hf.2 h)
        have t2 : ¬ (d - e ≤ e * p / 1000000000 ∧ e - d ≤ e * p / 1000000000) → fitB e d p = false := fun h => by rw [hb]; exact decide_eq_false (fun k => h (hf.1 k))
        clear hb hf
        generalize fitB e d p = F at *
        generalize e * p / 1000000000 = M at *
        by_cases k1 : d - e ≤ M
        · by_cases k2 : e - d ≤ M
          · rw [t1 ⟨k1, k2⟩]
            simp only [sf_dfit, putAll, wx, wy, wz, stV, seval, IntWalk.iteOmega, IntWalk.toNatUp, reduceCtorEq]
            refine st_call (c1) rfl (.inl rfl) ?_
            simp only [wx, wy, wz, stV, seval, IntWalk.iteOmega, IntWalk.toNatUp, reduceCtorEq]
            refine st_call (c2) rfl (.inl rfl) ?_
            simp only [wx, wy, wz, stV, seval, IntWalk.iteOmega, IntWalk.toNatUp, reduceCtorEq]
            refine st_call (cs) rfl (.inl rfl) ?_
            simp only [k1, k2, wx, wy, wz, stV, seval, IntWalk.iteOmega, IntWalk.toNatUp, reduceCtorEq]
            exact ret_d1 (by simp only [wx, wy, wz, stV, seval, IntWalk.iteOmega, IntWalk.toNatUp, reduceCtorEq])
          · rw [t2 (fun h => k2 h.2)]
            simp only [sf_dfit, putAll, wx, wy, wz, stV, seval, IntWalk.iteOmega, IntWalk.toNatUp, reduceCtorEq]
            refine st_call (c1) rfl (.inl rfl) ?_
            simp only [wx, wy, wz, stV, seval, IntWalk.iteOmega, IntWalk.toNatUp, reduceCtorEq]
            refine st_call (c2) rfl (.inl rfl) ?_
            simp only [wx, wy, wz, stV, seval, IntWalk.iteOmega, IntWalk.toNatUp, reduceCtorEq]
            refine st_call (cs) rfl (.inl rfl) ?_
            simp only [k1, k2, wx, wy, wz, stV, seval, IntWalk.iteOmega, IntWalk.toNatUp, reduceCtorEq]
            exact ret_d1 (by simp only [wx, wy, wz, stV, seval, IntWalk.iteOmega, IntWalk.toNatUp, reduceCtorEq])
        · rw [t2 (fun h => k1 h.1)]
          simp only [sf_dfit, putAll, wx, wy, wz, stV, seval, IntWalk.iteOmega, IntWalk.toNatUp, reduceCtorEq]
          refine st_call (c1) rfl (.inl rfl) ?_
          simp only [wx, wy, wz, stV, seval, IntWalk.iteOmega, IntWalk.toNatUp, reduceCtorEq]
          refine st_call (c2) rfl (.inl rfl) ?_
          simp only [wx, wy, wz, stV, seval, IntWalk.iteOmega, IntWalk.toNatUp, reduceCtorEq]
          refine st_call (cs) rfl (.inl rfl) ?_
          simp only [k1, wx, wy, wz, stV, seval, IntWalk.iteOmega, IntWalk.toNatUp, reduceCtorEq]
          exact ret_d1 (by simp only [wx, wy, wz, stV, seval, IntWalk.iteOmega, IntWalk.toNatUp, reduceCtorEq])
      · have hs : scaB e p = false := by
          unfold scaB; rw [decide_eq_false h3]; exact Bool.and_false _
        rw [fitB_f (fun h => h3 ⟨h.2.2.2.2.1, h.2.2.2.2.2⟩)]
        unfold scaV scaE at cs
        rw [hs] at cs
        simp only [Bool.false_eq_true, if_false] at cs
        simp only [sf_dfit, putAll, wx, wy, wz, stV, seval, IntWalk.iteOmega, IntWalk.toNatUp, reduceCtorEq]
        refine st_call (c1) rfl (.inl rfl) ?_
        simp only [wx, wy, wz, stV, seval, IntWalk.iteOmega, IntWalk.toNatUp, reduceCtorEq]
        refine st_call (c2) rfl (.inl rfl) ?_
        simp only [wx, wy, wz, stV, seval, IntWalk.iteOmega, IntWalk.toNatUp, reduceCtorEq]
        refine st_call (cs) rfl (.inl rfl) ?_
        simp only [wx, wy, wz, stV, seval, IntWalk.iteOmega, IntWalk.toNatUp, reduceCtorEq]
        exact ret_d1 (by simp only [wx, wy, wz, stV, seval, IntWalk.iteOmega, IntWalk.toNatUp, reduceCtorEq])
    · rw [upB_f h2] at c2
      rw [fitB_f (fun h => h2 ⟨h.2.2.1, h.2.2.2.1⟩)]
      simp only [sf_dfit, putAll, wx, wy, wz, stV, seval, IntWalk.iteOmega, IntWalk.toNatUp, reduceCtorEq]
      refine st_call (c1) rfl (.inl rfl) ?_
      simp only [wx, wy, wz, stV, seval, IntWalk.iteOmega, IntWalk.toNatUp, reduceCtorEq]
      refine st_call (c2) rfl (.inl rfl) ?_
      simp only [wx, wy, wz, stV, seval, IntWalk.iteOmega, IntWalk.toNatUp, reduceCtorEq]
      exact ret_d1 (by simp only [wx, wy, wz, stV, seval, IntWalk.iteOmega, IntWalk.toNatUp, reduceCtorEq])
  · rw [upB_f h1] at c1
    rw [fitB_f (fun h => h1 ⟨h.1, h.2.1⟩)]
    simp only [sf_dfit, putAll, wx, wy, wz, stV, seval, IntWalk.iteOmega, IntWalk.toNatUp, reduceCtorEq]
    refine st_call (c1) rfl (.inl rfl) ?_
    simp only [wx, wy, wz, stV, seval, IntWalk.iteOmega, IntWalk.toNatUp, reduceCtorEq]
    exact ret_d1 (by simp only [wx, wy, wz, stV, seval, IntWalk.iteOmega, IntWalk.toNatUp, reduceCtorEq])
def sf_drec : SFn := ⟨2, 11,
  .seq (.reg [⟨(some 4), .mv (.k (.c (.d (.bool false)))), none⟩])
  (.seq (.reg [⟨(some 5), .mv (.t 0), none⟩,
    ⟨(some 6), .call 55 [(.t 5), (.k (.c (.d (.int .i64 576460752303423488))))] none, none⟩,
    ⟨(some 7), .mv (.t 6), none⟩,
    ⟨(some 8), .mv (.t 1), (some (7, true))⟩,
    ⟨(some 9), .call 55 [(.t 8), (.k (.c (.d (.int .i64 1000000))))] none, (some (7, true))⟩,
    ⟨(some 10), .pick (.t 7) (.t 9) (.k (.c (.d (.bool false)))), none⟩,
    ⟨(some 4), .mv (.t 10), none⟩])
  (.ret)),
  [(4, none)]⟩
theorem cf_drec : compFn Try.prog { own := [], comp := [], frz := [], nils := [] } Try.f43 = some sf_drec := by kernel_rfl
theorem drec_c (G : Glob) (d p : Int) : Den Try.prog G 43 [.int .i64 d, .int .i64 p] (.w (.c (.d (.bool (inD d p))))) := by
  refine den_walk Try.func43 cf_drec rfl rfl ?_
  have c1 := dup_c G d 576460752303423488
  have c2 := dup_c G p 1000000
  by_cases h1 : 0 ≤ d ∧ d ≤ 576460752303423488
  · rw [upB_t h1] at c1
    by_cases h2 : 0 ≤ p ∧ p ≤ 1000000
    · rw [upB_t h2] at c2
      rw [inD_d ⟨h1.1, h1.2, h2⟩]
      simp only [sf_drec, putAll, wx, wy, wz, stV, seval, IntWalk.iteOmega, IntWalk.toNatUp, reduceCtorEq]
      refine st_call (c1) rfl (.inl rfl) ?_
      simp only [wx, wy, wz, stV, seval, IntWalk.iteOmega, IntWalk.toNatUp, reduceCtorEq]
      refine st_call (c2) rfl (.inl rfl) ?_
      simp only [wx, wy, wz, stV, seval, IntWalk.iteOmega, IntWalk.toNatUp, reduceCtorEq]
      exact ret_d1 (by simp only [wx, wy, wz, stV, seval, IntWalk.iteOmega, IntWalk.toNatUp, reduceCtorEq])
    · rw [upB_f h2] at c2
      rw [inD_f (fun h => h2 h.2.2)]
      simp only [sf_drec, putAll, wx, wy, wz, stV, seval, IntWalk.iteOmega, IntWalk.toNatUp, reduceCtorEq]
      refine st_call (c1) rfl (.inl rfl) ?_
      simp only [wx, wy, wz, stV, seval, IntWalk.iteOmega, IntWalk.toNatUp, reduceCtorEq]
      refine st_call (c2) rfl (.inl rfl) ?_
      simp only [wx, wy, wz, stV, seval, IntWalk.iteOmega, IntWalk.toNatUp, reduceCtorEq]
      exact ret_d1 (by simp only [wx, wy, wz, stV, seval, IntWalk.iteOmega, IntWalk.toNatUp, reduceCtorEq])
  · rw [upB_f h1] at c1
    rw [inD_f (fun h => h1 ⟨h.1, h.2.1⟩)]
    simp only [sf_drec, putAll, wx, wy, wz, stV, seval, IntWalk.iteOmega, IntWalk.toNatUp, reduceCtorEq]
    refine st_call (c1) rfl (.inl rfl) ?_
    simp only [wx, wy, wz, stV, seval, IntWalk.iteOmega, IntWalk.toNatUp, reduceCtorEq]
    exact ret_d1 (by simp only [wx, wy, wz, stV, seval, IntWalk.iteOmega, IntWalk.toNatUp, reduceCtorEq])
theorem mod_in {d r : Int} (h : 999000000 ≤ r) (h2 : r ≤ 1001000000) : 0 ≤ (d - d / r * r) ∧ (d - d / r * r) ≤ 1001000000 ∧ 0 ≤ (d - d / r * r) * 1000000000 ∧ (d - d / r * r) * 1000000000 ≤ 1001000000000000000 := by
  rw [emod_sub]
  have e2 := Int.emod_nonneg d (show r ≠ 0 by omega)
  have e3 := Int.emod_lt_of_pos d (show 0 < r by omega)
  generalize d % r = x at *
  omega
def sf_dcnv : SFn := ⟨3, 33,
  .seq (.reg [⟨(some 6), .mv (.k (.c (.d (.int .i64 0)))), none⟩])
  (.seq (.reg [⟨(some 12), .mv (.t 0), none⟩,
    ⟨(some 13), .mv (.t 1), none⟩,
    ⟨(some 14), .call 77 [(.t 12), (.t 13), (.k (.c (.d (.bool false))))] none, none⟩,
    ⟨(some 11), .mv (.t 14), none⟩,
    ⟨(some 15), .extract (.t 11) 0, none⟩,
    ⟨(some 16), .extract (.t 11) 1, none⟩,
    ⟨(some 7), .mv (.t 15), none⟩,
    ⟨(some 8), .mv (.t 16), none⟩])
  (.seq (.reg [⟨(some 18), .mv (.t 0), none⟩,
    ⟨(some 19), .mv (.t 7), none⟩,
    ⟨(some 20), .mv (.t 1), none⟩,
    ⟨(some 21), .bin .mul (.t 19) (.t 20), none⟩,
    ⟨(some 22), .bin .sub (.t 18) (.t 21), none⟩,
    ⟨(some 23), .bin .mul (.t 22) (.k (.c (.d (.int .i64 1000000000)))), none⟩,
    ⟨(some 24), .mv (.t 1), none⟩,
    ⟨(some 25), .mv (.t 2), none⟩,
    ⟨(some 26), .call 77 [(.t 23), (.t 24), (.t 25)] none, none⟩,
    ⟨(some 17), .mv (.t 26), none⟩,
    ⟨(some 27), .extract (.t 17) 0, none⟩,
    ⟨(some 28), .extract (.t 17) 1, none⟩,
    ⟨(some 9), .mv (.t 27), none⟩,
    ⟨(some 10), .mv (.t 28), none⟩])
  (.seq (.reg [⟨(some 29), .mv (.t 7), none⟩,
    ⟨(some 30), .bin .mul (.t 29) (.k (.c (.d (.int .i64 1000000000)))), none⟩,
    ⟨(some 31), .mv (.t 9), none⟩,
    ⟨(some 32), .bin .add (.t 30) (.t 31), none⟩,
    ⟨(some 6), .mv (.t 32), none⟩])
  (.ret)))),
  [(6, none)]⟩
theorem cf_dcnv : compFn Try.prog { own := [], comp := [], frz := [], nils := [] } Try.f44 = some sf_dcnv := by kernel_rfl
theorem dcnv_c (G : Glob) (d r : Int) (up : Bool) (h1 : 0 ≤ d) (h2 : d ≤ 576460752303423488) (r1 : 999000000 ≤ r) (r2 : r ≤ 1001000000) : Den Try.prog G 44 [.int .i64 d, .int .i64 r, .bool up] (.w (.c (.d (.int .i64 (if up = true then upQ (d * 1000000000) r else d * 1000000000 / r))))) := by
  refine den_walk Try.func44 cf_dcnv rfl rfl ?_
  obtain ⟨m1, m2, m3, m4⟩ := mod_in (d := d) r1 r2
  have ck := ratio_I d 1000000000 (c := r) (by omega) up
  have q1 : 0 ≤ d / r := Int.ediv_nonneg h1 (by omega)
  have q2 : d / r ≤ 577037790 := by
    have : d / r ≤ d / 999000000 := by
      rw [Int.le_ediv_iff_mul_le (by decide)]
      have a := Int.mul_le_mul_of_nonneg_left r1 q1
      have b := Int.ediv_mul_le d (show r ≠ 0 by omega)
      omega
    omega
  have c1 := div_c G d r false (by omega) (by omega)
  have c2 := div_c G ((d - d / r * r) * 1000000000) r up (by omega) (by omega)
  unfold divV divE at c1 c2
  rw [valT_t (by omega), if_neg (by simp; omega), if_neg (by simp; omega), round_dnQ] at c1
  rw [valT_t (by omega), if_neg (by simp; omega), if_neg (by simp; omega)] at c2
  have q3 := (round_in ((d - d / r * r) * 1000000000) (show 1 ≤ r by omega) up).1 m3
  rw [← ck]
  have qr : d / r * r ≤ d := Int.ediv_mul_le d (by omega)
  have qr0 : 0 ≤ d / r * r := Int.mul_nonneg q1 (by omega)
  clear ck
  generalize roundI ((d - d / r * r) * 1000000000) r up = R at *
  generalize hX : d / r * r = X at *
  generalize d / r = Q at *
  simp only [sf_dcnv, putAll, wx, wy, wz, stV, seval, IntWalk.iteOmega, IntWalk.toNatUp, reduceCtorEq]
  refine st_call (c1) rfl (.inl rfl) ?_
  simp only [hX, wx, wy, wz, stV, seval, IntWalk.iteOmega, IntWalk.toNatUp, reduceCtorEq]
  refine st_call (c2) rfl (.inl rfl) ?_
  simp only [wx, wy, wz, stV, seval, IntWalk.iteOmega, IntWalk.toNatUp, reduceCtorEq]
  exact ret_d1 (by simp only [wx, wy, wz, stV, seval, IntWalk.iteOmega, IntWalk.toNatUp, reduceCtorEq])
def sf_dela : SFn := ⟨2, 20,
  .seq (.reg [⟨(some 4), .alloc [(.d (.int .i64 0)), (.d (.int .i64 0))], none⟩,
    ⟨(some 5), .mv (.k (.c (.d (.int .i64 0)))), none⟩])
  (.seq (.seq (.reg [⟨(some 6), .mv (.t 0), none⟩,
    ⟨(some 7), .mv (.t 1), none⟩,
    ⟨(some 8), .call 43 [(.t 6), (.t 7)] none, none⟩,
    ⟨(some 9), .un .not (.t 8), none⟩])
  (.cond (.t 9) (.seq (.reg [⟨(some 10), .build [(.d (.int .i64 0)), (.d (.int .i64 0))] [], none⟩,
     ⟨none, .store (.ag 2) (.t 4) (.t 10), none⟩,
     ⟨(some 5), .mv (.k (.c (.d (.int .i64 4)))), none⟩])
   (.ret))
   (.skip)))
  (.seq (.reg [⟨(some 11), .mv (.t 0), none⟩,
    ⟨(some 12), .mv (.t 1), none⟩,
    ⟨(some 13), .bin .add (.k (.c (.d (.int .i64 1000000000)))) (.t 12), none⟩,
    ⟨(some 14), .call 44 [(.t 11), (.t 13), (.k (.c (.d (.bool false))))] none, none⟩,
    ⟨(some 15), .mv (.t 0), none⟩,
    ⟨(some 16), .mv (.t 1), none⟩,
    ⟨(some 17), .bin .sub (.k (.c (.d (.int .i64 1000000000)))) (.t 16), none⟩,
    ⟨(some 18), .call 44 [(.t 15), (.t 17), (.k (.c (.d (.bool true))))] none, none⟩,
    ⟨(some 19), .build [(.d (.int .i64 0)), (.d (.int .i64 0))] [(0, 1, (.t 14)), (1, 1, (.t 18))], none⟩,
    ⟨none, .store (.ag 2) (.t 4) (.t 19), none⟩,
    ⟨(some 5), .mv (.k (.c (.d (.int .i64 0)))), none⟩])
  (.ret))),
  [(4, (some (.ag 2))), (5, none)]⟩
theorem cf_dela : compFn Try.prog { own := [], comp := [], frz := [], nils := [] } Try.f12 = some sf_dela := by kernel_rfl
theorem dela_c (G : Glob) (d p : Int) : Den Try.prog G 12 [.int .i64 d, .int .i64 p] (.tup [.c (.d (spA (inD d p) (elA d p) (elB d p))), .c (.d (.int .i64 (elaE d p)))]) := by
  refine den_walk Try.func12 cf_dela rfl rfl ?_
  have c1 := drec_c G d p
  unfold spA elaE
  cases hv : inD d p
  · rw [hv] at c1
    simp only [sf_dela, putAll, wx, wy, wz, stV, seval, IntWalk.iteOmega, IntWalk.toNatUp, reduceCtorEq]
    refine st_call (c1) rfl (.inl rfl) ?_
    simp only [wx, wy, wz, stV, seval, IntWalk.iteOmega, IntWalk.toNatUp, reduceCtorEq]
    exact ret_d2 (by simp only [wx, wy, wz, stV, seval, IntWalk.iteOmega, IntWalk.toNatUp, reduceCtorEq]) (by simp only [wx, wy, wz, stV, seval, IntWalk.iteOmega, IntWalk.toNatUp, reduceCtorEq])
  · rw [hv] at c1
    obtain ⟨h1, h2, h3, h4⟩ := inD_t hv
    have c2 := dcnv_c G d (1000000000 + p) false h1 h2 (by omega) (by omega)
    have c3 := dcnv_c G d (1000000000 - p) true h1 h2 (by omega) (by omega)
    rw [if_pos rfl] at c3
    rw [if_neg (by decide)] at c2
    rw [if_pos rfl, if_pos rfl, if_pos rfl]
    unfold elA elB
    generalize d * 1000000000 / (1000000000 + p) = A at *
    generalize upQ (d * 1000000000) (1000000000 - p) = B at *
    simp only [sf_dela, putAll, wx, wy, wz, stV, seval, IntWalk.iteOmega, IntWalk.toNatUp, reduceCtorEq]
    refine st_call (c1) rfl (.inl rfl) ?_
    simp only [wx, wy, wz, stV, seval, IntWalk.iteOmega, IntWalk.toNatUp, reduceCtorEq]
    refine st_call (c2) rfl (.inl rfl) ?_
    simp only [wx, wy, wz, stV, seval, IntWalk.iteOmega, IntWalk.toNatUp, reduceCtorEq]
    refine st_call (c3) rfl (.inl rfl) ?_
    simp only [wx, wy, wz, stV, seval, IntWalk.iteOmega, IntWalk.toNatUp, reduceCtorEq]
    exact ret_d2 (by simp only [wx, wy, wz, stV, seval, IntWalk.iteOmega, IntWalk.toNatUp, reduceCtorEq]) (by simp only [wx, wy, wz, stV, seval, IntWalk.iteOmega, IntWalk.toNatUp, reduceCtorEq])
def sf_dadv : SFn := ⟨2, 27,
  .seq (.reg [⟨(some 4), .alloc [(.d (.int .i64 0)), (.d (.int .i64 0))], none⟩,
    ⟨(some 5), .mv (.k (.c (.d (.int .i64 0)))), none⟩])
  (.seq (.seq (.reg [⟨(some 8), .mv (.t 0), none⟩,
    ⟨(some 9), .mv (.t 1), none⟩,
    ⟨(some 10), .call 43 [(.t 8), (.t 9)] none, none⟩,
    ⟨(some 11), .un .not (.t 10), none⟩])
  (.cond (.t 11) (.seq (.reg [⟨(some 12), .build [(.d (.int .i64 0)), (.d (.int .i64 0))] [], none⟩,
     ⟨none, .store (.ag 2) (.t 4) (.t 12), none⟩,
     ⟨(some 5), .mv (.k (.c (.d (.int .i64 4)))), none⟩])
   (.ret))
   (.skip)))
  (.seq (.reg [⟨(some 14), .mv (.t 0), none⟩,
    ⟨(some 15), .mv (.t 1), none⟩,
    ⟨(some 16), .call 47 [(.t 14), (.t 15), (.k (.c (.d (.bool true))))] none, none⟩,
    ⟨(some 13), .mv (.t 16), none⟩,
    ⟨(some 17), .extract (.t 13) 0, none⟩,
    ⟨(some 18), .extract (.t 13) 1, none⟩,
    ⟨(some 6), .mv (.t 17), none⟩,
    ⟨(some 7), .mv (.t 18), none⟩])
  (.seq (.reg [⟨(some 19), .mv (.t 0), none⟩,
    ⟨(some 20), .mv (.t 6), none⟩,
    ⟨(some 21), .bin .sub (.t 19) (.t 20), none⟩,
    ⟨(some 22), .mv (.t 0), none⟩,
    ⟨(some 23), .mv (.t 6), none⟩,
    ⟨(some 24), .bin .add (.t 22) (.t 23), none⟩,
    ⟨(some 25), .build [(.d (.int .i64 0)), (.d (.int .i64 0))] [(0, 1, (.t 21)), (1, 1, (.t 24))], none⟩,
    ⟨(some 26), .mv (.t 7), none⟩,
    ⟨none, .store (.ag 2) (.t 4) (.t 25), none⟩,
    ⟨(some 5), .mv (.t 26), none⟩])
  (.ret)))),
  [(4, (some (.ag 2))), (5, none)]⟩
theorem cf_dadv : compFn Try.prog { own := [], comp := [], frz := [], nils := [] } Try.f14 = some sf_dadv := by kernel_rfl
theorem dadv_c (G : Glob) (e p : Int) : Den Try.prog G 14 [.int .i64 e, .int .i64 p] (.tup [.c (.d (spA (inD e p) (adA e p) (adB e p))), .c (.d (.int .i64 (elaE e p)))]) := by
  refine den_walk Try.func14 cf_dadv rfl rfl ?_
  have c1 := drec_c G e p
  unfold spA elaE
  cases hv : inD e p
  · rw [hv] at c1
    simp only [sf_dadv, putAll, wx, wy, wz, stV, seval, IntWalk.iteOmega, IntWalk.toNatUp, reduceCtorEq]
    refine st_call (c1) rfl (.inl rfl) ?_
    simp only [wx, wy, wz, stV, seval, IntWalk.iteOmega, IntWalk.toNatUp, reduceCtorEq]
    exact ret_d2 (by simp only [wx, wy, wz, stV, seval, IntWalk.iteOmega, IntWalk.toNatUp, reduceCtorEq]) (by simp only [wx, wy, wz, stV, seval, IntWalk.iteOmega, IntWalk.toNatUp, reduceCtorEq])
  · rw [hv] at c1
    obtain ⟨h1, h2, h3, h4⟩ := inD_t hv
    have cs := sca_c G e p true (by omega) (by omega)
    unfold scaV scaE at cs
    rw [scaB_t (by omega) h3 h4, if_pos rfl, if_pos rfl, sca_up] at cs
    have o := ad_order e p h1 h3 h4
    obtain ⟨a1, a2⟩ := ad_sca e p
    rw [if_pos rfl, if_pos rfl, if_pos rfl, a1, a2]
    rw [a1, a2] at o
    generalize upQ (e * p) 1000000000 = U at *
    simp only [sf_dadv, putAll, wx, wy, wz, stV, seval, IntWalk.iteOmega, IntWalk.toNatUp, reduceCtorEq]
    refine st_call (c1) rfl (.inl rfl) ?_
    simp only [wx, wy, wz, stV, seval, IntWalk.iteOmega, IntWalk.toNatUp, reduceCtorEq]
    refine st_call (cs) rfl (.inl rfl) ?_
    simp only [wx, wy, wz, stV, seval, IntWalk.iteOmega, IntWalk.toNatUp, reduceCtorEq]
    exact ret_d2 (by simp only [wx, wy, wz, stV, seval, IntWalk.iteOmega, IntWalk.toNatUp, reduceCtorEq]) (by simp only [wx, wy, wz, stV, seval, IntWalk.iteOmega, IntWalk.toNatUp, reduceCtorEq])
/-! ### Project, Back -/
def carB (a b d p x y : Int) : Bool := okP (a, b) && inD d p && okP (x, y)
def carE (a b d p x y : Int) : Int := if okP (a, b) = true then (if (inD d p && okP (x, y)) = true then 0 else 4) else 3
theorem el_ok {d p : Int} (h : inD d p = true) : okP (elA d p, elB d p) = true := by
  obtain ⟨h1, h2, h3, h4⟩ := inD_t h
  have o := el_order d p h1 h3 h4
  have m := elB_le d p h1 h3 h4
  exact okP_d ⟨by omega, by omega, by omega⟩
theorem car_sum {a b d p : Int} (h : okP (a, b) = true) (h2 : inD d p = true) (x y : Int) : smsB a b (elA d p) (elB d p) x y = carB a b d p x y ∧ sumE a b (elA d p) (elB d p) x y = carE a b d p x y := by
  unfold smsB sumE carB carE
  rw [h, h2, el_ok h2]; exact ⟨rfl, rfl⟩
def sf_dcar : SFn := ⟨4, 31,
  .seq (.reg [⟨(some 4), .box .roBox (.t 0), none⟩,
    ⟨(some 8), .alloc [(.d (.int .i64 0)), (.d (.int .i64 0))], none⟩,
    ⟨(some 9), .mv (.k (.c (.d (.int .i64 0)))), none⟩])
  (.seq (.seq (.reg [⟨(some 12), .load (.ag 2) (.t 4), none⟩,
    ⟨(some 13), .call 76 [(.t 12)] none, none⟩,
    ⟨(some 14), .un .not (.t 13), none⟩])
  (.cond (.t 14) (.seq (.reg [⟨(some 15), .build [(.d (.int .i64 0)), (.d (.int .i64 0))] [], none⟩,
     ⟨none, .store (.ag 2) (.t 8) (.t 15), none⟩,
     ⟨(some 9), .mv (.k (.c (.d (.int .i64 3)))), none⟩])
   (.ret))
   (.skip)))
  (.seq (.reg [⟨(some 17), .mv (.t 1), none⟩,
    ⟨(some 18), .mv (.t 2), none⟩,
    ⟨(some 19), .call 12 [(.t 17), (.t 18)] none, none⟩,
    ⟨(some 16), .mv (.t 19), none⟩,
    ⟨(some 20), .extract (.t 16) 0, none⟩,
    ⟨(some 21), .extract (.t 16) 1, none⟩,
    ⟨(some 10), .alloc [(.d (.int .i64 0)), (.d (.int .i64 0))], none⟩,
    ⟨none, .store (.ag 2) (.t 10) (.t 20), none⟩,
    ⟨(some 11), .mv (.t 21), none⟩])
  (.seq (.seq (.reg [⟨(some 22), .mv (.t 11), none⟩,
    ⟨(some 23), .bin .neq (.t 22) (.k (.c (.d (.int .i64 0)))), none⟩])
  (.cond (.t 23) (.seq (.reg [⟨(some 24), .build [(.d (.int .i64 0)), (.d (.int .i64 0))] [], none⟩,
     ⟨(some 25), .mv (.t 11), none⟩,
     ⟨none, .store (.ag 2) (.t 8) (.t 24), none⟩,
     ⟨(some 9), .mv (.t 25), none⟩])
   (.ret))
   (.skip)))
  (.seq (.reg [⟨(some 26), .mv (.t 3), none⟩,
    ⟨(some 27), .load (.ag 2) (.t 10), none⟩,
    ⟨(some 28), .call 1000000007 [(.t 26), (.t 27)] none, none⟩,
    ⟨(some 29), .extract (.t 28) 0, none⟩,
    ⟨(some 30), .extract (.t 28) 1, none⟩,
    ⟨none, .store (.ag 2) (.t 8) (.t 29), none⟩,
    ⟨(some 9), .mv (.t 30), none⟩])
  (.ret))))),
  [(8, (some (.ag 2))), (9, none)]⟩
theorem cf_dcar : compFn Try.prog { own := [], comp := [], frz := [], nils := [] } Try.f48 = some sf_dcar := by kernel_rfl
theorem dcar_c (G : Glob) (g : Nat) (caps : List D) (a b d p x y : Int) (hd : okP (a, b) = true → inD d p = true → DenF Try.prog G g caps [.agg [.int .i64 (elA d p), .int .i64 (elB d p)]] (.tup [.c (.d (spA (smsB a b (elA d p) (elB d p) x y) x y)), .c (.d (.int .i64 (sumE a b (elA d p) (elB d p) x y)))])) : Den Try.prog G 48 [.agg [.int .i64 a, .int .i64 b], .int .i64 d, .int .i64 p, .fn g caps] (.tup [.c (.d (spA (carB a b d p x y) x y)), .c (.d (.int .i64 (carE a b d p x y)))]) := by
  refine den_walk Try.func48 cf_dcar rfl rfl ?_
  have c1 := isv_c G a b
  have c2 := dela_c G d p
  cases h1 : okP (a, b)
  · rw [h1] at c1
    have e1 : carB a b d p x y = false := by unfold carB; rw [h1]; rfl
    have e2 : carE a b d p x y = 3 := by unfold carE; rw [h1]; rfl
    rw [e1, e2]
    simp only [sf_dcar, putAll, wx, wy, wz, stV, seval, IntWalk.iteOmega, IntWalk.toNatUp, reduceCtorEq]
    refine st_call (c1) rfl (.inl rfl) ?_
    simp only [wx, wy, wz, stV, seval, IntWalk.iteOmega, IntWalk.toNatUp, reduceCtorEq]
    unfold spA
    exact ret_d2 (by simp only [wx, wy, wz, stV, seval, IntWalk.iteOmega, IntWalk.toNatUp, reduceCtorEq]) (by simp only [wx, wy, wz, stV, seval, IntWalk.iteOmega, IntWalk.toNatUp, reduceCtorEq])
  · rw [h1] at c1
    unfold elaE at c2
    cases h2 : inD d p
    · have e1 : carB a b d p x y = false := by unfold carB; rw [h1, h2]; rfl
      have e2 : carE a b d p x y = 4 := by unfold carE; rw [h1, h2]; rfl
      rw [e1, e2]
      rw [h2] at c2
      simp only [sf_dcar, putAll, wx, wy, wz, stV, seval, IntWalk.iteOmega, IntWalk.toNatUp, reduceCtorEq]
      refine st_call (c1) rfl (.inl rfl) ?_
      simp only [wx, wy, wz, stV, seval, IntWalk.iteOmega, IntWalk.toNatUp, reduceCtorEq]
      refine st_call (c2) rfl (.inl rfl) ?_
      simp only [spA, wx, wy, wz, stV, seval, IntWalk.iteOmega, IntWalk.toNatUp, reduceCtorEq]
      exact ret_d2 (by simp only [wx, wy, wz, stV, seval, IntWalk.iteOmega, IntWalk.toNatUp, reduceCtorEq]) (by simp only [wx, wy, wz, stV, seval, IntWalk.iteOmega, IntWalk.toNatUp, reduceCtorEq])
    · obtain ⟨e1, e2⟩ := car_sum h1 h2 x y
      have cf := hd h1 h2
      rw [e1, e2] at cf
      rw [h2] at c2
      unfold spA at c2
      simp only [if_true] at c2
      generalize elA d p = u at *
      generalize elB d p = v at *
      generalize carB a b d p x y = B at *
      generalize carE a b d p x y = E at *
      simp only [sf_dcar, putAll, wx, wy, wz, stV, seval, IntWalk.iteOmega, IntWalk.toNatUp, reduceCtorEq]
      refine st_call (c1) rfl (.inl rfl) ?_
      simp only [wx, wy, wz, stV, seval, IntWalk.iteOmega, IntWalk.toNatUp, reduceCtorEq]
      refine st_call (c2) rfl (.inl rfl) ?_
      simp only [wx, wy, wz, stV, seval, IntWalk.iteOmega, IntWalk.toNatUp, reduceCtorEq]
      refine st_callF cf rfl (.inl rfl) ?_
      simp only [wx, wy, wz, stV, seval, IntWalk.iteOmega, IntWalk.toNatUp, reduceCtorEq, spA]
      exact ret_d2 (by simp only [wx, wy, wz, stV, seval, IntWalk.iteOmega, IntWalk.toNatUp, reduceCtorEq]) (by simp only [wx, wy, wz, stV, seval, IntWalk.iteOmega, IntWalk.toNatUp, reduceCtorEq])
def sf_dpr1 : SFn := ⟨2, 10,
  .seq (.reg [⟨(some 2), .box .roBox (.t 0), none⟩,
    ⟨(some 3), .alloc [(.d (.int .i64 0)), (.d (.int .i64 0))], none⟩,
    ⟨(some 4), .mv (.k (.c (.d (.int .i64 0)))), none⟩])
  (.seq (.reg [⟨(some 5), .load (.ag 2) (.t 1), none⟩,
    ⟨(some 6), .load (.ag 2) (.t 2), none⟩,
    ⟨(some 7), .call 50 [(.t 5), (.t 6)] none, none⟩,
    ⟨(some 8), .extract (.t 7) 0, none⟩,
    ⟨(some 9), .extract (.t 7) 1, none⟩,
    ⟨none, .store (.ag 2) (.t 3) (.t 8), none⟩,
    ⟨(some 4), .mv (.t 9), none⟩])
  (.ret)),
  [(3, (some (.ag 2))), (4, none)]⟩
theorem cf_dpr1 : compFn Try.prog { own := [], comp := [], frz := [], nils := [] } Try.f49 = some sf_dpr1 := by kernel_rfl
theorem dpr1_f (G : Glob) (a b c d : Int) : DenF Try.prog G 49 [.ref [.int .i64 a, .int .i64 b]] [.agg [.int .i64 c, .int .i64 d]] (.tup [.c (.d (spA (smsB a b c d (a + c) (b + d)) (a + c) (b + d))), .c (.d (.int .i64 (sumE a b c d (a + c) (b + d))))]) := by
  refine ⟨enters_of Try.func49 (by kernel_rfl) rfl, ?_⟩
  refine den_walkU Try.func49 cf_dpr1 rfl rfl ?_
  have ci := iadd_c G a b c d
  generalize smsB a b c d (a + c) (b + d) = k at *
  generalize sumE a b c d (a + c) (b + d) = e at *
  generalize a + c = x at *
  generalize b + d = y at *
  simp only [sf_dpr1, List.cons_append, List.nil_append, List.map_cons, List.map_nil, D.up, putW, wx, wy, wz, stV, seval, IntWalk.iteOmega, IntWalk.toNatUp, reduceCtorEq]
  refine st_call (ci) rfl (.inl rfl) ?_
  simp only [spA, wx, wy, wz, stV, seval, IntWalk.iteOmega, IntWalk.toNatUp, reduceCtorEq]
  exact ret_d2 (by simp only [wx, wy, wz, stV, seval, IntWalk.iteOmega, IntWalk.toNatUp, reduceCtorEq]) (by simp only [wx, wy, wz, stV, seval, IntWalk.iteOmega, IntWalk.toNatUp, reduceCtorEq])
def sf_dbk1 : SFn := ⟨2, 10,
  .seq (.reg [⟨(some 2), .box .roBox (.t 0), none⟩,
    ⟨(some 3), .alloc [(.d (.int .i64 0)), (.d (.int .i64 0))], none⟩,
    ⟨(some 4), .mv (.k (.c (.d (.int .i64 0)))), none⟩])
  (.seq (.reg [⟨(some 5), .load (.ag 2) (.t 1), none⟩,
    ⟨(some 6), .load (.ag 2) (.t 2), none⟩,
    ⟨(some 7), .call 40 [(.t 5), (.t 6)] none, none⟩,
    ⟨(some 8), .extract (.t 7) 0, none⟩,
    ⟨(some 9), .extract (.t 7) 1, none⟩,
    ⟨none, .store (.ag 2) (.t 3) (.t 8), none⟩,
    ⟨(some 4), .mv (.t 9), none⟩])
  (.ret)),
  [(3, (some (.ag 2))), (4, none)]⟩
theorem cf_dbk1 : compFn Try.prog { own := [], comp := [], frz := [], nils := [] } Try.f53 = some sf_dbk1 := by kernel_rfl
theorem dbk1_f (G : Glob) (a b c d : Int) : DenF Try.prog G 53 [.ref [.int .i64 a, .int .i64 b]] [.agg [.int .i64 c, .int .i64 d]] (.tup [.c (.d (spA (smsB a b c d (a - d) (b - c)) (a - d) (b - c))), .c (.d (.int .i64 (sumE a b c d (a - d) (b - c))))]) := by
  refine ⟨enters_of Try.func53 (by kernel_rfl) rfl, ?_⟩
  refine den_walkU Try.func53 cf_dbk1 rfl rfl ?_
  have ci := isbs_c G a b c d
  generalize smsB a b c d (a - d) (b - c) = k at *
  generalize sumE a b c d (a - d) (b - c) = e at *
  generalize a - d = x at *
  generalize b - c = y at *
  simp only [sf_dbk1, List.cons_append, List.nil_append, List.map_cons, List.map_nil, D.up, putW, wx, wy, wz, stV, seval, IntWalk.iteOmega, IntWalk.toNatUp, reduceCtorEq]
  refine st_call (ci) rfl (.inl rfl) ?_
  simp only [spA, wx, wy, wz, stV, seval, IntWalk.iteOmega, IntWalk.toNatUp, reduceCtorEq]
  exact ret_d2 (by simp only [wx, wy, wz, stV, seval, IntWalk.iteOmega, IntWalk.toNatUp, reduceCtorEq]) (by simp only [wx, wy, wz, stV, seval, IntWalk.iteOmega, IntWalk.toNatUp, reduceCtorEq])
def sf_dprj : SFn := ⟨3, 15,
  .seq (.reg [⟨(some 3), .box .roBox (.t 0), none⟩,
    ⟨(some 6), .alloc [(.d (.int .i64 0)), (.d (.int .i64 0))], none⟩,
    ⟨(some 7), .mv (.k (.c (.d (.int .i64 0)))), none⟩])
  (.seq (.reg [⟨(some 8), .load (.ag 2) (.t 3), none⟩,
    ⟨(some 9), .mv (.t 1), none⟩,
    ⟨(some 10), .mv (.t 2), none⟩,
    ⟨(some 11), .clos 49 [(.t 3)], none⟩,
    ⟨(some 12), .call 48 [(.t 8), (.t 9), (.t 10), (.t 11)] none, none⟩,
    ⟨(some 13), .extract (.t 12) 0, none⟩,
    ⟨(some 14), .extract (.t 12) 1, none⟩,
    ⟨none, .store (.ag 2) (.t 6) (.t 13), none⟩,
    ⟨(some 7), .mv (.t 14), none⟩])
  (.ret)),
  [(6, (some (.ag 2))), (7, none)]⟩
theorem cf_dprj : compFn Try.prog { own := [], comp := [], frz := [], nils := [] } Try.f16 = some sf_dprj := by kernel_rfl
theorem dprj_c (G : Glob) (a b d p : Int) : Den Try.prog G 16 [.agg [.int .i64 a, .int .i64 b], .int .i64 d, .int .i64 p] (.tup [.c (.d (spA (carB a b d p (a + elA d p) (b + elB d p)) (a + elA d p) (b + elB d p))), .c (.d (.int .i64 (carE a b d p (a + elA d p) (b + elB d p))))]) := by
  refine den_walk Try.func16 cf_dprj rfl rfl ?_
  have cm := dcar_c G 49 [.ref [.int .i64 a, .int .i64 b]] a b d p (a + elA d p) (b + elB d p) (fun _ _ => dpr1_f G a b (elA d p) (elB d p))
  generalize carB a b d p (a + elA d p) (b + elB d p) = k at *
  generalize carE a b d p (a + elA d p) (b + elB d p) = e at *
  generalize a + elA d p = x at *
  generalize b + elB d p = y at *
  simp only [sf_dprj, putAll, wx, wy, wz, stV, seval, IntWalk.iteOmega, IntWalk.toNatUp, reduceCtorEq]
  refine st_call cm (by simp only [wx, wy, wz, stV, seval, IntWalk.iteOmega, IntWalk.toNatUp, reduceCtorEq]) (.inr (fl_spI _ _ _ _)) ?_
  simp only [wx, wy, wz, stV, seval, IntWalk.iteOmega, IntWalk.toNatUp, reduceCtorEq, spA]
  exact ret_d2 (by simp only [wx, wy, wz, stV, seval, IntWalk.iteOmega, IntWalk.toNatUp, reduceCtorEq]) (by simp only [wx, wy, wz, stV, seval, IntWalk.iteOmega, IntWalk.toNatUp, reduceCtorEq])
def sf_dbck : SFn := ⟨3, 15,
  .seq (.reg [⟨(some 3), .box .roBox (.t 0), none⟩,
    ⟨(some 6), .alloc [(.d (.int .i64 0)), (.d (.int .i64 0))], none⟩,
    ⟨(some 7), .mv (.k (.c (.d (.int .i64 0)))), none⟩])
  (.seq (.reg [⟨(some 8), .load (.ag 2) (.t 3), none⟩,
    ⟨(some 9), .mv (.t 1), none⟩,
    ⟨(some 10), .mv (.t 2), none⟩,
    ⟨(some 11), .clos 53 [(.t 3)], none⟩,
    ⟨(some 12), .call 48 [(.t 8), (.t 9), (.t 10), (.t 11)] none, none⟩,
    ⟨(some 13), .extract (.t 12) 0, none⟩,
    ⟨(some 14), .extract (.t 12) 1, none⟩,
    ⟨none, .store (.ag 2) (.t 6) (.t 13), none⟩,
    ⟨(some 7), .mv (.t 14), none⟩])
  (.ret)),
  [(6, (some (.ag 2))), (7, none)]⟩
theorem cf_dbck : compFn Try.prog { own := [], comp := [], frz := [], nils := [] } Try.f18 = some sf_dbck := by kernel_rfl
theorem dbck_c (G : Glob) (a b d p : Int) : Den Try.prog G 18 [.agg [.int .i64 a, .int .i64 b], .int .i64 d, .int .i64 p] (.tup [.c (.d (spA (carB a b d p (a - elB d p) (b - elA d p)) (a - elB d p) (b - elA d p))), .c (.d (.int .i64 (carE a b d p (a - elB d p) (b - elA d p))))]) := by
  refine den_walk Try.func18 cf_dbck rfl rfl ?_
  have cm := dcar_c G 53 [.ref [.int .i64 a, .int .i64 b]] a b d p (a - elB d p) (b - elA d p) (fun _ _ => dbk1_f G a b (elA d p) (elB d p))
  generalize carB a b d p (a - elB d p) (b - elA d p) = k at *
  generalize carE a b d p (a - elB d p) (b - elA d p) = e at *
  generalize a - elB d p = x at *
  generalize b - elA d p = y at *
  simp only [sf_dbck, putAll, wx, wy, wz, stV, seval, IntWalk.iteOmega, IntWalk.toNatUp, reduceCtorEq]
  refine st_call cm (by simp only [wx, wy, wz, stV, seval, IntWalk.iteOmega, IntWalk.toNatUp, reduceCtorEq]) (.inr (fl_spI _ _ _ _)) ?_
  simp only [wx, wy, wz, stV, seval, IntWalk.iteOmega, IntWalk.toNatUp, reduceCtorEq, spA]
  exact ret_d2 (by simp only [wx, wy, wz, stV, seval, IntWalk.iteOmega, IntWalk.toNatUp, reduceCtorEq]) (by simp only [wx, wy, wz, stV, seval, IntWalk.iteOmega, IntWalk.toNatUp, reduceCtorEq])
/-! ### Rate -/
def srhSt (g : Nat) (caps : List D) (P : Int → Bool) (n : Int) (k : Nat) : St := ⟨ofL [(1, .w (.c (.d (.fn g caps)))), (5, .w (.c (.d (.int .i64 (bisK P 0 n k).1)))), (6, .w (.c (.d (.int .i64 (bisK P 0 n k).2))))], hL [], uL []⟩
def lp_srh_0 : SCode :=
  .seq (.seq (.reg [⟨(some 9), .mv (.t 5), none⟩,
    ⟨(some 10), .mv (.t 6), none⟩,
    ⟨(some 11), .bin .lss (.t 9) (.t 10), none⟩])
  (.cond (.t 11) (.skip)
   (.exit 0)))
  (.block 1 (.seq (.reg [⟨(some 12), .mv (.t 5), none⟩,
     ⟨(some 13), .mv (.t 6), none⟩,
     ⟨(some 14), .bin .add (.t 12) (.t 13), none⟩,
     ⟨(some 15), .conv .u64 (.t 14), none⟩,
     ⟨(some 16), .bin .shr (.t 15) (.k (.c (.d (.int .u64 1)))), none⟩,
     ⟨(some 17), .conv .i64 (.t 16), none⟩,
     ⟨(some 7), .mv (.t 17), none⟩])
   (.seq (.reg [⟨(some 18), .mv (.t 1), none⟩,
     ⟨(some 19), .mv (.t 7), none⟩,
     ⟨(some 20), .call 1000000007 [(.t 18), (.t 19)] none, none⟩,
     ⟨(some 21), .un .not (.t 20), none⟩])
   (.cond (.t 21) (.reg [⟨(some 22), .mv (.t 7), none⟩,
      ⟨(some 23), .bin .add (.t 22) (.k (.c (.d (.int .i64 1)))), none⟩,
      ⟨(some 5), .mv (.t 23), none⟩])
    (.reg [⟨(some 24), .mv (.t 7), none⟩,
      ⟨(some 6), .mv (.t 24), none⟩])))))
def sf_srh : SFn := ⟨2, 26,
  .seq (.reg [⟨(some 4), .mv (.k (.c (.d (.int .i64 0)))), none⟩])
  (.seq (.reg [⟨(some 8), .mv (.t 0), none⟩,
    ⟨(some 5), .mv (.k (.c (.d (.int .i64 0)))), none⟩,
    ⟨(some 6), .mv (.t 8), none⟩])
  (.seq (.block 0 (.loop lp_srh_0))
  (.seq (.reg [⟨(some 25), .mv (.t 5), none⟩,
    ⟨(some 4), .mv (.t 25), none⟩])
  (.ret)))),
  [(4, none)]⟩
theorem cf_srh : compFn Try.prog { own := [], comp := [], frz := [], nils := [] } Try.f56 = some sf_srh := by kernel_rfl
set_option maxHeartbeats 800000 in
theorem srh_c (G : Glob) (g : Nat) (caps : List D) (P : Int → Bool) (n : Int) (h1 : 0 ≤ n) (h2 : n ≤ 4611686018427387904) (hm : ∀ a b, 0 ≤ a → a ≤ b → b < n → P a = true → P b = true) (hP : ∀ t, 0 ≤ t → t < n → DenF Try.prog G g caps [.int .i64 t] (.w (.c (.d (.bool (P t)))))) : Den Try.prog G 56 [.int .i64 n, .fn g caps] (.w (.c (.d (.int .i64 (bisV P 0 n))))) := by
  refine den_walk Try.func56 cf_srh rfl rfl ?_
  obtain ⟨_, hv, hend, hgo⟩ := bis_ok (P := P) (lo := 0) (hi := n) h1 hm
  simp only [sf_srh, putAll, wx, wy, wz, stV, seval, IntWalk.iteOmega, IntWalk.toNatUp, reduceCtorEq]
  refine loop_st (srhSt g caps P n) (fun k => bisE P 0 n - k) (fun k => k ≤ bisE P 0 n) 0 (Nat.zero_le _) ?_ ?_
  · have e1 : (bisK P 0 n 0).1 = 0 := rfl
    have e2 : (bisK P 0 n 0).2 = n := rfl
    refine ent_l (fun i => i) ?_ ?_ rfl rfl <;> simp only [wx, wex, wez, stV, seval, IntWalk.iteOmega, IntWalk.toNatUp, reduceCtorEq, e1, e2]
  · intro k hk
    by_cases hlt : k < bisE P 0 n
    · obtain ⟨g1, g2, g3⟩ := hgo k hlt
      have es : bisK P 0 n (k + 1) = bisS P (bisK P 0 n k) := rfl
      obtain ⟨x, hx⟩ : ∃ x, (bisK P 0 n k).1 = x := ⟨_, rfl⟩
      obtain ⟨y, hy⟩ : ∃ y, (bisK P 0 n k).2 = y := ⟨_, rfl⟩
      unfold bisS at es
      rw [hx, hy] at es
      rw [hx] at g1 g2
      rw [hy] at g1 g3
      have cs := hP ((x + y) / 2) (by omega) (by omega)
      have m1 : x ≤ (x + y) / 2 := by omega
      have m2 : (x + y) / 2 < y := by omega
      generalize hM : (x + y) / 2 = m at *
      cases c : P m
      · rw [c] at cs
        rw [c, if_neg (by simp)] at es
        simp only [lp_srh_0, srhSt, hx, hy, wx, wy, wz, stV, seval, IntWalk.iteOmega, IntWalk.toNatUp, reduceCtorEq, bU64, hM]
        refine st_callF cs rfl (.inl rfl) ?_
        simp only [wx, wy, wz, stV, seval, IntWalk.iteOmega, IntWalk.toNatUp, reduceCtorEq]
        refine lop_next (k + 1) (by omega) (by omega) (ent_l (fun i => i) ?_ ?_ rfl rfl) <;> simp only [wx, wex, wez, stV, seval, IntWalk.iteOmega, IntWalk.toNatUp, reduceCtorEq, es]
      · rw [c] at cs
        rw [c, if_pos rfl] at es
        simp only [lp_srh_0, srhSt, hx, hy, wx, wy, wz, stV, seval, IntWalk.iteOmega, IntWalk.toNatUp, reduceCtorEq, bU64, hM]
        refine st_callF cs rfl (.inl rfl) ?_
        simp only [wx, wy, wz, stV, seval, IntWalk.iteOmega, IntWalk.toNatUp, reduceCtorEq]
        refine lop_next (k + 1) (by omega) (by omega) (ent_l (fun i => i) ?_ ?_ rfl rfl) <;> simp only [wx, wex, wez, stV, seval, IntWalk.iteOmega, IntWalk.toNatUp, reduceCtorEq, es]
    · obtain rfl : k = bisE P 0 n := by omega
      generalize bisE P 0 n = k at *
      rw [← hv]
      obtain ⟨x, hx⟩ : ∃ x, (bisK P 0 n k).1 = x := ⟨_, rfl⟩
      obtain ⟨y, hy⟩ : ∃ y, (bisK P 0 n k).2 = y := ⟨_, rfl⟩
      rw [hx] at hend ⊢
      rw [hy] at hend
      simp only [lp_srh_0, srhSt, hx, hy, wx, wy, wz, stV, seval, IntWalk.iteOmega, IntWalk.toNatUp, reduceCtorEq]
      exact ret_d1 (by simp only [wx, wy, wz, stV, seval, IntWalk.iteOmega, IntWalk.toNatUp, reduceCtorEq])
def sf_drt1 : SFn := ⟨3, 9,
  .seq (.reg [⟨(some 4), .mv (.k (.c (.d (.bool false)))), none⟩])
  (.seq (.reg [⟨(some 5), .load .sc (.t 1), none⟩,
    ⟨(some 6), .load .sc (.t 2), none⟩,
    ⟨(some 7), .mv (.t 0), none⟩,
    ⟨(some 8), .call 23 [(.t 5), (.t 6), (.t 7)] none, none⟩,
    ⟨(some 4), .mv (.t 8), none⟩])
  (.ret)),
  [(4, none)]⟩
theorem cf_drt1 : compFn Try.prog { own := [], comp := [], frz := [], nils := [] } Try.f57 = some sf_drt1 := by kernel_rfl
theorem drt1_f (G : Glob) (e d t : Int) : DenF Try.prog G 57 [.ref [.int .i64 e], .ref [.int .i64 d]] [.int .i64 t] (.w (.c (.d (.bool (ratP e d t))))) := by
  refine ⟨enters_of Try.func57 (by kernel_rfl) rfl, ?_⟩
  refine den_walkU Try.func57 cf_drt1 rfl rfl ?_
  have ci := dfit_c G e d t
  unfold ratP
  generalize fitB e d t = k at *
  simp only [sf_drt1, List.cons_append, List.nil_append, List.map_cons, List.map_nil, D.up, putW, wx, wy, wz, stV, seval, IntWalk.iteOmega, IntWalk.toNatUp, reduceCtorEq]
  refine st_call (ci) rfl (.inl rfl) ?_
  simp only [wx, wy, wz, stV, seval, IntWalk.iteOmega, IntWalk.toNatUp, reduceCtorEq]
  exact ret_d1 (by simp only [wx, wy, wz, stV, seval, IntWalk.iteOmega, IntWalk.toNatUp, reduceCtorEq])
def sf_drat : SFn := ⟨2, 20,
  .seq (.reg [⟨(some 2), .box .roBox (.t 0), none⟩,
    ⟨(some 3), .box .roBox (.t 1), none⟩,
    ⟨(some 4), .mv (.k (.c (.d (.int .i64 0)))), none⟩,
    ⟨(some 5), .mv (.k (.c (.d (.int .i64 0)))), none⟩])
  (.seq (.seq (.reg [⟨(some 7), .load .sc (.t 2), none⟩,
    ⟨(some 8), .call 55 [(.t 7), (.k (.c (.d (.int .i64 576460752303423488))))] none, none⟩,
    ⟨(some 9), .un .not (.t 8), none⟩,
    ⟨(some 10), .mv (.t 9), none⟩,
    ⟨(some 11), .load .sc (.t 3), (some (10, false))⟩,
    ⟨(some 12), .call 55 [(.t 11), (.k (.c (.d (.int .i64 576460752303423488))))] none, (some (10, false))⟩,
    ⟨(some 13), .un .not (.t 12), (some (10, false))⟩,
    ⟨(some 14), .pick (.t 10) (.k (.c (.d (.bool true)))) (.t 13), none⟩])
  (.cond (.t 14) (.seq (.reg [⟨(some 4), .mv (.k (.c (.d (.int .i64 0)))), none⟩,
     ⟨(some 5), .mv (.k (.c (.d (.int .i64 4)))), none⟩])
   (.ret))
   (.skip)))
  (.seq (.reg [⟨(some 15), .clos 57 [(.t 2), (.t 3)], none⟩,
    ⟨(some 16), .call 56 [(.k (.c (.d (.int .i64 1000001)))), (.t 15)] none, none⟩,
    ⟨(some 6), .mv (.t 16), none⟩])
  (.seq (.seq (.reg [⟨(some 17), .mv (.t 6), none⟩,
    ⟨(some 18), .bin .gtr (.t 17) (.k (.c (.d (.int .i64 1000000)))), none⟩])
  (.cond (.t 18) (.seq (.reg [⟨(some 4), .mv (.k (.c (.d (.int .i64 0)))), none⟩,
     ⟨(some 5), .mv (.k (.c (.d (.int .i64 10)))), none⟩])
   (.ret))
   (.skip)))
  (.seq (.reg [⟨(some 19), .mv (.t 6), none⟩,
    ⟨(some 4), .mv (.t 19), none⟩,
    ⟨(some 5), .mv (.k (.c (.d (.int .i64 0)))), none⟩])
  (.ret))))),
  [(4, none), (5, none)]⟩
theorem cf_drat : compFn Try.prog { own := [], comp := [], frz := [], nils := [] } Try.f20 = some sf_drat := by kernel_rfl
theorem drat_c (G : Glob) (e d : Int) : Den Try.prog G 20 [.int .i64 e, .int .i64 d] (.tup [.c (.d (.int .i64 (ratV e d))), .c (.d (.int .i64 (ratE e d)))]) := by
  refine den_walk Try.func20 cf_drat rfl rfl ?_
  have c1 := dup_c G e 576460752303423488
  have c2 := dup_c G d 576460752303423488
  have r1 : upB e 576460752303423488 = inD e 0 := by unfold upB inD; apply decide_eq_decide.2; omega
  have r2 : upB d 576460752303423488 = inD d 0 := by unfold upB inD; apply decide_eq_decide.2; omega
  have cs := srh_c G 57 [.ref [.int .i64 e], .ref [.int .i64 d]] (ratP e d) 1000001 (by decide) (by decide) (ratP_mono e d) (fun t _ _ => drt1_f G e d t)
  rw [show bisV (ratP e d) 0 1000001 = ratN e d from rfl] at cs
  rw [r1] at c1
  rw [r2] at c2
  have rk := rat_ok e d
  obtain ⟨k1, k2, _, _⟩ := rk
  unfold ratV ratE ratR
  generalize ratN e d = N at *
  cases h1 : inD e 0
  · rw [h1] at c1
    simp only [Bool.false_and, Bool.false_eq_true, if_false]
    simp only [sf_drat, putAll, wx, wy, wz, stV, seval, IntWalk.iteOmega, IntWalk.toNatUp, reduceCtorEq]
    refine st_call (c1) rfl (.inl rfl) ?_
    simp only [wx, wy, wz, stV, seval, IntWalk.iteOmega, IntWalk.toNatUp, reduceCtorEq]
    exact ret_d2 (by simp only [wx, wy, wz, stV, seval, IntWalk.iteOmega, IntWalk.toNatUp, reduceCtorEq]) (by simp only [wx, wy, wz, stV, seval, IntWalk.iteOmega, IntWalk.toNatUp, reduceCtorEq])
  · rw [h1] at c1
    cases h2 : inD d 0
    · rw [h2] at c2
      simp only [Bool.and_false, Bool.false_eq_true, if_false]
      simp only [sf_drat, putAll, wx, wy, wz, stV, seval, IntWalk.iteOmega, IntWalk.toNatUp, reduceCtorEq]
      refine st_call (c1) rfl (.inl rfl) ?_
      simp only [wx, wy, wz, stV, seval, IntWalk.iteOmega, IntWalk.toNatUp, reduceCtorEq]
      refine st_call (c2) rfl (.inl rfl) ?_
      simp only [wx, wy, wz, stV, seval, IntWalk.iteOmega, IntWalk.toNatUp, reduceCtorEq]
      exact ret_d2 (by simp only [wx, wy, wz, stV, seval, IntWalk.iteOmega, IntWalk.toNatUp, reduceCtorEq]) (by simp only [wx, wy, wz, stV, seval, IntWalk.iteOmega, IntWalk.toNatUp, reduceCtorEq])
    · rw [h2] at c2
      simp only [Bool.and_self, if_true]
      by_cases hn : N ≤ 1000000
      · have hg : (N > 1000000) = False := eq_false (by omega)
        rw [if_pos hn, if_pos hn]
        simp only [sf_drat, putAll, wx, wy, wz, stV, seval, IntWalk.iteOmega, IntWalk.toNatUp, reduceCtorEq]
        refine st_call (c1) rfl (.inl rfl) ?_
        simp only [wx, wy, wz, stV, seval, IntWalk.iteOmega, IntWalk.toNatUp, reduceCtorEq]
        refine st_call (c2) rfl (.inl rfl) ?_
        simp only [wx, wy, wz, stV, seval, IntWalk.iteOmega, IntWalk.toNatUp, reduceCtorEq]
        refine st_call cs (by simp only [wx, wy, wz, stV, seval, IntWalk.iteOmega, IntWalk.toNatUp, reduceCtorEq]) (.inl rfl) ?_
        simp only [wx, wy, wz, stV, seval, IntWalk.iteOmega, IntWalk.toNatUp, reduceCtorEq, hg]
        exact ret_d2 (by simp only [wx, wy, wz, stV, seval, IntWalk.iteOmega, IntWalk.toNatUp, reduceCtorEq]) (by simp only [wx, wy, wz, stV, seval, IntWalk.iteOmega, IntWalk.toNatUp, reduceCtorEq])
      · have hg : (N > 1000000) = True := eq_true (by omega)
        rw [if_neg hn, if_neg hn]
        simp only [sf_drat, putAll, wx, wy, wz, stV, seval, IntWalk.iteOmega, IntWalk.toNatUp, reduceCtorEq]
        refine st_call (c1) rfl (.inl rfl) ?_
        simp only [wx, wy, wz, stV, seval, IntWalk.iteOmega, IntWalk.toNatUp, reduceCtorEq]
        refine st_call (c2) rfl (.inl rfl) ?_
        simp only [wx, wy, wz, stV, seval, IntWalk.iteOmega, IntWalk.toNatUp, reduceCtorEq]
        refine st_call cs (by simp only [wx, wy, wz, stV, seval, IntWalk.iteOmega, IntWalk.toNatUp, reduceCtorEq]) (.inl rfl) ?_
        simp only [wx, wy, wz, stV, seval, IntWalk.iteOmega, IntWalk.toNatUp, reduceCtorEq, hg]
        exact ret_d2 (by simp only [wx, wy, wz, stV, seval, IntWalk.iteOmega, IntWalk.toNatUp, reduceCtorEq]) (by simp only [wx, wy, wz, stV, seval, IntWalk.iteOmega, IntWalk.toNatUp, reduceCtorEq])
end Go.Proofs.Ytjebhdadegfbdaa
