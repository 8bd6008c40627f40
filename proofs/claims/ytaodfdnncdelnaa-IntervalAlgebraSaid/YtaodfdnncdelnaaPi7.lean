/- Layer 11 on data: the program: results made by function literals; Common. Own work. -/
import Derived.Shelf.Abstract
import Derived.Test.YtaodfdnncdelnaaAlY
import Derived.Test.YtaodfdnncdelnaaPi6
set_option linter.unusedVariables false
set_option linter.unusedSimpArgs false
namespace Go.Proofs.Ytaodfdnncdelnaa
open Go.RowKit

theorem fl_spI (k : Bool) (x y n : Int) : V.flat (.tup [.c (.d (spA k x y)), .c (.d (.int .i64 n))]) = true := rfl
theorem allOk1 (a b : Int) : allOk [(a, b)] = okP (a, b) := by simp [allOk]
theorem allOk2 (a b c d : Int) : allOk [(a, b), (c, d)] = (okP (a, b) && okP (c, d)) := by simp [allOk]
theorem allOk2_t {a b c d : Int} (h : allOk [(a, b), (c, d)] = true) : okP (a, b) = true ∧ okP (c, d) = true := by
  rw [allOk2] at h; simpa using h
theorem md_sum (a b c d x y : Int) : mdB [(a, b), (c, d)] true x y = smsB a b c d x y ∧ mdE [(a, b), (c, d)] true x y = sumE a b c d x y := by
  unfold mdB mdE smsB sumE
  rw [allOk2, Bool.and_true, Bool.true_and]
  exact ⟨rfl, rfl⟩
theorem md_meet (a b c d : Int) : mdB [(a, b), (c, d)] true (max a c) (min b d) = mtB a b c d ∧ (mtB a b c d = true → mdE [(a, b), (c, d)] true (max a c) (min b d) = 0) ∧ (mtB a b c d = false → mdE [(a, b), (c, d)] true (max a c) (min b d) = 3 ∨ mdE [(a, b), (c, d)] true (max a c) (min b d) = 4) := by
  unfold mdB mdE mtB meetB
  rw [allOk2, Bool.and_true, Bool.true_and]
  cases hv : okP (a, b)
  · exact ⟨rfl, fun h => (by cases h), fun _ => .inl rfl⟩
  · cases hv2 : okP (c, d)
    · exact ⟨rfl, fun h => (by cases h), fun _ => .inl rfl⟩
    · obtain ⟨h1, h2, h3⟩ := okP_i hv
      obtain ⟨k1, k2, k3⟩ := okP_i hv2
      by_cases h : max a c ≤ min b d
      · have e : okP (max a c, min b d) = true := okP_d ⟨by omega, by omega, h⟩
        rw [e, decide_eq_true h]
        exact ⟨rfl, fun _ => rfl, fun h => (by cases h)⟩
      · have e : okP (max a c, min b d) = false := okP_n (by omega)
        rw [e, decide_eq_false h]
        exact ⟨rfl, fun h => (by cases h), fun _ => .inr rfl⟩
theorem md_hull (a b c d : Int) : mdB [(a, b), (c, d)] true (min a c) (max b d) = hulB a b c d ∧ mdE [(a, b), (c, d)] true (min a c) (max b d) = if hulB a b c d = true then 0 else 3 := by
  unfold mdB mdE hulB
  rw [allOk2, Bool.and_true, Bool.true_and]
  cases hv : okP (a, b)
  · exact ⟨rfl, rfl⟩
  · cases hv2 : okP (c, d)
    · exact ⟨rfl, rfl⟩
    · obtain ⟨h1, h2, h3⟩ := okP_i hv
      obtain ⟨k1, k2, k3⟩ := okP_i hv2
      have e : okP (min a c, max b d) = true := okP_d ⟨by omega, by omega, by omega⟩
      rw [e]
      exact ⟨rfl, rfl⟩
/-! ### Meet, Hull -/
def sf_cmet : SFn := ⟨2, 15,
  .seq (.reg [⟨(some 2), .alloc [(.d (.int .i64 0)), (.d (.int .i64 0))], none⟩,
    ⟨(some 3), .mv (.k (.c (.d (.bool false)))), none⟩])
  (.seq (.reg [⟨(some 4), .fieldAddr 0 (.t 0), none⟩,
    ⟨(some 5), .load .sc (.t 4), none⟩,
    ⟨(some 6), .fieldAddr 0 (.t 1), none⟩,
    ⟨(some 7), .load .sc (.t 6), none⟩,
    ⟨(some 8), .max [(.t 5), (.t 7)], none⟩,
    ⟨(some 9), .fieldAddr 1 (.t 0), none⟩,
    ⟨(some 10), .load .sc (.t 9), none⟩,
    ⟨(some 11), .fieldAddr 1 (.t 1), none⟩,
    ⟨(some 12), .load .sc (.t 11), none⟩,
    ⟨(some 13), .min [(.t 10), (.t 12)], none⟩,
    ⟨(some 14), .build [(.d (.int .i64 0)), (.d (.int .i64 0))] [(0, 1, (.t 8)), (1, 1, (.t 13))], none⟩,
    ⟨none, .store (.ag 2) (.t 2) (.t 14), none⟩,
    ⟨(some 3), .mv (.k (.c (.d (.bool true)))), none⟩])
  (.ret)),
  [(2, (some (.ag 2))), (3, none)]⟩
theorem cf_cmet : compFn Try.prog { own := [], comp := [], frz := [], nils := [] } Try.f40 = some sf_cmet := by kernel_rfl
theorem cmet_f (G : Glob) (a b c d : Int) : DenF Try.prog G 40 [.ref [.int .i64 a, .int .i64 b], .ref [.int .i64 c, .int .i64 d]] [] (.tup [.c (.d (.agg [.int .i64 (max a c), .int .i64 (min b d)])), .c (.d (.bool true))]) := by
  refine ⟨enters_of Try.func40 (by kernel_rfl) rfl, ?_⟩
  refine den_walkU Try.func40 cf_cmet rfl rfl ?_
  simp only [sf_cmet, List.nil_append, List.map_cons, List.map_nil, D.up, putW, wx, wy, wz, stV, seval, IntWalk.iteOmega, IntWalk.toNatUp, reduceCtorEq, max2, min2]
  exact ret_d2 (by simp only [wx, wy, wz, stV, seval, IntWalk.iteOmega, IntWalk.toNatUp, reduceCtorEq]) (by simp only [wx, wy, wz, stV, seval, IntWalk.iteOmega, IntWalk.toNatUp, reduceCtorEq])
def sf_chul : SFn := ⟨2, 15,
  .seq (.reg [⟨(some 2), .alloc [(.d (.int .i64 0)), (.d (.int .i64 0))], none⟩,
    ⟨(some 3), .mv (.k (.c (.d (.bool false)))), none⟩])
  (.seq (.reg [⟨(some 4), .fieldAddr 0 (.t 0), none⟩,
    ⟨(some 5), .load .sc (.t 4), none⟩,
    ⟨(some 6), .fieldAddr 0 (.t 1), none⟩,
    ⟨(some 7), .load .sc (.t 6), none⟩,
    ⟨(some 8), .min [(.t 5), (.t 7)], none⟩,
    ⟨(some 9), .fieldAddr 1 (.t 0), none⟩,
    ⟨(some 10), .load .sc (.t 9), none⟩,
    ⟨(some 11), .fieldAddr 1 (.t 1), none⟩,
    ⟨(some 12), .load .sc (.t 11), none⟩,
    ⟨(some 13), .max [(.t 10), (.t 12)], none⟩,
    ⟨(some 14), .build [(.d (.int .i64 0)), (.d (.int .i64 0))] [(0, 1, (.t 8)), (1, 1, (.t 13))], none⟩,
    ⟨none, .store (.ag 2) (.t 2) (.t 14), none⟩,
    ⟨(some 3), .mv (.k (.c (.d (.bool true)))), none⟩])
  (.ret)),
  [(2, (some (.ag 2))), (3, none)]⟩
theorem cf_chul : compFn Try.prog { own := [], comp := [], frz := [], nils := [] } Try.f41 = some sf_chul := by kernel_rfl
theorem chul_f (G : Glob) (a b c d : Int) : DenF Try.prog G 41 [.ref [.int .i64 a, .int .i64 b], .ref [.int .i64 c, .int .i64 d]] [] (.tup [.c (.d (.agg [.int .i64 (min a c), .int .i64 (max b d)])), .c (.d (.bool true))]) := by
  refine ⟨enters_of Try.func41 (by kernel_rfl) rfl, ?_⟩
  refine den_walkU Try.func41 cf_chul rfl rfl ?_
  simp only [sf_chul, List.nil_append, List.map_cons, List.map_nil, D.up, putW, wx, wy, wz, stV, seval, IntWalk.iteOmega, IntWalk.toNatUp, reduceCtorEq, max2, min2]
  exact ret_d2 (by simp only [wx, wy, wz, stV, seval, IntWalk.iteOmega, IntWalk.toNatUp, reduceCtorEq]) (by simp only [wx, wy, wz, stV, seval, IntWalk.iteOmega, IntWalk.toNatUp, reduceCtorEq])
def sf_cadd : SFn := ⟨2, 15,
  .seq (.reg [⟨(some 2), .alloc [(.d (.int .i64 0)), (.d (.int .i64 0))], none⟩,
    ⟨(some 3), .mv (.k (.c (.d (.bool false)))), none⟩])
  (.seq (.reg [⟨(some 4), .fieldAddr 0 (.t 0), none⟩,
    ⟨(some 5), .load .sc (.t 4), none⟩,
    ⟨(some 6), .fieldAddr 0 (.t 1), none⟩,
    ⟨(some 7), .load .sc (.t 6), none⟩,
    ⟨(some 8), .bin .add (.t 5) (.t 7), none⟩,
    ⟨(some 9), .fieldAddr 1 (.t 0), none⟩,
    ⟨(some 10), .load .sc (.t 9), none⟩,
    ⟨(some 11), .fieldAddr 1 (.t 1), none⟩,
    ⟨(some 12), .load .sc (.t 11), none⟩,
    ⟨(some 13), .bin .add (.t 10) (.t 12), none⟩,
    ⟨(some 14), .build [(.d (.int .i64 0)), (.d (.int .i64 0))] [(0, 1, (.t 8)), (1, 1, (.t 13))], none⟩,
    ⟨none, .store (.ag 2) (.t 2) (.t 14), none⟩,
    ⟨(some 3), .mv (.k (.c (.d (.bool true)))), none⟩])
  (.ret)),
  [(2, (some (.ag 2))), (3, none)]⟩
theorem cf_cadd : compFn Try.prog { own := [], comp := [], frz := [], nils := [] } Try.f42 = some sf_cadd := by kernel_rfl
theorem cadd_f (G : Glob) (a b c d : Int) (h : allOk [(a, b), (c, d)] = true) : DenF Try.prog G 42 [.ref [.int .i64 a, .int .i64 b], .ref [.int .i64 c, .int .i64 d]] [] (.tup [.c (.d (.agg [.int .i64 (a + c), .int .i64 (b + d)])), .c (.d (.bool true))]) := by
  refine ⟨enters_of Try.func42 (by kernel_rfl) rfl, ?_⟩
  obtain ⟨h1, h2, h3⟩ := okP_i (allOk2_t h).1
  obtain ⟨k1, k2, k3⟩ := okP_i (allOk2_t h).2
  refine den_walkU Try.func42 cf_cadd rfl rfl ?_
  simp only [sf_cadd, List.nil_append, List.map_cons, List.map_nil, D.up, putW, wx, wy, wz, stV, seval, IntWalk.iteOmega, IntWalk.toNatUp, reduceCtorEq]
  exact ret_d2 (by simp only [wx, wy, wz, stV, seval, IntWalk.iteOmega, IntWalk.toNatUp, reduceCtorEq]) (by simp only [wx, wy, wz, stV, seval, IntWalk.iteOmega, IntWalk.toNatUp, reduceCtorEq])
def sf_csbs : SFn := ⟨2, 15,
  .seq (.reg [⟨(some 2), .alloc [(.d (.int .i64 0)), (.d (.int .i64 0))], none⟩,
    ⟨(some 3), .mv (.k (.c (.d (.bool false)))), none⟩])
  (.seq (.reg [⟨(some 4), .fieldAddr 0 (.t 0), none⟩,
    ⟨(some 5), .load .sc (.t 4), none⟩,
    ⟨(some 6), .fieldAddr 1 (.t 1), none⟩,
    ⟨(some 7), .load .sc (.t 6), none⟩,
    ⟨(some 8), .bin .sub (.t 5) (.t 7), none⟩,
    ⟨(some 9), .fieldAddr 1 (.t 0), none⟩,
    ⟨(some 10), .load .sc (.t 9), none⟩,
    ⟨(some 11), .fieldAddr 0 (.t 1), none⟩,
    ⟨(some 12), .load .sc (.t 11), none⟩,
    ⟨(some 13), .bin .sub (.t 10) (.t 12), none⟩,
    ⟨(some 14), .build [(.d (.int .i64 0)), (.d (.int .i64 0))] [(0, 1, (.t 8)), (1, 1, (.t 13))], none⟩,
    ⟨none, .store (.ag 2) (.t 2) (.t 14), none⟩,
    ⟨(some 3), .mv (.k (.c (.d (.bool true)))), none⟩])
  (.ret)),
  [(2, (some (.ag 2))), (3, none)]⟩
theorem cf_csbs : compFn Try.prog { own := [], comp := [], frz := [], nils := [] } Try.f44 = some sf_csbs := by kernel_rfl
theorem csbs_f (G : Glob) (a b c d : Int) (h : allOk [(a, b), (c, d)] = true) : DenF Try.prog G 44 [.ref [.int .i64 a, .int .i64 b], .ref [.int .i64 c, .int .i64 d]] [] (.tup [.c (.d (.agg [.int .i64 (a - d), .int .i64 (b - c)])), .c (.d (.bool true))]) := by
  refine ⟨enters_of Try.func44 (by kernel_rfl) rfl, ?_⟩
  obtain ⟨h1, h2, h3⟩ := okP_i (allOk2_t h).1
  obtain ⟨k1, k2, k3⟩ := okP_i (allOk2_t h).2
  refine den_walkU Try.func44 cf_csbs rfl rfl ?_
  simp only [sf_csbs, List.nil_append, List.map_cons, List.map_nil, D.up, putW, wx, wy, wz, stV, seval, IntWalk.iteOmega, IntWalk.toNatUp, reduceCtorEq]
  exact ret_d2 (by simp only [wx, wy, wz, stV, seval, IntWalk.iteOmega, IntWalk.toNatUp, reduceCtorEq]) (by simp only [wx, wy, wz, stV, seval, IntWalk.iteOmega, IntWalk.toNatUp, reduceCtorEq])
def sf_imet : SFn := ⟨2, 19,
  .seq (.reg [⟨(some 2), .box .roBox (.t 0), none⟩,
    ⟨(some 3), .box .roBox (.t 1), none⟩,
    ⟨(some 4), .alloc [(.d (.int .i64 0)), (.d (.int .i64 0))], none⟩,
    ⟨(some 5), .mv (.k (.c (.d (.bool false)))), none⟩])
  (.seq (.reg [⟨(some 9), .clos 40 [(.t 2), (.t 3)], none⟩,
    ⟨(some 10), .load (.ag 2) (.t 2), none⟩,
    ⟨(some 11), .load (.ag 2) (.t 3), none⟩,
    ⟨(some 12), .bldSl false 2 2 (.agg [(.int .i64 0), (.int .i64 0)]) [(0, (.t 10)), (1, (.t 11))], none⟩,
    ⟨(some 13), .call 39 [(.t 9), (.t 12)] none, none⟩,
    ⟨(some 8), .mv (.t 13), none⟩,
    ⟨(some 14), .extract (.t 8) 0, none⟩,
    ⟨(some 15), .extract (.t 8) 1, none⟩,
    ⟨(some 6), .alloc [(.d (.int .i64 0)), (.d (.int .i64 0))], none⟩,
    ⟨none, .store (.ag 2) (.t 6) (.t 14), none⟩,
    ⟨(some 7), .mv (.t 15), none⟩])
  (.seq (.reg [⟨(some 16), .load (.ag 2) (.t 6), none⟩,
    ⟨(some 17), .mv (.t 7), none⟩,
    ⟨(some 18), .bin .eql (.t 17) (.k (.c (.d (.int .i64 0)))), none⟩,
    ⟨none, .store (.ag 2) (.t 4) (.t 16), none⟩,
    ⟨(some 5), .mv (.t 18), none⟩])
  (.ret))),
  [(4, (some (.ag 2))), (5, none)]⟩
theorem cf_imet : compFn Try.prog { own := [], comp := [], frz := [], nils := [] } Try.f9 = some sf_imet := by kernel_rfl
theorem imet_c (G : Glob) (a b c d : Int) : Den Try.prog G 9 [.agg [.int .i64 a, .int .i64 b], .agg [.int .i64 c, .int .i64 d]] (.tup [.c (.d (spA (mtB a b c d) (max a c) (min b d))), .c (.d (.bool (mtB a b c d)))]) := by
  refine den_walk Try.func9 cf_imet rfl rfl ?_
  have cm := imad_c G 40 [.ref [.int .i64 a, .int .i64 b], .ref [.int .i64 c, .int .i64 d]] [(a, b), (c, d)] (by simp) true (max a c) (min b d) (fun _ => cmet_f G a b c d)
  obtain ⟨e1, e2, e3⟩ := md_meet a b c d
  rw [e1] at cm
  simp only [List.map_cons, List.map_nil, spD] at cm
  cases hm : mtB a b c d
  · rw [hm] at cm
    rcases e3 hm with e | e
    · rw [e] at cm
      simp only [sf_imet, putAll, wx, wy, wz, stV, seval, IntWalk.iteOmega, IntWalk.toNatUp, reduceCtorEq]
      refine st_call cm (by simp only [wx, wy, wz, stV, seval, IntWalk.iteOmega, IntWalk.toNatUp, reduceCtorEq]) (.inr (fl_spI _ _ _ _)) ?_
      simp only [wx, wy, wz, stV, seval, IntWalk.iteOmega, IntWalk.toNatUp, reduceCtorEq, spA]
      exact ret_d2 (by simp only [wx, wy, wz, stV, seval, IntWalk.iteOmega, IntWalk.toNatUp, reduceCtorEq]) (by simp only [wx, wy, wz, stV, seval, IntWalk.iteOmega, IntWalk.toNatUp, reduceCtorEq])
    · rw [e] at cm
      simp only [sf_imet, putAll, wx, wy, wz, stV, seval, IntWalk.iteOmega, IntWalk.toNatUp, reduceCtorEq]
      refine st_call cm (by simp only [wx, wy, wz, stV, seval, IntWalk.iteOmega, IntWalk.toNatUp, reduceCtorEq]) (.inr (fl_spI _ _ _ _)) ?_
      simp only [wx, wy, wz, stV, seval, IntWalk.iteOmega, IntWalk.toNatUp, reduceCtorEq, spA]
      exact ret_d2 (by simp only [wx, wy, wz, stV, seval, IntWalk.iteOmega, IntWalk.toNatUp, reduceCtorEq]) (by simp only [wx, wy, wz, stV, seval, IntWalk.iteOmega, IntWalk.toNatUp, reduceCtorEq])
  · rw [hm, e2 hm] at cm
    simp only [sf_imet, putAll, wx, wy, wz, stV, seval, IntWalk.iteOmega, IntWalk.toNatUp, reduceCtorEq]
    refine st_call cm (by simp only [wx, wy, wz, stV, seval, IntWalk.iteOmega, IntWalk.toNatUp, reduceCtorEq]) (.inr (fl_spI _ _ _ _)) ?_
    simp only [wx, wy, wz, stV, seval, IntWalk.iteOmega, IntWalk.toNatUp, reduceCtorEq, spA]
    exact ret_d2 (by simp only [wx, wy, wz, stV, seval, IntWalk.iteOmega, IntWalk.toNatUp, reduceCtorEq]) (by simp only [wx, wy, wz, stV, seval, IntWalk.iteOmega, IntWalk.toNatUp, reduceCtorEq])
def sf_ihul : SFn := ⟨2, 13,
  .seq (.reg [⟨(some 2), .box .roBox (.t 0), none⟩,
    ⟨(some 3), .box .roBox (.t 1), none⟩,
    ⟨(some 4), .alloc [(.d (.int .i64 0)), (.d (.int .i64 0))], none⟩,
    ⟨(some 5), .mv (.k (.c (.d (.int .i64 0)))), none⟩])
  (.seq (.reg [⟨(some 6), .clos 41 [(.t 2), (.t 3)], none⟩,
    ⟨(some 7), .load (.ag 2) (.t 2), none⟩,
    ⟨(some 8), .load (.ag 2) (.t 3), none⟩,
    ⟨(some 9), .bldSl false 2 2 (.agg [(.int .i64 0), (.int .i64 0)]) [(0, (.t 7)), (1, (.t 8))], none⟩,
    ⟨(some 10), .call 39 [(.t 6), (.t 9)] none, none⟩,
    ⟨(some 11), .extract (.t 10) 0, none⟩,
    ⟨(some 12), .extract (.t 10) 1, none⟩,
    ⟨none, .store (.ag 2) (.t 4) (.t 11), none⟩,
    ⟨(some 5), .mv (.t 12), none⟩])
  (.ret)),
  [(4, (some (.ag 2))), (5, none)]⟩
theorem cf_ihul : compFn Try.prog { own := [], comp := [], frz := [], nils := [] } Try.f11 = some sf_ihul := by kernel_rfl
theorem ihul_c (G : Glob) (a b c d : Int) : Den Try.prog G 11 [.agg [.int .i64 a, .int .i64 b], .agg [.int .i64 c, .int .i64 d]] (.tup [.c (.d (spA (hulB a b c d) (min a c) (max b d))), .c (.d (.int .i64 (if hulB a b c d = true then 0 else 3)))]) := by
  refine den_walk Try.func11 cf_ihul rfl rfl ?_
  have cm := imad_c G 41 [.ref [.int .i64 a, .int .i64 b], .ref [.int .i64 c, .int .i64 d]] [(a, b), (c, d)] (by simp) true (min a c) (max b d) (fun _ => chul_f G a b c d)
  obtain ⟨e1, e2⟩ := md_hull a b c d
  rw [e1, e2] at cm
  simp only [List.map_cons, List.map_nil, spD] at cm
  generalize hulB a b c d = k at *
  generalize (if k = true then (0 : Int) else 3) = e at *
  simp only [sf_ihul, putAll, wx, wy, wz, stV, seval, IntWalk.iteOmega, IntWalk.toNatUp, reduceCtorEq]
  refine st_call cm (by simp only [wx, wy, wz, stV, seval, IntWalk.iteOmega, IntWalk.toNatUp, reduceCtorEq]) (.inr (fl_spI _ _ _ _)) ?_
  simp only [wx, wy, wz, stV, seval, IntWalk.iteOmega, IntWalk.toNatUp, reduceCtorEq, spA]
  exact ret_d2 (by simp only [wx, wy, wz, stV, seval, IntWalk.iteOmega, IntWalk.toNatUp, reduceCtorEq]) (by simp only [wx, wy, wz, stV, seval, IntWalk.iteOmega, IntWalk.toNatUp, reduceCtorEq])
def sf_iadd : SFn := ⟨2, 13,
  .seq (.reg [⟨(some 2), .box .roBox (.t 0), none⟩,
    ⟨(some 3), .box .roBox (.t 1), none⟩,
    ⟨(some 4), .alloc [(.d (.int .i64 0)), (.d (.int .i64 0))], none⟩,
    ⟨(some 5), .mv (.k (.c (.d (.int .i64 0)))), none⟩])
  (.seq (.reg [⟨(some 6), .clos 42 [(.t 2), (.t 3)], none⟩,
    ⟨(some 7), .load (.ag 2) (.t 2), none⟩,
    ⟨(some 8), .load (.ag 2) (.t 3), none⟩,
    ⟨(some 9), .bldSl false 2 2 (.agg [(.int .i64 0), (.int .i64 0)]) [(0, (.t 7)), (1, (.t 8))], none⟩,
    ⟨(some 10), .call 39 [(.t 6), (.t 9)] none, none⟩,
    ⟨(some 11), .extract (.t 10) 0, none⟩,
    ⟨(some 12), .extract (.t 10) 1, none⟩,
    ⟨none, .store (.ag 2) (.t 4) (.t 11), none⟩,
    ⟨(some 5), .mv (.t 12), none⟩])
  (.ret)),
  [(4, (some (.ag 2))), (5, none)]⟩
theorem cf_iadd : compFn Try.prog { own := [], comp := [], frz := [], nils := [] } Try.f13 = some sf_iadd := by kernel_rfl
theorem iadd_c (G : Glob) (a b c d : Int) : Den Try.prog G 13 [.agg [.int .i64 a, .int .i64 b], .agg [.int .i64 c, .int .i64 d]] (.tup [.c (.d (spA (smsB a b c d (a + c) (b + d)) (a + c) (b + d))), .c (.d (.int .i64 (sumE a b c d (a + c) (b + d))))]) := by
  refine den_walk Try.func13 cf_iadd rfl rfl ?_
  have cm := imad_c G 42 [.ref [.int .i64 a, .int .i64 b], .ref [.int .i64 c, .int .i64 d]] [(a, b), (c, d)] (by simp) true (a + c) (b + d) (fun h => cadd_f G a b c d h)
  obtain ⟨e1, e2⟩ := md_sum a b c d (a + c) (b + d)
  rw [e1, e2] at cm
  simp only [List.map_cons, List.map_nil, spD] at cm
  generalize smsB a b c d (a + c) (b + d) = k at *
  generalize sumE a b c d (a + c) (b + d) = e at *
  generalize a + c = x at *
  generalize b + d = y at *
  simp only [sf_iadd, putAll, wx, wy, wz, stV, seval, IntWalk.iteOmega, IntWalk.toNatUp, reduceCtorEq]
  refine st_call cm (by simp only [wx, wy, wz, stV, seval, IntWalk.iteOmega, IntWalk.toNatUp, reduceCtorEq]) (.inr (fl_spI _ _ _ _)) ?_
  simp only [wx, wy, wz, stV, seval, IntWalk.iteOmega, IntWalk.toNatUp, reduceCtorEq, spA]
  exact ret_d2 (by simp only [wx, wy, wz, stV, seval, IntWalk.iteOmega, IntWalk.toNatUp, reduceCtorEq]) (by simp only [wx, wy, wz, stV, seval, IntWalk.iteOmega, IntWalk.toNatUp, reduceCtorEq])
def sf_isbs : SFn := ⟨2, 13,
  .seq (.reg [⟨(some 2), .box .roBox (.t 0), none⟩,
    ⟨(some 3), .box .roBox (.t 1), none⟩,
    ⟨(some 4), .alloc [(.d (.int .i64 0)), (.d (.int .i64 0))], none⟩,
    ⟨(some 5), .mv (.k (.c (.d (.int .i64 0)))), none⟩])
  (.seq (.reg [⟨(some 6), .clos 44 [(.t 2), (.t 3)], none⟩,
    ⟨(some 7), .load (.ag 2) (.t 2), none⟩,
    ⟨(some 8), .load (.ag 2) (.t 3), none⟩,
    ⟨(some 9), .bldSl false 2 2 (.agg [(.int .i64 0), (.int .i64 0)]) [(0, (.t 7)), (1, (.t 8))], none⟩,
    ⟨(some 10), .call 39 [(.t 6), (.t 9)] none, none⟩,
    ⟨(some 11), .extract (.t 10) 0, none⟩,
    ⟨(some 12), .extract (.t 10) 1, none⟩,
    ⟨none, .store (.ag 2) (.t 4) (.t 11), none⟩,
    ⟨(some 5), .mv (.t 12), none⟩])
  (.ret)),
  [(4, (some (.ag 2))), (5, none)]⟩
theorem cf_isbs : compFn Try.prog { own := [], comp := [], frz := [], nils := [] } Try.f15 = some sf_isbs := by kernel_rfl
theorem isbs_c (G : Glob) (a b c d : Int) : Den Try.prog G 15 [.agg [.int .i64 a, .int .i64 b], .agg [.int .i64 c, .int .i64 d]] (.tup [.c (.d (spA (smsB a b c d (a - d) (b - c)) (a - d) (b - c))), .c (.d (.int .i64 (sumE a b c d (a - d) (b - c))))]) := by
  refine den_walk Try.func15 cf_isbs rfl rfl ?_
  have cm := imad_c G 44 [.ref [.int .i64 a, .int .i64 b], .ref [.int .i64 c, .int .i64 d]] [(a, b), (c, d)] (by simp) true (a - d) (b - c) (fun h => csbs_f G a b c d h)
  obtain ⟨e1, e2⟩ := md_sum a b c d (a - d) (b - c)
  rw [e1, e2] at cm
  simp only [List.map_cons, List.map_nil, spD] at cm
  generalize smsB a b c d (a - d) (b - c) = k at *
  generalize sumE a b c d (a - d) (b - c) = e at *
  generalize a - d = x at *
  generalize b - c = y at *
  simp only [sf_isbs, putAll, wx, wy, wz, stV, seval, IntWalk.iteOmega, IntWalk.toNatUp, reduceCtorEq]
  refine st_call cm (by simp only [wx, wy, wz, stV, seval, IntWalk.iteOmega, IntWalk.toNatUp, reduceCtorEq]) (.inr (fl_spI _ _ _ _)) ?_
  simp only [wx, wy, wz, stV, seval, IntWalk.iteOmega, IntWalk.toNatUp, reduceCtorEq, spA]
  exact ret_d2 (by simp only [wx, wy, wz, stV, seval, IntWalk.iteOmega, IntWalk.toNatUp, reduceCtorEq]) (by simp only [wx, wy, wz, stV, seval, IntWalk.iteOmega, IntWalk.toNatUp, reduceCtorEq])
/-! ### Shift, Grow -/
def sf_cshf : SFn := ⟨2, 15,
  .seq (.reg [⟨(some 2), .alloc [(.d (.int .i64 0)), (.d (.int .i64 0))], none⟩,
    ⟨(some 3), .mv (.k (.c (.d (.bool false)))), none⟩])
  (.seq (.reg [⟨(some 4), .fieldAddr 0 (.t 0), none⟩,
    ⟨(some 5), .load .sc (.t 4), none⟩,
    ⟨(some 6), .load .sc (.t 1), none⟩,
    ⟨(some 7), .bin .add (.t 5) (.t 6), none⟩,
    ⟨(some 8), .fieldAddr 1 (.t 0), none⟩,
    ⟨(some 9), .load .sc (.t 8), none⟩,
    ⟨(some 10), .load .sc (.t 1), none⟩,
    ⟨(some 11), .bin .add (.t 9) (.t 10), none⟩,
    ⟨(some 12), .build [(.d (.int .i64 0)), (.d (.int .i64 0))] [(0, 1, (.t 7)), (1, 1, (.t 11))], none⟩,
    ⟨(some 13), .load .sc (.t 1), none⟩,
    ⟨(some 14), .call 46 [(.t 13)] none, none⟩,
    ⟨none, .store (.ag 2) (.t 2) (.t 12), none⟩,
    ⟨(some 3), .mv (.t 14), none⟩])
  (.ret)),
  [(2, (some (.ag 2))), (3, none)]⟩
theorem cf_cshf : compFn Try.prog { own := [], comp := [], frz := [], nils := [] } Try.f45 = some sf_cshf := by kernel_rfl
theorem cshf_f (G : Glob) (a b d : Int) (h : okP (a, b) = true) : ∃ x y, (valT d = true → x = a + d ∧ y = b + d) ∧ DenF Try.prog G 45 [.ref [.int .i64 a, .int .i64 b], .ref [.int .i64 d]] [] (.tup [.c (.d (.agg [.int .i64 x, .int .i64 y])), .c (.d (.bool (valT d)))]) := by
  obtain ⟨h1, h2, h3⟩ := okP_i h
  have ct := val_c G d
  cases hv : valT d
  · rw [hv] at ct
    refine ⟨IntKind.i64.wrap (a + d), IntKind.i64.wrap (b + d), fun h => (by cases h), enters_of Try.func45 (by kernel_rfl) rfl, ?_⟩
    refine den_walkU Try.func45 cf_cshf rfl rfl ?_
    simp only [sf_cshf, List.nil_append, List.map_cons, List.map_nil, D.up, putW, wx, stV, seval, IntWalk.iteOmega, IntWalk.toNatUp, reduceCtorEq]
    refine st_call (ct) rfl (.inl rfl) ?_
    simp only [wx, wy, wz, stV, seval, IntWalk.iteOmega, IntWalk.toNatUp, reduceCtorEq]
    exact ret_d2 (by simp only [wx, wy, wz, stV, seval, IntWalk.iteOmega, IntWalk.toNatUp, reduceCtorEq]) (by simp only [wx, wy, wz, stV, seval, IntWalk.iteOmega, IntWalk.toNatUp, reduceCtorEq])
  · rw [hv] at ct
    have k : -1152921504606846976 ≤ d ∧ d ≤ 1152921504606846976 := of_decide_eq_true hv
    refine ⟨a + d, b + d, fun _ => ⟨rfl, rfl⟩, enters_of Try.func45 (by kernel_rfl) rfl, ?_⟩
    refine den_walkU Try.func45 cf_cshf rfl rfl ?_
    simp only [sf_cshf, List.nil_append, List.map_cons, List.map_nil, D.up, putW, wx, wy, wz, stV, seval, IntWalk.iteOmega, IntWalk.toNatUp, reduceCtorEq]
    refine st_call (ct) rfl (.inl rfl) ?_
    simp only [wx, wy, wz, stV, seval, IntWalk.iteOmega, IntWalk.toNatUp, reduceCtorEq]
    exact ret_d2 (by simp only [wx, wy, wz, stV, seval, IntWalk.iteOmega, IntWalk.toNatUp, reduceCtorEq]) (by simp only [wx, wy, wz, stV, seval, IntWalk.iteOmega, IntWalk.toNatUp, reduceCtorEq])
def sf_ishf : SFn := ⟨2, 12,
  .seq (.reg [⟨(some 2), .box .roBox (.t 0), none⟩,
    ⟨(some 3), .box .roBox (.t 1), none⟩,
    ⟨(some 4), .alloc [(.d (.int .i64 0)), (.d (.int .i64 0))], none⟩,
    ⟨(some 5), .mv (.k (.c (.d (.int .i64 0)))), none⟩])
  (.seq (.reg [⟨(some 6), .clos 45 [(.t 2), (.t 3)], none⟩,
    ⟨(some 7), .load (.ag 2) (.t 2), none⟩,
    ⟨(some 8), .bldSl false 1 2 (.agg [(.int .i64 0), (.int .i64 0)]) [(0, (.t 7))], none⟩,
    ⟨(some 9), .call 39 [(.t 6), (.t 8)] none, none⟩,
    ⟨(some 10), .extract (.t 9) 0, none⟩,
    ⟨(some 11), .extract (.t 9) 1, none⟩,
    ⟨none, .store (.ag 2) (.t 4) (.t 10), none⟩,
    ⟨(some 5), .mv (.t 11), none⟩])
  (.ret)),
  [(4, (some (.ag 2))), (5, none)]⟩
theorem cf_ishf : compFn Try.prog { own := [], comp := [], frz := [], nils := [] } Try.f17 = some sf_ishf := by kernel_rfl
theorem ishf_c (G : Glob) (a b d : Int) : Den Try.prog G 17 [.agg [.int .i64 a, .int .i64 b], .int .i64 d] (.tup [.c (.d (spA (shfB a b d) (a + d) (b + d))), .c (.d (.int .i64 (shfE a b d)))]) := by
  refine den_walk Try.func17 cf_ishf rfl rfl ?_
  have key : ∃ x y, (spA (shfB a b d) (a + d) (b + d) = spA (mdB [(a, b)] (valT d) x y) x y ∧ shfE a b d = mdE [(a, b)] (valT d) x y) ∧ (allOk [(a, b)] = true → DenF Try.prog G 45 [.ref [.int .i64 a, .int .i64 b], .ref [.int .i64 d]] [] (.tup [.c (.d (.agg [.int .i64 x, .int .i64 y])), .c (.d (.bool (valT d)))])) := by
    unfold mdB mdE shfB shfE
    rw [allOk1]
    cases hv : okP (a, b)
    · exact ⟨0, 0, ⟨rfl, rfl⟩, fun h => by cases h⟩
    · obtain ⟨x, y, e, hd⟩ := cshf_f G a b d hv
      cases hd2 : valT d
      · rw [hd2] at hd
        exact ⟨x, y, ⟨rfl, rfl⟩, fun _ => hd⟩
      · obtain ⟨rfl, rfl⟩ := e hd2
        rw [hd2] at hd
        exact ⟨_, _, ⟨rfl, rfl⟩, fun _ => hd⟩
  obtain ⟨x, y, ⟨e1, e2⟩, hd⟩ := key
  have cm := imad_c G 45 [.ref [.int .i64 a, .int .i64 b], .ref [.int .i64 d]] [(a, b)] (by simp) (valT d) x y hd
  rw [e1, e2]
  simp only [List.map_cons, List.map_nil, spD] at cm
  generalize mdB [(a, b)] (valT d) x y = k at *
  generalize mdE [(a, b)] (valT d) x y = e at *
  simp only [sf_ishf, putAll, wx, wy, wz, stV, seval, IntWalk.iteOmega, IntWalk.toNatUp, reduceCtorEq]
  refine st_call cm (by simp only [wx, wy, wz, stV, seval, IntWalk.iteOmega, IntWalk.toNatUp, reduceCtorEq]) (.inr (fl_spI _ _ _ _)) ?_
  simp only [wx, wy, wz, stV, seval, IntWalk.iteOmega, IntWalk.toNatUp, reduceCtorEq, spA]
  exact ret_d2 (by simp only [wx, wy, wz, stV, seval, IntWalk.iteOmega, IntWalk.toNatUp, reduceCtorEq]) (by simp only [wx, wy, wz, stV, seval, IntWalk.iteOmega, IntWalk.toNatUp, reduceCtorEq])
def grwB (d : Int) : Bool := decide (0 ≤ d ∧ d ≤ 1152921504606846976)
def sf_igrw : SFn := ⟨1, 9,
  .seq (.reg [⟨(some 2), .mv (.k (.c (.d (.bool false)))), none⟩])
  (.seq (.reg [⟨(some 3), .mv (.t 0), none⟩,
    ⟨(some 4), .bin .geq (.t 3) (.k (.c (.d (.int .i64 0)))), none⟩,
    ⟨(some 5), .mv (.t 4), none⟩,
    ⟨(some 6), .mv (.t 0), (some (5, true))⟩,
    ⟨(some 7), .call 46 [(.t 6)] none, (some (5, true))⟩,
    ⟨(some 8), .pick (.t 5) (.t 7) (.k (.c (.d (.bool false)))), none⟩,
    ⟨(some 2), .mv (.t 8), none⟩])
  (.ret)),
  [(2, none)]⟩
theorem cf_igrw : compFn Try.prog { own := [], comp := [], frz := [], nils := [] } Try.f49 = some sf_igrw := by kernel_rfl
theorem igrw_c (G : Glob) (d : Int) : Den Try.prog G 49 [.int .i64 d] (.w (.c (.d (.bool (grwB d))))) := by
  refine den_walk Try.func49 cf_igrw rfl rfl ?_
  have ct := val_c G d
  by_cases h : 0 ≤ d
  · have h' : d ≥ 0 := h
    cases hv : valT d
    · have k : ¬ (-1152921504606846976 ≤ d ∧ d ≤ 1152921504606846976) := of_decide_eq_false hv
      rw [hv] at ct
      rw [show grwB d = false from decide_eq_false (by omega)]
      simp only [sf_igrw, putAll, wx, wy, wz, stV, seval, IntWalk.iteOmega, IntWalk.toNatUp, reduceCtorEq, eq_true h']
      refine st_call (ct) rfl (.inl rfl) ?_
      simp only [wx, wy, wz, stV, seval, IntWalk.iteOmega, IntWalk.toNatUp, reduceCtorEq]
      exact ret_d1 (by simp only [wx, wy, wz, stV, seval, IntWalk.iteOmega, IntWalk.toNatUp, reduceCtorEq])
    · have k : -1152921504606846976 ≤ d ∧ d ≤ 1152921504606846976 := of_decide_eq_true hv
      rw [hv] at ct
      rw [show grwB d = true from decide_eq_true (by omega)]
      simp only [sf_igrw, putAll, wx, wy, wz, stV, seval, IntWalk.iteOmega, IntWalk.toNatUp, reduceCtorEq, eq_true h']
      refine st_call (ct) rfl (.inl rfl) ?_
      simp only [wx, wy, wz, stV, seval, IntWalk.iteOmega, IntWalk.toNatUp, reduceCtorEq]
      exact ret_d1 (by simp only [wx, wy, wz, stV, seval, IntWalk.iteOmega, IntWalk.toNatUp, reduceCtorEq])
  · have h' : ¬ d ≥ 0 := h
    rw [show grwB d = false from decide_eq_false (by omega)]
    simp only [sf_igrw, putAll, wx, wy, wz, stV, seval, IntWalk.iteOmega, IntWalk.toNatUp, reduceCtorEq, eq_false h']
    exact ret_d1 (by simp only [wx, wy, wz, stV, seval, IntWalk.iteOmega, IntWalk.toNatUp, reduceCtorEq])
theorem groK_v (x y : Int) : groK x y = (grwB x && grwB y) := by
  unfold groK grwB
  rw [← Bool.decide_and]
  apply decide_eq_decide.2
  omega
def sf_cgro : SFn := ⟨3, 20,
  .seq (.reg [⟨(some 3), .alloc [(.d (.int .i64 0)), (.d (.int .i64 0))], none⟩,
    ⟨(some 4), .mv (.k (.c (.d (.bool false)))), none⟩])
  (.seq (.reg [⟨(some 5), .fieldAddr 0 (.t 0), none⟩,
    ⟨(some 6), .load .sc (.t 5), none⟩,
    ⟨(some 7), .load .sc (.t 1), none⟩,
    ⟨(some 8), .bin .sub (.t 6) (.t 7), none⟩,
    ⟨(some 9), .fieldAddr 1 (.t 0), none⟩,
    ⟨(some 10), .load .sc (.t 9), none⟩,
    ⟨(some 11), .load .sc (.t 2), none⟩,
    ⟨(some 12), .bin .add (.t 10) (.t 11), none⟩,
    ⟨(some 13), .build [(.d (.int .i64 0)), (.d (.int .i64 0))] [(0, 1, (.t 8)), (1, 1, (.t 12))], none⟩,
    ⟨(some 14), .load .sc (.t 1), none⟩,
    ⟨(some 15), .call 49 [(.t 14)] none, none⟩,
    ⟨(some 16), .mv (.t 15), none⟩,
    ⟨(some 17), .load .sc (.t 2), (some (16, true))⟩,
    ⟨(some 18), .call 49 [(.t 17)] none, (some (16, true))⟩,
    ⟨(some 19), .pick (.t 16) (.t 18) (.k (.c (.d (.bool false)))), none⟩,
    ⟨none, .store (.ag 2) (.t 3) (.t 13), none⟩,
    ⟨(some 4), .mv (.t 19), none⟩])
  (.ret)),
  [(3, (some (.ag 2))), (4, none)]⟩
theorem cf_cgro : compFn Try.prog { own := [], comp := [], frz := [], nils := [] } Try.f48 = some sf_cgro := by kernel_rfl
theorem cgro_f (G : Glob) (a b d e : Int) (h : okP (a, b) = true) : ∃ x y, (groK d e = true → x = a - d ∧ y = b + e) ∧ DenF Try.prog G 48 [.ref [.int .i64 a, .int .i64 b], .ref [.int .i64 d], .ref [.int .i64 e]] [] (.tup [.c (.d (.agg [.int .i64 x, .int .i64 y])), .c (.d (.bool (groK d e)))]) := by
  obtain ⟨h1, h2, h3⟩ := okP_i h
  have c1 := igrw_c G d
  have c2 := igrw_c G e
  rw [groK_v]
  cases hv : grwB d
  · rw [hv] at c1
    refine ⟨IntKind.i64.wrap (a - d), IntKind.i64.wrap (b + e), fun h => (by cases h), enters_of Try.func48 (by kernel_rfl) rfl, ?_⟩
    refine den_walkU Try.func48 cf_cgro rfl rfl ?_
    simp only [sf_cgro, List.nil_append, List.map_cons, List.map_nil, D.up, putW, wx, stV, seval, IntWalk.iteOmega, IntWalk.toNatUp, reduceCtorEq]
    refine st_call (c1) rfl (.inl rfl) ?_
    simp only [wx, wy, wz, stV, seval, IntWalk.iteOmega, IntWalk.toNatUp, reduceCtorEq]
    exact ret_d2 (by simp only [wx, wy, wz, stV, seval, IntWalk.iteOmega, IntWalk.toNatUp, reduceCtorEq]) (by simp only [wx, wy, wz, stV, seval, IntWalk.iteOmega, IntWalk.toNatUp, reduceCtorEq])
  · rw [hv] at c1
    cases hv2 : grwB e
    · rw [hv2] at c2
      refine ⟨IntKind.i64.wrap (a - d), IntKind.i64.wrap (b + e), fun h => (by cases h), enters_of Try.func48 (by kernel_rfl) rfl, ?_⟩
      refine den_walkU Try.func48 cf_cgro rfl rfl ?_
      simp only [sf_cgro, List.nil_append, List.map_cons, List.map_nil, D.up, putW, wx, stV, seval, IntWalk.iteOmega, IntWalk.toNatUp, reduceCtorEq]
      refine st_call c1 rfl (.inl rfl) ?_
      simp only [wx, stV, seval, IntWalk.iteOmega, IntWalk.toNatUp, reduceCtorEq]
      refine st_call (c2) rfl (.inl rfl) ?_
      simp only [wx, wy, wz, stV, seval, IntWalk.iteOmega, IntWalk.toNatUp, reduceCtorEq]
      exact ret_d2 (by simp only [wx, wy, wz, stV, seval, IntWalk.iteOmega, IntWalk.toNatUp, reduceCtorEq]) (by simp only [wx, wy, wz, stV, seval, IntWalk.iteOmega, IntWalk.toNatUp, reduceCtorEq])
    · rw [hv2] at c2
      have k1 : 0 ≤ d ∧ d ≤ 1152921504606846976 := of_decide_eq_true hv
      have k2 : 0 ≤ e ∧ e ≤ 1152921504606846976 := of_decide_eq_true hv2
      refine ⟨a - d, b + e, fun _ => ⟨rfl, rfl⟩, enters_of Try.func48 (by kernel_rfl) rfl, ?_⟩
      refine den_walkU Try.func48 cf_cgro rfl rfl ?_
      simp only [sf_cgro, List.nil_append, List.map_cons, List.map_nil, D.up, putW, wx, wy, wz, stV, seval, IntWalk.iteOmega, IntWalk.toNatUp, reduceCtorEq]
      refine st_call (c1) rfl (.inl rfl) ?_
      simp only [wx, wy, wz, stV, seval, IntWalk.iteOmega, IntWalk.toNatUp, reduceCtorEq]
      refine st_call (c2) rfl (.inl rfl) ?_
      simp only [wx, wy, wz, stV, seval, IntWalk.iteOmega, IntWalk.toNatUp, reduceCtorEq]
      exact ret_d2 (by simp only [wx, wy, wz, stV, seval, IntWalk.iteOmega, IntWalk.toNatUp, reduceCtorEq]) (by simp only [wx, wy, wz, stV, seval, IntWalk.iteOmega, IntWalk.toNatUp, reduceCtorEq])
def sf_igro : SFn := ⟨3, 14,
  .seq (.reg [⟨(some 3), .box .roBox (.t 0), none⟩,
    ⟨(some 4), .box .roBox (.t 1), none⟩,
    ⟨(some 5), .box .roBox (.t 2), none⟩,
    ⟨(some 6), .alloc [(.d (.int .i64 0)), (.d (.int .i64 0))], none⟩,
    ⟨(some 7), .mv (.k (.c (.d (.int .i64 0)))), none⟩])
  (.seq (.reg [⟨(some 8), .clos 48 [(.t 3), (.t 4), (.t 5)], none⟩,
    ⟨(some 9), .load (.ag 2) (.t 3), none⟩,
    ⟨(some 10), .bldSl false 1 2 (.agg [(.int .i64 0), (.int .i64 0)]) [(0, (.t 9))], none⟩,
    ⟨(some 11), .call 39 [(.t 8), (.t 10)] none, none⟩,
    ⟨(some 12), .extract (.t 11) 0, none⟩,
    ⟨(some 13), .extract (.t 11) 1, none⟩,
    ⟨none, .store (.ag 2) (.t 6) (.t 12), none⟩,
    ⟨(some 7), .mv (.t 13), none⟩])
  (.ret)),
  [(6, (some (.ag 2))), (7, none)]⟩
theorem cf_igro : compFn Try.prog { own := [], comp := [], frz := [], nils := [] } Try.f19 = some sf_igro := by kernel_rfl
theorem igro_c (G : Glob) (a b x y : Int) : Den Try.prog G 19 [.agg [.int .i64 a, .int .i64 b], .int .i64 x, .int .i64 y] (.tup [.c (.d (spA (groB a b x y) (a - x) (b + y))), .c (.d (.int .i64 (groE a b x y)))]) := by
  refine den_walk Try.func19 cf_igro rfl rfl ?_
  have key : ∃ p q, (spA (groB a b x y) (a - x) (b + y) = spA (mdB [(a, b)] (groK x y) p q) p q ∧ groE a b x y = mdE [(a, b)] (groK x y) p q) ∧ (allOk [(a, b)] = true → DenF Try.prog G 48 [.ref [.int .i64 a, .int .i64 b], .ref [.int .i64 x], .ref [.int .i64 y]] [] (.tup [.c (.d (.agg [.int .i64 p, .int .i64 q])), .c (.d (.bool (groK x y)))])) := by
    unfold mdB mdE groB groE
    rw [allOk1]
    cases hv : okP (a, b)
    · exact ⟨0, 0, ⟨rfl, rfl⟩, fun h => by cases h⟩
    · obtain ⟨p, q, e, hd⟩ := cgro_f G a b x y hv
      cases hd2 : groK x y
      · rw [hd2] at hd
        exact ⟨p, q, ⟨rfl, rfl⟩, fun _ => hd⟩
      · obtain ⟨rfl, rfl⟩ := e hd2
        rw [hd2] at hd
        exact ⟨_, _, ⟨rfl, rfl⟩, fun _ => hd⟩
  obtain ⟨p, q, ⟨e1, e2⟩, hd⟩ := key
  have cm := imad_c G 48 [.ref [.int .i64 a, .int .i64 b], .ref [.int .i64 x], .ref [.int .i64 y]] [(a, b)] (by simp) (groK x y) p q hd
  rw [e1, e2]
  simp only [List.map_cons, List.map_nil, spD] at cm
  generalize mdB [(a, b)] (groK x y) p q = k at *
  generalize mdE [(a, b)] (groK x y) p q = e at *
  simp only [sf_igro, putAll, wx, wy, wz, stV, seval, IntWalk.iteOmega, IntWalk.toNatUp, reduceCtorEq]
  refine st_call cm (by simp only [wx, wy, wz, stV, seval, IntWalk.iteOmega, IntWalk.toNatUp, reduceCtorEq]) (.inr (fl_spI _ _ _ _)) ?_
  simp only [wx, wy, wz, stV, seval, IntWalk.iteOmega, IntWalk.toNatUp, reduceCtorEq, spA]
  exact ret_d2 (by simp only [wx, wy, wz, stV, seval, IntWalk.iteOmega, IntWalk.toNatUp, reduceCtorEq]) (by simp only [wx, wy, wz, stV, seval, IntWalk.iteOmega, IntWalk.toNatUp, reduceCtorEq])
/-! ### Common -/
def comC (l : List Spn) (i : Nat) : Spn := if i = 0 then l.getD 0 (0, 0) else cmV (comT l i)
theorem meet_self (p : Spn) : meetB p p = okP p ∧ meetV p p = p := by
  unfold meetB meetV
  rw [Int.max_self, Int.min_self]
  refine ⟨?_, rfl⟩
  cases h : okP p
  · rfl
  · have := (okP_t h).2.2
    rw [decide_eq_true this]; rfl
theorem comC_step {l : List Spn} {i : Nat} (h : i < l.length) (hs : i = 0 ∨ (comT l i).isSome = true) : (meetB (comC l i) (l.getD i (0, 0)) = false → comL l = none) ∧ (meetB (comC l i) (l.getD i (0, 0)) = true → (comT l (i + 1)).isSome = true ∧ comC l (i + 1) = meetV (comC l i) (l.getD i (0, 0))) := by
  by_cases h0 : i = 0
  · subst h0
    have e1 : comT l 1 = if okP (l.getD 0 (0, 0)) = true then some (l.getD 0 (0, 0)) else none := by
      unfold comT
      rw [show (1 : Nat) = 0 + 1 from rfl, takeS h]
      rfl
    rw [show comC l 0 = l.getD 0 (0, 0) from rfl, (meet_self _).1, (meet_self _).2]
    refine ⟨fun hv => comT_none (i := 1) (Nat.le_refl _) (by rw [e1, hv]; rfl), fun hv => ?_⟩
    show (comT l 1).isSome = true ∧ cmV (comT l 1) = _
    rw [e1, hv]
    exact ⟨rfl, rfl⟩
  · have hs' := hs.resolve_left h0
    have hc := comT_succ (by omega) h
    obtain ⟨p, hp⟩ := Option.isSome_iff_exists.1 hs'
    have e : comC l i = p := by unfold comC; rw [if_neg h0, hp]; rfl
    rw [hp, comF_s] at hc
    rw [e]
    refine ⟨fun hm => comT_none (i := i + 1) (by omega) (by rw [hc, hm]; rfl), fun hm => ?_⟩
    rw [hm, if_pos rfl] at hc
    show (comT l (i + 1)).isSome = true ∧ cmV (comT l (i + 1)) = _
    rw [hc]
    exact ⟨rfl, rfl⟩
def icoSt (l : List Spn) (i : Nat) : St := ⟨ofL [(2, .w (.c (.ptr 1 1 0 0))), (4, .w (.c (.ptr 2 1 0 0))), (15, .w (.c (.d (.sl (l.map spD))))), (16, .w (.c (.d (.int .i64 (l.length : Int))))), (17, .w (.c (.d (.int .i64 (i : Int)))))],
  hL [(1, .box [.d (.int .i64 0), .d (.int .i64 0)]), (2, .box [.d (.int .i64 (comC l i).1), .d (.int .i64 (comC l i).2)])], uL [1, 2]⟩
def lp_icom_0 : SCode :=
  .seq (.reg [⟨(some 18), .bin .lss (.t 17) (.t 16), none⟩])
  (.seq (.cond (.t 18) (.skip)
   (.exit 0))
  (.seq (.block 1 (.seq (.reg [⟨(some 19), .idxSl 2 (.t 15) (.t 17), none⟩,
     ⟨(some 20), .load (.ag 2) (.t 19), none⟩,
     ⟨(some 7), .alloc [(.d (.int .i64 0)), (.d (.int .i64 0))], none⟩,
     ⟨none, .store (.ag 2) (.t 7) (.t 20), none⟩])
   (.seq (.reg [⟨(some 22), .load (.ag 2) (.t 4), none⟩,
     ⟨(some 23), .load (.ag 2) (.t 7), none⟩,
     ⟨(some 24), .call 9 [(.t 22), (.t 23)] none, none⟩,
     ⟨(some 21), .mv (.t 24), none⟩,
     ⟨(some 25), .extract (.t 21) 0, none⟩,
     ⟨(some 26), .extract (.t 21) 1, none⟩,
     ⟨none, .store (.ag 2) (.t 4) (.t 25), none⟩,
     ⟨(some 5), .mv (.t 26), none⟩])
   (.seq (.reg [⟨(some 27), .mv (.t 5), none⟩,
     ⟨(some 28), .un .not (.t 27), none⟩])
   (.cond (.t 28) (.seq (.reg [⟨(some 29), .build [(.d (.int .i64 0)), (.d (.int .i64 0))] [], none⟩,
      ⟨none, .store (.ag 2) (.t 2) (.t 29), none⟩,
      ⟨(some 3), .mv (.k (.c (.d (.bool false)))), none⟩])
    (.ret))
    (.skip))))))
  (.reg [⟨(some 30), .bin .add (.t 17) (.k (.c (.d (.int .i64 1)))), none⟩,
    ⟨(some 17), .mv (.t 30), none⟩])))
def sf_icom : SFn := ⟨1, 32,
  .seq (.reg [⟨(some 2), .alloc [(.d (.int .i64 0)), (.d (.int .i64 0))], none⟩,
    ⟨(some 3), .mv (.k (.c (.d (.bool false)))), none⟩])
  (.seq (.seq (.reg [⟨(some 8), .mv (.t 0), none⟩,
    ⟨(some 9), .len (.t 8), none⟩,
    ⟨(some 10), .bin .eql (.t 9) (.k (.c (.d (.int .i64 0)))), none⟩])
  (.cond (.t 10) (.seq (.reg [⟨(some 11), .build [(.d (.int .i64 0)), (.d (.int .i64 0))] [], none⟩,
     ⟨none, .store (.ag 2) (.t 2) (.t 11), none⟩,
     ⟨(some 3), .mv (.k (.c (.d (.bool false)))), none⟩])
   (.ret))
   (.skip)))
  (.seq (.reg [⟨(some 12), .mv (.t 0), none⟩,
    ⟨(some 13), .idxSl 2 (.t 12) (.k (.c (.d (.int .i64 0)))), none⟩,
    ⟨(some 14), .load (.ag 2) (.t 13), none⟩,
    ⟨(some 4), .alloc [(.d (.int .i64 0)), (.d (.int .i64 0))], none⟩,
    ⟨none, .store (.ag 2) (.t 4) (.t 14), none⟩,
    ⟨(some 5), .mv (.k (.c (.d (.bool true)))), none⟩])
  (.seq (.seq (.reg [⟨(some 15), .mv (.t 0), none⟩,
    ⟨(some 16), .len (.t 15), none⟩,
    ⟨(some 17), .mv (.k (.c (.d (.int .i64 0)))), none⟩])
  (.block 0 (.loop lp_icom_0)))
  (.seq (.reg [⟨(some 31), .load (.ag 2) (.t 4), none⟩,
    ⟨none, .store (.ag 2) (.t 2) (.t 31), none⟩,
    ⟨(some 3), .mv (.k (.c (.d (.bool true)))), none⟩])
  (.ret))))),
  [(2, (some (.ag 2))), (3, none)]⟩
theorem cf_icom : compFn Try.prog { own := [], comp := [], frz := [], nils := [] } Try.f32 = some sf_icom := by kernel_rfl
set_option maxHeartbeats 1600000 in
theorem icom_c (G : Glob) (l : List Spn) (hl : l.length ≤ 9223372036854775807) : Den Try.prog G 32 [.sl (l.map spD)] (.tup [.c (.d (spD (cmV (comL l)))), .c (.d (.bool (comL l).isSome))]) := by
  refine den_walk Try.func32 cf_icom rfl rfl ?_
  by_cases h0 : l.length = 0
  · have hn : l = [] := List.length_eq_zero_iff.1 h0
    subst hn
    simp only [sf_icom, putAll, wx, wy, wz, stV, seval, IntWalk.iteOmega, IntWalk.toNatUp, reduceCtorEq]
    have e : comL [] = none := rfl
    simp only [e, cmV, spD, Option.getD_none, Option.isSome_none]
    exact ret_d2 (by simp only [wx, wy, wz, stV, seval, IntWalk.iteOmega, IntWalk.toNatUp, reduceCtorEq]) (by simp only [wx, wy, wz, stV, seval, IntWalk.iteOmega, IntWalk.toNatUp, reduceCtorEq])
  · have g0 := getS (l := l) (j := 0) (by omega)
    have hl0 : ((l.length : Int) = 0) = False := eq_false (by omega)
    simp only [sf_icom, putAll, wx, wy, wz, stV, seval, IntWalk.iteOmega, IntWalk.toNatUp, reduceCtorEq, get_map, g0, spD, hl0]
    refine loop_st (icoSt l) (fun i => l.length - i) (fun i => i ≤ l.length ∧ (i = 0 ∨ (comT l i).isSome = true)) 0 ⟨Nat.zero_le _, .inl rfl⟩ ?_ ?_
    · have e2 : comC l 0 = l.getD 0 (0, 0) := rfl
      refine ent_l (fun i => if i = 1 then 16 else 32) ?_ ?_ rfl rfl <;> simp only [wx, wex, wez, stV, seval, IntWalk.iteOmega, IntWalk.toNatUp, reduceCtorEq, e2]
    · rintro i ⟨hi, hs⟩
      by_cases hlt : i < l.length
      · have g := getS hlt
        obtain ⟨s1, s2⟩ := comC_step hlt hs
        have cm := imet_c G (comC l i).1 (comC l i).2 (l.getD i (0, 0)).1 (l.getD i (0, 0)).2
        have hmb : mtB (comC l i).1 (comC l i).2 (l.getD i (0, 0)).1 (l.getD i (0, 0)).2 = meetB (comC l i) (l.getD i (0, 0)) := rfl
        rw [hmb] at cm
        cases hm : meetB (comC l i) (l.getD i (0, 0))
        · rw [hm] at cm
          rw [s1 hm]
          simp only [lp_icom_0, icoSt, wx, wy, wz, stV, seval, IntWalk.iteOmega, IntWalk.toNatUp, reduceCtorEq, get_map, g, spD]
          refine st_call (cm) rfl (.inl rfl) ?_
          simp only [spA, wx, wy, wz, stV, seval, IntWalk.iteOmega, IntWalk.toNatUp, reduceCtorEq]
          simp only [cmV, Option.getD_none, Option.isSome_none]
          exact ret_d2 (by simp only [wx, wy, wz, stV, seval, IntWalk.iteOmega, IntWalk.toNatUp, reduceCtorEq]) (by simp only [wx, wy, wz, stV, seval, IntWalk.iteOmega, IntWalk.toNatUp, reduceCtorEq])
        · rw [hm] at cm
          obtain ⟨k1, k2⟩ := s2 hm
          have e3 : comC l (i + 1) = (max (comC l i).1 (l.getD i (0, 0)).1, min (comC l i).2 (l.getD i (0, 0)).2) := k2
          simp only [lp_icom_0, icoSt, wx, wy, wz, stV, seval, IntWalk.iteOmega, IntWalk.toNatUp, reduceCtorEq, get_map, g, spD]
          refine st_call (cm) rfl (.inl rfl) ?_
          simp only [spA, wx, wy, wz, stV, seval, IntWalk.iteOmega, IntWalk.toNatUp, reduceCtorEq]
          refine lop_next (i + 1) (by omega) ⟨by omega, .inr k1⟩ (ent_l (fun i => i) ?_ ?_ rfl rfl) <;> simp only [wx, wex, wez, stV, seval, IntWalk.iteOmega, IntWalk.toNatUp, reduceCtorEq, e3]
      · have hil : i = l.length := by omega
        have hs' := hs.resolve_left (by omega)
        have hcl : comT l i = comL l := by unfold comT; rw [hil, List.take_length]
        have e4 : comC l i = cmV (comL l) := by unfold comC; rw [if_neg (by omega), hcl]
        simp only [lp_icom_0, icoSt, wx, wy, wz, stV, seval, IntWalk.iteOmega, IntWalk.toNatUp, reduceCtorEq, e4]
        rw [hcl] at hs'
        rw [hs']
        unfold spD
        exact ret_d2 (by simp only [wx, wy, wz, stV, seval, IntWalk.iteOmega, IntWalk.toNatUp, reduceCtorEq]) (by simp only [wx, wy, wz, stV, seval, IntWalk.iteOmega, IntWalk.toNatUp, reduceCtorEq])
end Go.Proofs.Ytaodfdnncdelnaa
