/- Layer 11 on data: the program: results made by function literals; Common. Own work. -/
import Derived.Shelf.Abstract
import Derived.Test.YtjebhdadegfbdaaAlY
import Derived.Test.YtjebhdadegfbdaaPi6
set_option linter.unusedVariables false
set_option linter.unusedSimpArgs false
namespace Go.Proofs.Ytjebhdadegfbdaa
open Go.RowKit

theorem fl_spI (k : Bool) (x y n : Int) : V.flat (.tup [.c (.d (spA k x y)), .c (.d (.int .i64 n))]) = true := rfl
theorem allOk1 (a b : Int) : allOk [(a, b)] = okP (a, b) := by simp [allOk]
theorem allOk2 (a b c d : Int) : allOk [(a, b), (c, d)] = (okP (a, b) && okP (c, d)) := by simp [allOk]
theorem allOk2_t {a b c d : Int} (h : allOk [(a, b), (c, d)] = true) : okP (a, b) = true ∧ okP (c, d) = true := by
  rw [allOk2] at h; simpa using h
theorem md_sum (a b c d x y : Int) : mdB [(a, b), (c, d)] true x y = smsB a b c d x y ∧ mdE [(a, b), (c, d)] true x y = sumE a b c d x y := by
  unfold mdB mdE smsB sumE
  rw [allOk2, Bool.and_true, Bool.true_and]
  exact ⟨rfl, rfl⟩
theorem md_meet (a b c d : Int) : mdB [(a, b), (c, d)] true (max a c) (min b d) = mtB a b c d ∧ (mtB a b c d = true → mdE [(a, b), (c, d)] true (max a c) (min b d) = 0) ∧ (mtB a b c d = false → mdE [(a, b), (c, d)] true (max a c) (min b d) = 3 ∨ mdE [(a, b), (c, d)] true (max a c) (min b d) = 4) := by
  unfold mdB mdE mtB meetB
  rw [allOk2, Bool.and_true, Bool.true_and]
  cases hv : okP (a, b)
  · exact ⟨rfl, fun h => (by cases h), fun _ => .inl rfl⟩
  · cases hv2 : okP (c, d)
    · exact ⟨rfl, fun h => (by cases h), fun _ => .inl rfl⟩
    · obtain ⟨h1, h2, h3⟩ := okP_i hv
      obtain ⟨k1, k2, k3⟩ := okP_i hv2
      by_cases h : max a c ≤ min b d
      · have e : okP (max a c, min b d) = true := okP_d ⟨by omega, by omega, h⟩
        rw [e, decide_eq_true h]
        exact ⟨rfl, fun _ => rfl, fun h => (by cases h)⟩
      · have e : okP (max a c, min b d) = false := okP_n (by omega)
        rw [e, decide_eq_false h]
        exact ⟨rfl, fun h => (by cases h), fun _ => .inr rfl⟩
theorem md_hull (a b c d : Int) : mdB [(a, b), (c, d)] true (min a c) (max b d) = hulB a b c d ∧ mdE [(a, b), (c, d)] true (min a c) (max b d) = if hulB a b c d = true then 0 else 3 := by
  unfold mdB mdE hulB
  rw [allOk2, Bool.and_true, Bool.true_and]
  cases hv : okP (a, b)
  · exact ⟨rfl, rfl⟩
  · cases hv2 : okP (c, d)
    · exact ⟨rfl, rfl⟩
    · obtain ⟨h1, h2, h3⟩ := okP_i hv
      obtain ⟨k1, k2, k3⟩ := okP_i hv2
      have e : okP (min a c, max b d) = true := okP_d ⟨by omega, by omega, by omega⟩
      rw [e]
      exact ⟨rfl, rfl⟩
/-! ### Meet, Hull -/
def sf_cmet : SFn := ⟨2, 15,
  .seq (.reg [⟨(some 2), .alloc [(.d (.int .i64 0)), (.d (.int .i64 0))], none⟩,
    ⟨(some 3), .mv (.k (.c (.d (.bool false)))), none⟩])
  (.seq (.reg [⟨(some 4), .fieldAddr 0 (.t 0), none⟩,
    ⟨(some 5), .load .sc (.t 4), none⟩,
    ⟨(some 6), .fieldAddr 0 (.t 1), none⟩,
    ⟨(some 7), .load .sc (.t 6), none⟩,
    ⟨(some 8), .max [(.t 5), (.t 7)], none⟩,
    ⟨(some 9), .fieldAddr 1 (.t 0), none⟩,
    ⟨(some 10), .load .sc (.t 9), none⟩,
    ⟨(some 11), .fieldAddr 1 (.t 1), none⟩,
    ⟨(some 12), .load .sc (.t 11), none⟩,
    ⟨(some 13), .min [(.t 10), (.t 12)], none⟩,
    ⟨(some 14), .build [(.d (.int .i64 0)), (.d (.int .i64 0))] [(0, 1, (.t 8)), (1, 1, (.t 13))], none⟩,
    ⟨none, .store (.ag 2) (.t 2) (.t 14), none⟩,
    ⟨(some 3), .mv (.k (.c (.d (.bool true)))), none⟩])
  (.ret)),
  [(2, (some (.ag 2))), (3, none)]⟩
theorem cf_cmet : compFn Try.prog { own := [], comp := [], frz := [], nils := [] } Try.f94 = some sf_cmet := by kernel_rfl
theorem cmet_f (G : Glob) (a b c d : Int) : DenF Try.prog G 94 [.ref [.int .i64 a, .int .i64 b], .ref [.int .i64 c, .int .i64 d]] [] (.tup [.c (.d (.agg [.int .i64 (max a c), .int .i64 (min b d)])), .c (.d (.bool true))]) := by
  refine ⟨enters_of Try.func94 (by kernel_rfl) rfl, ?_⟩
  refine den_walkU Try.func94 cf_cmet rfl rfl ?_
  simp only [sf_cmet, List.nil_append, List.map_cons, List.map_nil, D.up, putW, wx, wy, wz, stV, seval, IntWalk.iteOmega, IntWalk.toNatUp, reduceCtorEq, max2, min2]
  exact ret_d2 (by simp only [wx, wy, wz, stV, seval, IntWalk.iteOmega, IntWalk.toNatUp, reduceCtorEq]) (by simp only [wx, wy, wz, stV, seval, IntWalk.iteOmega, IntWalk.toNatUp, reduceCtorEq])
def sf_cadd : SFn := ⟨2, 15,
  .seq (.reg [⟨(some 2), .alloc [(.d (.int .i64 0)), (.d (.int .i64 0))], none⟩,
    ⟨(some 3), .mv (.k (.c (.d (.bool false)))), none⟩])
  (.seq (.reg [⟨(some 4), .fieldAddr 0 (.t 0), none⟩,
    ⟨(some 5), .load .sc (.t 4), none⟩,
    ⟨(some 6), .fieldAddr 0 (.t 1), none⟩,
    ⟨(some 7), .load .sc (.t 6), none⟩,
    ⟨(some 8), .bin .add (.t 5) (.t 7), none⟩,
    ⟨(some 9), .fieldAddr 1 (.t 0), none⟩,
    ⟨(some 10), .load .sc (.t 9), none⟩,
    ⟨(some 11), .fieldAddr 1 (.t 1), none⟩,
    ⟨(some 12), .load .sc (.t 11), none⟩,
    ⟨(some 13), .bin .add (.t 10) (.t 12), none⟩,
    ⟨(some 14), .build [(.d (.int .i64 0)), (.d (.int .i64 0))] [(0, 1, (.t 8)), (1, 1, (.t 13))], none⟩,
    ⟨none, .store (.ag 2) (.t 2) (.t 14), none⟩,
    ⟨(some 3), .mv (.k (.c (.d (.bool true)))), none⟩])
  (.ret)),
  [(2, (some (.ag 2))), (3, none)]⟩
theorem cf_cadd : compFn Try.prog { own := [], comp := [], frz := [], nils := [] } Try.f80 = some sf_cadd := by kernel_rfl
theorem cadd_f (G : Glob) (a b c d : Int) (h : allOk [(a, b), (c, d)] = true) : DenF Try.prog G 80 [.ref [.int .i64 a, .int .i64 b], .ref [.int .i64 c, .int .i64 d]] [] (.tup [.c (.d (.agg [.int .i64 (a + c), .int .i64 (b + d)])), .c (.d (.bool true))]) := by
  refine ⟨enters_of Try.func80 (by kernel_rfl) rfl, ?_⟩
  obtain ⟨h1, h2, h3⟩ := okP_i (allOk2_t h).1
  obtain ⟨k1, k2, k3⟩ := okP_i (allOk2_t h).2
  refine den_walkU Try.func80 cf_cadd rfl rfl ?_
  simp only [sf_cadd, List.nil_append, List.map_cons, List.map_nil, D.up, putW, wx, wy, wz, stV, seval, IntWalk.iteOmega, IntWalk.toNatUp, reduceCtorEq]
  exact ret_d2 (by simp only [wx, wy, wz, stV, seval, IntWalk.iteOmega, IntWalk.toNatUp, reduceCtorEq]) (by simp only [wx, wy, wz, stV, seval, IntWalk.iteOmega, IntWalk.toNatUp, reduceCtorEq])
def sf_csbs : SFn := ⟨2, 15,
  .seq (.reg [⟨(some 2), .alloc [(.d (.int .i64 0)), (.d (.int .i64 0))], none⟩,
    ⟨(some 3), .mv (.k (.c (.d (.bool false)))), none⟩])
  (.seq (.reg [⟨(some 4), .fieldAddr 0 (.t 0), none⟩,
    ⟨(some 5), .load .sc (.t 4), none⟩,
    ⟨(some 6), .fieldAddr 1 (.t 1), none⟩,
    ⟨(some 7), .load .sc (.t 6), none⟩,
    ⟨(some 8), .bin .sub (.t 5) (.t 7), none⟩,
    ⟨(some 9), .fieldAddr 1 (.t 0), none⟩,
    ⟨(some 10), .load .sc (.t 9), none⟩,
    ⟨(some 11), .fieldAddr 0 (.t 1), none⟩,
    ⟨(some 12), .load .sc (.t 11), none⟩,
    ⟨(some 13), .bin .sub (.t 10) (.t 12), none⟩,
    ⟨(some 14), .build [(.d (.int .i64 0)), (.d (.int .i64 0))] [(0, 1, (.t 8)), (1, 1, (.t 13))], none⟩,
    ⟨none, .store (.ag 2) (.t 2) (.t 14), none⟩,
    ⟨(some 3), .mv (.k (.c (.d (.bool true)))), none⟩])
  (.ret)),
  [(2, (some (.ag 2))), (3, none)]⟩
theorem cf_csbs : compFn Try.prog { own := [], comp := [], frz := [], nils := [] } Try.f75 = some sf_csbs := by kernel_rfl
theorem csbs_f (G : Glob) (a b c d : Int) (h : allOk [(a, b), (c, d)] = true) : DenF Try.prog G 75 [.ref [.int .i64 a, .int .i64 b], .ref [.int .i64 c, .int .i64 d]] [] (.tup [.c (.d (.agg [.int .i64 (a - d), .int .i64 (b - c)])), .c (.d (.bool true))]) := by
  refine ⟨enters_of Try.func75 (by kernel_rfl) rfl, ?_⟩
  obtain ⟨h1, h2, h3⟩ := okP_i (allOk2_t h).1
  obtain ⟨k1, k2, k3⟩ := okP_i (allOk2_t h).2
  refine den_walkU Try.func75 cf_csbs rfl rfl ?_
  simp only [sf_csbs, List.nil_append, List.map_cons, List.map_nil, D.up, putW, wx, wy, wz, stV, seval, IntWalk.iteOmega, IntWalk.toNatUp, reduceCtorEq]
  exact ret_d2 (by simp only [wx, wy, wz, stV, seval, IntWalk.iteOmega, IntWalk.toNatUp, reduceCtorEq]) (by simp only [wx, wy, wz, stV, seval, IntWalk.iteOmega, IntWalk.toNatUp, reduceCtorEq])
def sf_imet : SFn := ⟨2, 19,
  .seq (.reg [⟨(some 2), .box .roBox (.t 0), none⟩,
    ⟨(some 3), .box .roBox (.t 1), none⟩,
    ⟨(some 4), .alloc [(.d (.int .i64 0)), (.d (.int .i64 0))], none⟩,
    ⟨(some 5), .mv (.k (.c (.d (.bool false)))), none⟩])
  (.seq (.reg [⟨(some 9), .clos 94 [(.t 2), (.t 3)], none⟩,
    ⟨(some 10), .load (.ag 2) (.t 2), none⟩,
    ⟨(some 11), .load (.ag 2) (.t 3), none⟩,
    ⟨(some 12), .bldSl false 2 2 (.agg [(.int .i64 0), (.int .i64 0)]) [(0, (.t 10)), (1, (.t 11))], none⟩,
    ⟨(some 13), .call 74 [(.t 9), (.t 12)] none, none⟩,
    ⟨(some 8), .mv (.t 13), none⟩,
    ⟨(some 14), .extract (.t 8) 0, none⟩,
    ⟨(some 15), .extract (.t 8) 1, none⟩,
    ⟨(some 6), .alloc [(.d (.int .i64 0)), (.d (.int .i64 0))], none⟩,
    ⟨none, .store (.ag 2) (.t 6) (.t 14), none⟩,
    ⟨(some 7), .mv (.t 15), none⟩])
  (.seq (.reg [⟨(some 16), .load (.ag 2) (.t 6), none⟩,
    ⟨(some 17), .mv (.t 7), none⟩,
    ⟨(some 18), .bin .eql (.t 17) (.k (.c (.d (.int .i64 0)))), none⟩,
    ⟨none, .store (.ag 2) (.t 4) (.t 16), none⟩,
    ⟨(some 5), .mv (.t 18), none⟩])
  (.ret))),
  [(4, (some (.ag 2))), (5, none)]⟩
theorem cf_imet : compFn Try.prog { own := [], comp := [], frz := [], nils := [] } Try.f73 = some sf_imet := by kernel_rfl
theorem imet_c (G : Glob) (a b c d : Int) : Den Try.prog G 73 [.agg [.int .i64 a, .int .i64 b], .agg [.int .i64 c, .int .i64 d]] (.tup [.c (.d (spA (mtB a b c d) (max a c) (min b d))), .c (.d (.bool (mtB a b c d)))]) := by
  refine den_walk Try.func73 cf_imet rfl rfl ?_
  have cm := imad_c G 94 [.ref [.int .i64 a, .int .i64 b], .ref [.int .i64 c, .int .i64 d]] [(a, b), (c, d)] (by simp) true (max a c) (min b d) (fun _ => cmet_f G a b c d)
  obtain ⟨e1, e2, e3⟩ := md_meet a b c d
  rw [e1] at cm
  simp only [List.map_cons, List.map_nil, spD] at cm
  cases hm : mtB a b c d
  · rw [hm] at cm
    rcases e3 hm with e | e
    · rw [e] at cm
      simp only [sf_imet, putAll, wx, wy, wz, stV, seval, IntWalk.iteOmega, IntWalk.toNatUp, reduceCtorEq]
      refine st_call cm (by simp only [wx, wy, wz, stV, seval, IntWalk.iteOmega, IntWalk.toNatUp, reduceCtorEq]) (.inr (fl_spI _ _ _ _)) ?_
      simp only [wx, wy, wz, stV, seval, IntWalk.iteOmega, IntWalk.toNatUp, reduceCtorEq, spA]
      exact ret_d2 (by simp only [wx, wy, wz, stV, seval, IntWalk.iteOmega, IntWalk.toNatUp, reduceCtorEq]) (by simp only [wx, wy, wz, stV, seval, IntWalk.iteOmega, IntWalk.toNatUp, reduceCtorEq])
    · rw [e] at cm
      simp only [sf_imet, putAll, wx, wy, wz, stV, seval, IntWalk.iteOmega, IntWalk.toNatUp, reduceCtorEq]
      refine st_call cm (by simp only [wx, wy, wz, stV, seval, IntWalk.iteOmega, IntWalk.toNatUp, reduceCtorEq]) (.inr (fl_spI _ _ _ _)) ?_
      simp only [wx, wy, wz, stV, seval, IntWalk.iteOmega, IntWalk.toNatUp, reduceCtorEq, spA]
      exact ret_d2 (by simp only [wx, wy, wz, stV, seval, IntWalk.iteOmega, IntWalk.toNatUp, reduceCtorEq]) (by simp only [wx, wy, wz, stV, seval, IntWalk.iteOmega, IntWalk.toNatUp, reduceCtorEq])
  · rw [hm, e2 hm] at cm
    simp only [sf_imet, putAll, wx, wy, wz, stV, seval, IntWalk.iteOmega, IntWalk.toNatUp, reduceCtorEq]
    refine st_call cm (by simp only [wx, wy, wz, stV, seval, IntWalk.iteOmega, IntWalk.toNatUp, reduceCtorEq]) (.inr (fl_spI _ _ _ _)) ?_
    simp only [wx, wy, wz, stV, seval, IntWalk.iteOmega, IntWalk.toNatUp, reduceCtorEq, spA]
    exact ret_d2 (by simp only [wx, wy, wz, stV, seval, IntWalk.iteOmega, IntWalk.toNatUp, reduceCtorEq]) (by simp only [wx, wy, wz, stV, seval, IntWalk.iteOmega, IntWalk.toNatUp, reduceCtorEq])
def sf_iadd : SFn := ⟨2, 13,
  .seq (.reg [⟨(some 2), .box .roBox (.t 0), none⟩,
    ⟨(some 3), .box .roBox (.t 1), none⟩,
    ⟨(some 4), .alloc [(.d (.int .i64 0)), (.d (.int .i64 0))], none⟩,
    ⟨(some 5), .mv (.k (.c (.d (.int .i64 0)))), none⟩])
  (.seq (.reg [⟨(some 6), .clos 80 [(.t 2), (.t 3)], none⟩,
    ⟨(some 7), .load (.ag 2) (.t 2), none⟩,
    ⟨(some 8), .load (.ag 2) (.t 3), none⟩,
    ⟨(some 9), .bldSl false 2 2 (.agg [(.int .i64 0), (.int .i64 0)]) [(0, (.t 7)), (1, (.t 8))], none⟩,
    ⟨(some 10), .call 74 [(.t 6), (.t 9)] none, none⟩,
    ⟨(some 11), .extract (.t 10) 0, none⟩,
    ⟨(some 12), .extract (.t 10) 1, none⟩,
    ⟨none, .store (.ag 2) (.t 4) (.t 11), none⟩,
    ⟨(some 5), .mv (.t 12), none⟩])
  (.ret)),
  [(4, (some (.ag 2))), (5, none)]⟩
theorem cf_iadd : compFn Try.prog { own := [], comp := [], frz := [], nils := [] } Try.f50 = some sf_iadd := by kernel_rfl
theorem iadd_c (G : Glob) (a b c d : Int) : Den Try.prog G 50 [.agg [.int .i64 a, .int .i64 b], .agg [.int .i64 c, .int .i64 d]] (.tup [.c (.d (spA (smsB a b c d (a + c) (b + d)) (a + c) (b + d))), .c (.d (.int .i64 (sumE a b c d (a + c) (b + d))))]) := by
  refine den_walk Try.func50 cf_iadd rfl rfl ?_
  have cm := imad_c G 80 [.ref [.int .i64 a, .int .i64 b], .ref [.int .i64 c, .int .i64 d]] [(a, b), (c, d)] (by simp) true (a + c) (b + d) (fun h => cadd_f G a b c d h)
  obtain ⟨e1, e2⟩ := md_sum a b c d (a + c) (b + d)
  rw [e1, e2] at cm
  simp only [List.map_cons, List.map_nil, spD] at cm
  generalize smsB a b c d (a + c) (b + d) = k at *
  generalize sumE a b c d (a + c) (b + d) = e at *
  generalize a + c = x at *
  generalize b + d = y at *
  simp only [sf_iadd, putAll, wx, wy, wz, stV, seval, IntWalk.iteOmega, IntWalk.toNatUp, reduceCtorEq]
  refine st_call cm (by simp only [wx, wy, wz, stV, seval, IntWalk.iteOmega, IntWalk.toNatUp, reduceCtorEq]) (.inr (fl_spI _ _ _ _)) ?_
  simp only [wx, wy, wz, stV, seval, IntWalk.iteOmega, IntWalk.toNatUp, reduceCtorEq, spA]
  exact ret_d2 (by simp only [wx, wy, wz, stV, seval, IntWalk.iteOmega, IntWalk.toNatUp, reduceCtorEq]) (by simp only [wx, wy, wz, stV, seval, IntWalk.iteOmega, IntWalk.toNatUp, reduceCtorEq])
def sf_isbs : SFn := ⟨2, 13,
  .seq (.reg [⟨(some 2), .box .roBox (.t 0), none⟩,
    ⟨(some 3), .box .roBox (.t 1), none⟩,
    ⟨(some 4), .alloc [(.d (.int .i64 0)), (.d (.int .i64 0))], none⟩,
    ⟨(some 5), .mv (.k (.c (.d (.int .i64 0)))), none⟩])
  (.seq (.reg [⟨(some 6), .clos 75 [(.t 2), (.t 3)], none⟩,
    ⟨(some 7), .load (.ag 2) (.t 2), none⟩,
    ⟨(some 8), .load (.ag 2) (.t 3), none⟩,
    ⟨(some 9), .bldSl false 2 2 (.agg [(.int .i64 0), (.int .i64 0)]) [(0, (.t 7)), (1, (.t 8))], none⟩,
    ⟨(some 10), .call 74 [(.t 6), (.t 9)] none, none⟩,
    ⟨(some 11), .extract (.t 10) 0, none⟩,
    ⟨(some 12), .extract (.t 10) 1, none⟩,
    ⟨none, .store (.ag 2) (.t 4) (.t 11), none⟩,
    ⟨(some 5), .mv (.t 12), none⟩])
  (.ret)),
  [(4, (some (.ag 2))), (5, none)]⟩
theorem cf_isbs : compFn Try.prog { own := [], comp := [], frz := [], nils := [] } Try.f40 = some sf_isbs := by kernel_rfl
theorem isbs_c (G : Glob) (a b c d : Int) : Den Try.prog G 40 [.agg [.int .i64 a, .int .i64 b], .agg [.int .i64 c, .int .i64 d]] (.tup [.c (.d (spA (smsB a b c d (a - d) (b - c)) (a - d) (b - c))), .c (.d (.int .i64 (sumE a b c d (a - d) (b - c))))]) := by
  refine den_walk Try.func40 cf_isbs rfl rfl ?_
  have cm := imad_c G 75 [.ref [.int .i64 a, .int .i64 b], .ref [.int .i64 c, .int .i64 d]] [(a, b), (c, d)] (by simp) true (a - d) (b - c) (fun h => csbs_f G a b c d h)
  obtain ⟨e1, e2⟩ := md_sum a b c d (a - d) (b - c)
  rw [e1, e2] at cm
  simp only [List.map_cons, List.map_nil, spD] at cm
  generalize smsB a b c d (a - d) (b - c) = k at *
  generalize sumE a b c d (a - d) (b - c) = e at *
  generalize a - d = x at *
  generalize b - c = y at *
  simp only [sf_isbs, putAll, wx, wy, wz, stV, seval, IntWalk.iteOmega, IntWalk.toNatUp, reduceCtorEq]
  refine st_call cm (by simp only [wx, wy, wz, stV, seval, IntWalk.iteOmega, IntWalk.toNatUp, reduceCtorEq]) (.inr (fl_spI _ _ _ _)) ?_
  simp only [wx, wy, wz, stV, seval, IntWalk.iteOmega, IntWalk.toNatUp, reduceCtorEq, spA]
  exact ret_d2 (by simp only [wx, wy, wz, stV, seval, IntWalk.iteOmega, IntWalk.toNatUp, reduceCtorEq]) (by simp only [wx, wy, wz, stV, seval, IntWalk.iteOmega, IntWalk.toNatUp, reduceCtorEq])
/-! ### Shift, Grow -/
def grwB (d : Int) : Bool := decide (0 ≤ d ∧ d ≤ 1152921504606846976)
theorem groK_v (x y : Int) : groK x y = (grwB x && grwB y) := by
  unfold groK grwB
  rw [← Bool.decide_and]
  apply decide_eq_decide.2
  omega
/-! ### Common -/
def comC (l : List Spn) (i : Nat) : Spn := if i = 0 then l.getD 0 (0, 0) else cmV (comT l i)
theorem meet_self (p : Spn) : meetB p p = okP p ∧ meetV p p = p := by
  unfold meetB meetV
  rw [Int.max_self, Int.min_self]
  refine ⟨?_, rfl⟩
  cases h : okP p
  · rfl
  · have := (okP_t h).2.2
    rw [decide_eq_true this]; rfl
theorem comC_step {l : List Spn} {i : Nat} (h : i < l.length) (hs : i = 0 ∨ (comT l i).isSome = true) : (meetB (comC l i) (l.getD i (0, 0)) = false → comL l = none) ∧ (meetB (comC l i) (l.getD i (0, 0)) = true → (comT l (i + 1)).isSome = true ∧ comC l (i + 1) = meetV (comC l i) (l.getD i (0, 0))) := by
  by_cases h0 : i = 0
  · subst h0
    have e1 : comT l 1 = if okP (l.getD 0 (0, 0)) = true then some (l.getD 0 (0, 0)) else none := by
      unfold comT
      rw [show (1 : Nat) = 0 + 1 from rfl, takeS h]
      rfl
    rw [show comC l 0 = l.getD 0 (0, 0) from rfl, (meet_self _).1, (meet_self _).2]
    refine ⟨fun hv => comT_none (i := 1) (Nat.le_refl _) (by rw [e1, hv]; rfl), fun hv => ?_⟩
    show (comT l 1).isSome = true ∧ cmV (comT l 1) = _
    rw [e1, hv]
    exact ⟨rfl, rfl⟩
  · have hs' := hs.resolve_left h0
    have hc := comT_succ (by omega) h
    obtain ⟨p, hp⟩ := Option.isSome_iff_exists.1 hs'
    have e : comC l i = p := by unfold comC; rw [if_neg h0, hp]; rfl
    rw [hp, comF_s] at hc
    rw [e]
    refine ⟨fun hm => comT_none (i := i + 1) (by omega) (by rw [hc, hm]; rfl), fun hm => ?_⟩
    rw [hm, if_pos rfl] at hc
    show (comT l (i + 1)).isSome = true ∧ cmV (comT l (i + 1)) = _
    rw [hc]
    exact ⟨rfl, rfl⟩
def icoSt (l : List Spn) (i : Nat) : St := ⟨ofL [(2, .w (.c (.ptr 1 1 0 0))), (4, .w (.c (.ptr 2 1 0 0))), (15, .w (.c (.d (.sl (l.map spD))))), (16, .w (.c (.d (.int .i64 (l.length : Int))))), (17, .w (.c (.d (.int .i64 (i : Int)))))],
  hL [(1, .box [.d (.int .i64 0), .d (.int .i64 0)]), (2, .box [.d (.int .i64 (comC l i).1), .d (.int .i64 (comC l i).2)])], uL [1, 2]⟩
def lp_icom_0 : SCode :=
  .seq (.reg [⟨(some 18), .bin .lss (.t 17) (.t 16), none⟩])
  (.seq (.cond (.t 18) (.skip)
   (.exit 0))
  (.seq (.block 1 (.seq (.reg [⟨(some 19), .idxSl 2 (.t 15) (.t 17), none⟩,
     ⟨(some 20), .load (.ag 2) (.t 19), none⟩,
     ⟨(some 7), .alloc [(.d (.int .i64 0)), (.d (.int .i64 0))], none⟩,
     ⟨none, .store (.ag 2) (.t 7) (.t 20), none⟩])
   (.seq (.reg [⟨(some 22), .load (.ag 2) (.t 4), none⟩,
     ⟨(some 23), .load (.ag 2) (.t 7), none⟩,
     ⟨(some 24), .call 73 [(.t 22), (.t 23)] none, none⟩,
     ⟨(some 21), .mv (.t 24), none⟩,
     ⟨(some 25), .extract (.t 21) 0, none⟩,
     ⟨(some 26), .extract (.t 21) 1, none⟩,
     ⟨none, .store (.ag 2) (.t 4) (.t 25), none⟩,
     ⟨(some 5), .mv (.t 26), none⟩])
   (.seq (.reg [⟨(some 27), .mv (.t 5), none⟩,
     ⟨(some 28), .un .not (.t 27), none⟩])
   (.cond (.t 28) (.seq (.reg [⟨(some 29), .build [(.d (.int .i64 0)), (.d (.int .i64 0))] [], none⟩,
      ⟨none, .store (.ag 2) (.t 2) (.t 29), none⟩,
      ⟨(some 3), .mv (.k (.c (.d (.bool false)))), none⟩])
    (.ret))
    (.skip))))))
  (.reg [⟨(some 30), .bin .add (.t 17) (.k (.c (.d (.int .i64 1)))), none⟩,
    ⟨(some 17), .mv (.t 30), none⟩])))
def sf_icom : SFn := ⟨1, 32,
  .seq (.reg [⟨(some 2), .alloc [(.d (.int .i64 0)), (.d (.int .i64 0))], none⟩,
    ⟨(some 3), .mv (.k (.c (.d (.bool false)))), none⟩])
  (.seq (.seq (.reg [⟨(some 8), .mv (.t 0), none⟩,
    ⟨(some 9), .len (.t 8), none⟩,
    ⟨(some 10), .bin .eql (.t 9) (.k (.c (.d (.int .i64 0)))), none⟩])
  (.cond (.t 10) (.seq (.reg [⟨(some 11), .build [(.d (.int .i64 0)), (.d (.int .i64 0))] [], none⟩,
     ⟨none, .store (.ag 2) (.t 2) (.t 11), none⟩,
     ⟨(some 3), .mv (.k (.c (.d (.bool false)))), none⟩])
   (.ret))
   (.skip)))
  (.seq (.reg [⟨(some 12), .mv (.t 0), none⟩,
    ⟨(some 13), .idxSl 2 (.t 12) (.k (.c (.d (.int .i64 0)))), none⟩,
    ⟨(some 14), .load (.ag 2) (.t 13), none⟩,
    ⟨(some 4), .alloc [(.d (.int .i64 0)), (.d (.int .i64 0))], none⟩,
    ⟨none, .store (.ag 2) (.t 4) (.t 14), none⟩,
    ⟨(some 5), .mv (.k (.c (.d (.bool true)))), none⟩])
  (.seq (.seq (.reg [⟨(some 15), .mv (.t 0), none⟩,
    ⟨(some 16), .len (.t 15), none⟩,
    ⟨(some 17), .mv (.k (.c (.d (.int .i64 0)))), none⟩])
  (.block 0 (.loop lp_icom_0)))
  (.seq (.reg [⟨(some 31), .load (.ag 2) (.t 4), none⟩,
    ⟨none, .store (.ag 2) (.t 2) (.t 31), none⟩,
    ⟨(some 3), .mv (.k (.c (.d (.bool true)))), none⟩])
  (.ret))))),
  [(2, (some (.ag 2))), (3, none)]⟩
theorem cf_icom : compFn Try.prog { own := [], comp := [], frz := [], nils := [] } Try.f38 = some sf_icom := by kernel_rfl
set_option maxHeartbeats 1600000 in
theorem icom_c (G : Glob) (l : List Spn) (hl : l.length ≤ 9223372036854775807) : Den Try.prog G 38 [.sl (l.map spD)] (.tup [.c (.d (spD (cmV (comL l)))), .c (.d (.bool (comL l).isSome))]) := by
  refine den_walk Try.func38 cf_icom rfl rfl ?_
  by_cases h0 : l.length = 0
  · have hn : l = [] := List.length_eq_zero_iff.1 h0
    subst hn
    simp only [sf_icom, putAll, wx, wy, wz, stV, seval, IntWalk.iteOmega, IntWalk.toNatUp, reduceCtorEq]
    have e : comL [] = none := rfl
    simp only [e, cmV, spD, Option.getD_none, Option.isSome_none]
    exact ret_d2 (by simp only [wx, wy, wz, stV, seval, IntWalk.iteOmega, IntWalk.toNatUp, reduceCtorEq]) (by simp only [wx, wy, wz, stV, seval, IntWalk.iteOmega, IntWalk.toNatUp, reduceCtorEq])
  · have g0 := getS (l := l) (j := 0) (by omega)
    have hl0 : ((l.length : Int) = 0) = False := eq_false (by omega)
    simp only [sf_icom, putAll, wx, wy, wz, stV, seval, IntWalk.iteOmega, IntWalk.toNatUp, reduceCtorEq, get_map, g0, spD, hl0]
    refine loop_st (icoSt l) (fun i => l.length - i) (fun i => i ≤ l.length ∧ (i = 0 ∨ (comT l i).isSome = true)) 0 ⟨Nat.zero_le _, .inl rfl⟩ ?_ ?_
    · have e2 : comC l 0 = l.getD 0 (0, 0) := rfl
      refine ent_l (fun i => if i = 1 then 16 else 32) ?_ ?_ rfl rfl <;> simp only [wx, wex, wez, stV, seval, IntWalk.iteOmega, IntWalk.toNatUp, reduceCtorEq, e2]
    · rintro i ⟨hi, hs⟩
      by_cases hlt : i < l.length
      · have g := getS hlt
        obtain ⟨s1, s2⟩ := comC_step hlt hs
        have cm := imet_c G (comC l i).1 (comC l i).2 (l.getD i (0, 0)).1 (l.getD i (0, 0)).2
        have hmb : mtB (comC l i).1 (comC l i).2 (l.getD i (0, 0)).1 (l.getD i (0, 0)).2 = meetB (comC l i) (l.getD i (0, 0)) := rfl
        rw [hmb] at cm
        cases hm : meetB (comC l i) (l.getD i (0, 0))
        · rw [hm] at cm
          rw [s1 hm]
          simp only [lp_icom_0, icoSt, wx, wy, wz, stV, seval, IntWalk.iteOmega, IntWalk.toNatUp, reduceCtorEq, get_map, g, spD]
          refine st_call (cm) rfl (.inl rfl) ?_
          simp only [spA, wx, wy, wz, stV, seval, IntWalk.iteOmega, IntWalk.toNatUp, reduceCtorEq]
          simp only [cmV, Option.getD_none, Option.isSome_none]
          exact ret_d2 (by simp only [wx, wy, wz, stV, seval, IntWalk.iteOmega, IntWalk.toNatUp, reduceCtorEq]) (by simp only [wx, wy, wz, stV, seval, IntWalk.iteOmega, IntWalk.toNatUp, reduceCtorEq])
        · rw [hm] at cm
          obtain ⟨k1, k2⟩ := s2 hm
          have e3 : comC l (i + 1) = (max (comC l i).1 (l.getD i (0, 0)).1, min (comC l i).2 (l.getD i (0, 0)).2) := k2
          simp only [lp_icom_0, icoSt, wx, wy, wz, stV, seval, IntWalk.iteOmega, IntWalk.toNatUp, reduceCtorEq, get_map, g, spD]
          refine st_call (cm) rfl (.inl rfl) ?_
          simp only [spA, wx, wy, wz, stV, seval, IntWalk.iteOmega, IntWalk.toNatUp, reduceCtorEq]
          refine lop_next (i + 1) (by omega) ⟨by omega, .inr k1⟩ (ent_l (fun i => i) ?_ ?_ rfl rfl) <;> simp only [wx, wex, wez, stV, seval, IntWalk.iteOmega, IntWalk.toNatUp, reduceCtorEq, e3]
      · have hil : i = l.length := by omega
        have hs' := hs.resolve_left (by omega)
        have hcl : comT l i = comL l := by unfold comT; rw [hil, List.take_length]
        have e4 : comC l i = cmV (comL l) := by unfold comC; rw [if_neg (by omega), hcl]
        simp only [lp_icom_0, icoSt, wx, wy, wz, stV, seval, IntWalk.iteOmega, IntWalk.toNatUp, reduceCtorEq, e4]
        rw [hcl] at hs'
        rw [hs']
        unfold spD
        exact ret_d2 (by simp only [wx, wy, wz, stV, seval, IntWalk.iteOmega, IntWalk.toNatUp, reduceCtorEq]) (by simp only [wx, wy, wz, stV, seval, IntWalk.iteOmega, IntWalk.toNatUp, reduceCtorEq])
end Go.Proofs.Ytjebhdadegfbdaa
