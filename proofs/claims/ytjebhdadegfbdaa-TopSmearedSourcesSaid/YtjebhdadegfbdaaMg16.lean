/- Texts of one's own, merged: from: Layer 11 on data: the program: results made by function literals; Common. Own work. -/
import Derived.Shelf.Abstract
import Derived.Test.YtjebhdadegfbdaaMg8
import Derived.Test.YtjebhdadegfbdaaMg13
import Derived.Test.YtjebhdadegfbdaaMg12
import Derived.Test.YtjebhdadegfbdaaMg9
import Derived.Test.YtjebhdadegfbdaaMg15
set_option linter.unusedVariables false
set_option linter.unusedSimpArgs false
namespace Go.Proofs.Ytjebhdadegfbdaa
open Go.RowKit

theorem fl_spI (k : Bool) (x y n : Int) : V.flat (.tup [.c (.d (spA k x y)), .c (.d (.int .i64 n))]) = true := rfl
theorem allOk1 (a b : Int) : allOk [(a, b)] = okP (a, b) := by simp [allOk]
theorem allOk2 (a b c d : Int) : allOk [(a, b), (c, d)] = (okP (a, b) && okP (c, d)) := by simp [allOk]
theorem allOk2_t {a b c d : Int} (h : allOk [(a, b), (c, d)] = true) : okP (a, b) = true ∧ okP (c, d) = true := by
  rw [allOk2] at h; simpa using h
theorem md_sum (a b c d x y : Int) : mdB [(a, b), (c, d)] true x y = smsB a b c d x y ∧ mdE [(a, b), (c, d)] true x y = sumE a b c d x y := by
  unfold mdB mdE smsB sumE
  rw [allOk2, Bool.and_true, Bool.true_and]
  exact ⟨rfl, rfl⟩
theorem md_meet (a b c d : Int) : mdB [(a, b), (c, d)] true (max a c) (min b d) = mtB a b c d ∧ (mtB a b c d = true → mdE [(a, b), (c, d)] true (max a c) (min b d) = 0) ∧ (mtB a b c d = false → mdE [(a, b), (c, d)] true (max a c) (min b d) = 3 ∨ mdE [(a, b), (c, d)] true (max a c) (min b d) = 4) := by
  unfold mdB mdE mtB meetB
  rw [allOk2, Bool.and_true, Bool.true_and]
  cases hv : okP (a, b)
  · exact ⟨rfl, fun h => (by cases h), fun _ => .inl rfl⟩
  · cases hv2 : okP (c, d)
    · exact ⟨rfl, fun h => (by cases h), fun _ => .inl rfl⟩
    · obtain ⟨h1, h2, h3⟩ := okP_i hv
      obtain ⟨k1, k2, k3⟩ := okP_i hv2
      by_cases h : max a c ≤ min b d
      · have e : okP (max a c, min b d) = true := okP_d ⟨by omega, by omega, h⟩
        rw [e, decide_eq_true h]
        exact ⟨rfl, fun _ => rfl, fun h => (by cases h)⟩
      · have e : okP (max a c, min b d) = false := okP_n (by omega)
        rw [e, decide_eq_false h]
        exact ⟨rfl, fun h => (by cases h), fun _ => .inr rfl⟩
theorem md_hull (a b c d : Int) : mdB [(a, b), (c, d)] true (min a c) (max b d) = hulB a b c d ∧ mdE [(a, b), (c, d)] true (min a c) (max b d) = if hulB a b c d = true then 0 else 3 := by
  unfold mdB mdE hulB
  rw [allOk2, Bool.and_true, Bool.true_and]
  cases hv : okP (a, b)
  · exact ⟨rfl, rfl⟩
  · cases hv2 : okP (c, d)
    · exact ⟨rfl, rfl⟩
    · obtain ⟨h1, h2, h3⟩ := okP_i hv
      obtain ⟨k1, k2, k3⟩ := okP_i hv2
      have e : okP (min a c, max b d) = true := okP_d ⟨by omega, by omega, by omega⟩
      rw [e]
      exact ⟨rfl, rfl⟩
/-! ### Meet, Hull -/
def sf_cmet : SFn := ⟨2, 15,
  .seq (.reg [⟨(some 2), .alloc [(.d (.int .i64 0)), (.d (.int .i64 0))], none⟩,
    ⟨(some 3), .mv (.k (.c (.d (.bool false)))), none⟩])
  (.seq (.reg [⟨(some 4), .fieldAddr 0 (.t 0), none⟩,
    ⟨(some 5), .load .sc (.t 4), none⟩,
    ⟨(some 6), .fieldAddr 0 (.t 1), none⟩,
    ⟨(some 7), .load .sc (.t 6), none⟩,
    ⟨(some 8), .max [(.t 5), (.t 7)], none⟩,
    ⟨(some 9), .fieldAddr 1 (.t 0), none⟩,
    ⟨(some 10), .load .sc (.t 9), none⟩,
    ⟨(some 11), .fieldAddr 1 (.t 1), none⟩,
    ⟨(some 12), .load .sc (.t 11), none⟩,
    ⟨(some 13), .min [(.t 10), (.t 12)], none⟩,
    ⟨(some 14), .build [(.d (.int .i64 0)), (.d (.int .i64 0))] [(0, 1, (.t 8)), (1, 1, (.t 13))], none⟩,
    ⟨none, .store (.ag 2) (.t 2) (.t 14), none⟩,
    ⟨(some 3), .mv (.k (.c (.d (.bool true)))), none⟩])
  (.ret)),
  [(2, (some (.ag 2))), (3, none)]⟩
theorem cf_cmet : compFn Try.prog { own := [], comp := [], frz := [], nils := [] } Try.f94 = some sf_cmet := by kernel_rfl
theorem cmet_f (G : Glob) (a b c d : Int) : DenF Try.prog G 94 [.ref [.int .i64 a, .int .i64 b], .ref [.int .i64 c, .int .i64 d]] [] (.tup [.c (.d (.agg [.int .i64 (max a c), .int .i64 (min b d)])), .c (.d (.bool true))]) := by
  refine ⟨enters_of Try.func94 (by kernel_rfl) rfl, ?_⟩
  refine den_walkU Try.func94 cf_cmet rfl rfl ?_
  simp only [sf_cmet, List.nil_append, List.map_cons, List.map_nil, D.up, putW, wx, wy, wz, stV, seval, IntWalk.iteOmega, IntWalk.toNatUp, reduceCtorEq, max2, min2]
  exact ret_d2 (by simp only [wx, wy, wz, stV, seval, IntWalk.iteOmega, IntWalk.toNatUp, reduceCtorEq]) (by simp only [wx, wy, wz, stV, seval, IntWalk.iteOmega, IntWalk.toNatUp, reduceCtorEq])
def sf_cadd : SFn := ⟨2, 15,
  .seq (.reg [⟨(some 2), .alloc [(.d (.int .i64 0)), (.d (.int .i64 0))], none⟩,
    ⟨(some 3), .mv (.k (.c (.d (.bool false)))), none⟩])
  (.seq (.reg [⟨(some 4), .fieldAddr 0 (.t 0), none⟩,
    ⟨(some 5), .load .sc (.t 4), none⟩,
    ⟨(some 6), .fieldAddr 0 (.t 1), none⟩,
    ⟨(some 7), .load .sc (.t 6), none⟩,
    ⟨(some 8), .bin .add (.t 5) (.t 7), none⟩,
    ⟨(some 9), .fieldAddr 1 (.t 0), none⟩,
    ⟨(some 10), .load .sc (.t 9), none⟩,
    ⟨(some 11), .fieldAddr 1 (.t 1), none⟩,
    ⟨(some 12), .load .sc (.t 11), none⟩,
    ⟨(some 13), .bin .add (.t 10) (.t 12), none⟩,
    ⟨(some 14), .build [(.d (.int .i64 0)), (.d (.int .i64 0))] [(0, 1, (.t 8)), (1, 1, (.t 13))], none⟩,
    ⟨none, .store (.ag 2) (.t 2) (.t 14), none⟩,
    ⟨(some 3), .mv (.k (.c (.d (.bool true)))), none⟩])
  (.ret)),
  [(2, (some (.ag 2))), (3, none)]⟩
theorem cf_cadd : compFn Try.prog { own := [], comp := [], frz := [], nils := [] } Try.f80 = some sf_cadd := by kernel_rfl
theorem cadd_f (G : Glob) (a b c d : Int) (h : allOk [(a, b), (c, d)] = true) : DenF Try.prog G 80 [.ref [.int .i64 a, .int .i64 b], .ref [.int .i64 c, .int .i64 d]] [] (.tup [.c (.d (.agg [.int .i64 (a + c), .int .i64 (b + d)])), .c (.d (.bool true))]) := by
  refine ⟨enters_of Try.func80 (by kernel_rfl) rfl, ?_⟩
  obtain ⟨h1, h2, h3⟩ := okP_i (allOk2_t h).1
  obtain ⟨k1, k2, k3⟩ := okP_i (allOk2_t h).2
  refine den_walkU Try.func80 cf_cadd rfl rfl ?_
  simp only [sf_cadd, List.nil_append, List.map_cons, List.map_nil, D.up, putW, wx, wy, wz, stV, seval, IntWalk.iteOmega, IntWalk.toNatUp, reduceCtorEq]
  exact ret_d2 (by simp only [wx, wy, wz, stV, seval, IntWalk.iteOmega, IntWalk.toNatUp, reduceCtorEq]) (by simp only [wx, wy, wz, stV, seval, IntWalk.iteOmega, IntWalk.toNatUp, reduceCtorEq])
def sf_csbs : SFn := ⟨2, 15,
  .seq (.reg [⟨(some 2), .alloc [(.d (.int .i64 0)), (.d (.int .i64 0))], none⟩,
    ⟨(some 3), .mv (.k (.c (.d (.bool false)))), none⟩])
  (.seq (.reg [⟨(some 4), .fieldAddr 0 (.t 0), none⟩,
    ⟨(some 5), .load .sc (.t 4), none⟩,
    ⟨(some 6), .fieldAddr 1 (.t 1), none⟩,
    ⟨(some 7), .load .sc (.t 6), none⟩,
    ⟨(some 8), .bin .sub (.t 5) (.t 7), none⟩,
    ⟨(some 9), .fieldAddr 1 (.t 0), none⟩,
    ⟨(some 10), .load .sc (.t 9), none⟩,
    ⟨(some 11), .fieldAddr 0 (.t 1), none⟩,
    ⟨(some 12), .load .sc (.t 11), none⟩,
    ⟨(some 13), .bin .sub (.t 10) (.t 12), none⟩,
    ⟨(some 14), .build [(.d (.int .i64 0)), (.d (.int .i64 0))] [(0, 1, (.t 8)), (1, 1, (.t 13))], none⟩,
    ⟨none, .store (.ag 2) (.t 2) (.t 14), none⟩,
    ⟨(some 3), .mv (.k (.c (.d (.bool true)))), none⟩])
  (.ret)),
  [(2, (some (.ag 2))), (3, none)]⟩
theorem cf_csbs : compFn Try.prog { own := [], comp := [], frz := [], nils := [] } Try.f75 = some sf_csbs := by kernel_rfl
theorem csbs_f (G : Glob) (a b c d : Int) (h : allOk [(a, b), (c, d)] = true) : DenF Try.prog G 75 [.ref [.int .i64 a, .int .i64 b], .ref [.int .i64 c, .int .i64 d]] [] (.tup [.c (.d (.agg [.int .i64 (a - d), .int .i64 (b - c)])), .c (.d (.bool true))]) := by
  refine ⟨enters_of Try.func75 (by kernel_rfl) rfl, ?_⟩
  obtain ⟨h1, h2, h3⟩ := okP_i (allOk2_t h).1
  obtain ⟨k1, k2, k3⟩ := okP_i (allOk2_t h).2
  refine den_walkU Try.func75 cf_csbs rfl rfl ?_
  simp only [sf_csbs, List.nil_append, List.map_cons, List.map_nil, D.up, putW, wx, wy, wz, stV, seval, IntWalk.iteOmega, IntWalk.toNatUp, reduceCtorEq]
  exact ret_d2 (by simp only [wx, wy, wz, stV, seval, IntWalk.iteOmega, IntWalk.toNatUp, reduceCtorEq]) (by simp only [wx, wy, wz, stV, seval, IntWalk.iteOmega, IntWalk.toNatUp, reduceCtorEq])
def sf_imet : SFn := ⟨2, 19,
  .seq (.reg [⟨(some 2), .box .roBox (.t 0), none⟩,
    ⟨(some 3), .box .roBox (.t 1), none⟩,
    ⟨(some 4), .alloc [(.d (.int .i64 0)), (.d (.int .i64 0))], none⟩,
    ⟨(some 5), .mv (.k (.c (.d (.bool false)))), none⟩])
  (.seq (.reg [⟨(some 9), .clos 94 [(.t 2), (.t 3)], none⟩,
    ⟨(some 10), .load (.ag 2) (.t 2), none⟩,
    ⟨(some 11), .load (.ag 2) (.t 3), none⟩,
    ⟨(some 12), .bldSl false 2 2 (.agg [(.int .i64 0), (.int .i64 0)]) [(0, (.t 10)), (1, (.t 11))], none⟩,
    ⟨(some 13), .call 74 [(.t 9), (.t 12)] none, none⟩,
    ⟨(some 8), .mv (.t 13), none⟩,
    ⟨(some 14), .extract (.t 8) 0, none⟩,
    ⟨(some 15), .extract (.t 8) 1, none⟩,
    ⟨(some 6), .alloc [(.d (.int .i64 0)), (.d (.int .i64 0))], none⟩,
    ⟨none, .store (.ag 2) (.t 6) (.t 14), none⟩,
    ⟨(some 7), .mv (.t 15), none⟩])
  (.seq (.reg [⟨(some 16), .load (.ag 2) (.t 6), none⟩,
    ⟨(some 17), .mv (.t 7), none⟩,
    ⟨(some 18), .bin .eql (.t 17) (.k (.c (.d (.int .i64 0)))), none⟩,
    ⟨none, .store (.ag 2) (.t 4) (.t 16), none⟩,
    ⟨(some 5), .mv (.t 18), none⟩])
  (.ret))),
  [(4, (some (.ag 2))), (5, none)]⟩
theorem cf_imet : compFn Try.prog { own := [], comp := [], frz := [], nils := [] } Try.f73 = some sf_imet := by kernel_rfl
theorem imet_c (G : Glob) (a b c d : Int) : Den Try.prog G 73 [.agg [.int .i64 a, .int .i64 b], .agg [.int .i64 c, .int .i64 d]] (.tup [.c (.d (spA (mtB a b c d) (max a c) (min b d))), .c (.d (.bool (mtB a b c d)))]) := by
  refine den_walk Try.func73 cf_imet rfl rfl ?_
  have cm := imad_c G 94 [.ref [.int .i64 a, .int .i64 b], .ref [.int .i64 c, .int .i64 d]] [(a, b), (c, d)] (by simp) true (max a c) (min b d) (fun _ => cmet_f G a b c d)
  obtain ⟨e1, e2, e3⟩ := md_meet a b c d
  rw [e1] at cm
  simp only [List.map_cons, List.map_nil, spD] at cm
  cases hm : mtB a b c d
  · rw [hm] at cm
    rcases e3 hm with e | e
    · rw [e] at cm
      simp only [sf_imet, putAll, wx, wy, wz, stV, seval, IntWalk.iteOmega, IntWalk.toNatUp, reduceCtorEq]
      refine st_call cm (by simp only [wx, wy, wz, stV, seval, IntWalk.iteOmega, IntWalk.toNatUp, reduceCtorEq]) (.inr (fl_spI _ _ _ _)) ?_
      simp only [wx, wy, wz, stV, seval, IntWalk.iteOmega, IntWalk.toNatUp, reduceCtorEq, spA]
      exact ret_d2 (by simp only [wx, wy, wz, stV, seval, IntWalk.iteOmega, IntWalk.toNatUp, reduceCtorEq]) (by simp only [wx, wy, wz, stV, seval, IntWalk.iteOmega, IntWalk.toNatUp, reduceCtorEq])
    · rw [e] at cm
      simp only [sf_imet, putAll, wx, wy, wz, stV, seval, IntWalk.iteOmega, IntWalk.toNatUp, reduceCtorEq]
      refine st_call cm (by simp only [wx, wy, wz, stV, seval, IntWalk.iteOmega, IntWalk.toNatUp, reduceCtorEq]) (.inr (fl_spI _ _ _ _)) ?_
      simp only [wx, wy, wz, stV, seval, IntWalk.iteOmega, IntWalk.toNatUp, reduceCtorEq, spA]
      exact ret_d2 (by simp only [wx, wy, wz, stV, seval, IntWalk.iteOmega, IntWalk.toNatUp, reduceCtorEq]) (by simp only [wx, wy, wz, stV, seval, IntWalk.iteOmega, IntWalk.toNatUp, reduceCtorEq])
  · rw [hm, e2 hm] at cm
    simp only [sf_imet, putAll, wx, wy, wz, stV, seval, IntWalk.iteOmega, IntWalk.toNatUp, reduceCtorEq]
    refine st_call cm (by simp only [wx, wy, wz, stV, seval, IntWalk.iteOmega, IntWalk.toNatUp, reduceCtorEq]) (.inr (fl_spI _ _ _ _)) ?_
    simp only [wx, wy, wz, stV, seval, IntWalk.iteOmega, IntWalk.toNatUp, reduceCtorEq, spA]
    exact ret_d2 (by simp only [wx, wy, wz, stV, seval, IntWalk.iteOmega, IntWalk.toNatUp, reduceCtorEq]) (by simp only [wx, wy, wz, stV, seval, IntWalk.iteOmega, IntWalk.toNatUp, reduceCtorEq])
def sf_iadd : SFn := ⟨2, 13,
  .seq (.reg [⟨(some 2), .box .roBox (.t 0), none⟩,
    ⟨(some 3), .box .roBox (.t 1), none⟩,
    ⟨(some 4), .alloc [(.d (.int .i64 0)), (.d (.int .i64 0))], none⟩,
    ⟨(some 5), .mv (.k (.c (.d (.int .i64 0)))), none⟩])
  (.seq (.reg [⟨(some 6), .clos 80 [(.t 2), (.t 3)], none⟩,
    ⟨(some 7), .load (.ag 2) (.t 2), none⟩,
    ⟨(some 8), .load (.ag 2) (.t 3), none⟩,
    ⟨(some 9), .bldSl false 2 2 (.agg [(.int .i64 0), (.int .i64 0)]) [(0, (.t 7)), (1, (.t 8))], none⟩,
    ⟨(some 10), .call 74 [(.t 6), (.t 9)] none, none⟩,
    ⟨(some 11), .extract (.t 10) 0, none⟩,
    ⟨(some 12), .extract (.t 10) 1, none⟩,
    ⟨none, .store (.ag 2) (.t 4) (.t 11), none⟩,
    ⟨(some 5), .mv (.t 12), none⟩])
  (.ret)),
  [(4, (some (.ag 2))), (5, none)]⟩
theorem cf_iadd : compFn Try.prog { own := [], comp := [], frz := [], nils := [] } Try.f50 = some sf_iadd := by kernel_rfl
theorem iadd_c (G : Glob) (a b c d : Int) : Den Try.prog G 50 [.agg [.int .i64 a, .int .i64 b], .agg [.int .i64 c, .int .i64 d]] (.tup [.c (.d (spA (smsB a b c d (a + c) (b + d)) (a + c) (b + d))), .c (.d (.int .i64 (sumE a b c d (a + c) (b + d))))]) := by
  refine den_walk Try.func50 cf_iadd rfl rfl ?_
  have cm := imad_c G 80 [.ref [.int .i64 a, .int .i64 b], .ref [.int .i64 c, .int .i64 d]] [(a, b), (c, d)] (by simp) true (a + c) (b + d) (fun h => cadd_f G a b c d h)
  obtain ⟨e1, e2⟩ := md_sum a b c d (a + c) (b + d)
  rw [e1, e2] at cm
  simp only [List.map_cons, List.map_nil, spD] at cm
  generalize smsB a b c d (a + c) (b + d) = k at *
  generalize sumE a b c d (a + c) (b + d) = e at *
  generalize a + c = x at *
  generalize b + d = y at *
  simp only [sf_iadd, putAll, wx, wy, wz, stV, seval, IntWalk.iteOmega, IntWalk.toNatUp, reduceCtorEq]
  refine st_call cm (by simp only [wx, wy, wz, stV, seval, IntWalk.iteOmega, IntWalk.toNatUp, reduceCtorEq]) (.inr (fl_spI _ _ _ _)) ?_
  simp only [wx, wy, wz, stV, seval, IntWalk.iteOmega, IntWalk.toNatUp, reduceCtorEq, spA]
  exact ret_d2 (by simp only [wx, wy, wz, stV, seval, IntWalk.iteOmega, IntWalk.toNatUp, reduceCtorEq]) (by simp only [wx, wy, wz, stV, seval, IntWalk.iteOmega, IntWalk.toNatUp, reduceCtorEq])
def sf_isbs : SFn := ⟨2, 13,
  .seq (.reg [⟨(some 2), .box .roBox (.t 0), none⟩,
    ⟨(some 3), .box .roBox (.t 1), none⟩,
    ⟨(some 4), .alloc [(.d (.int .i64 0)), (.d (.int .i64 0))], none⟩,
    ⟨(some 5), .mv (.k (.c (.d (.int .i64 0)))), none⟩])
  (.seq (.reg [⟨(some 6), .clos 75 [(.t 2), (.t 3)], none⟩,
    ⟨(some 7), .load (.ag 2) (.t 2), none⟩,
    ⟨(some 8), .load (.ag 2) (.t 3), none⟩,
    ⟨(some 9), .bldSl false 2 2 (.agg [(.int .i64 0), (.int .i64 0)]) [(0, (.t 7)), (1, (.t 8))], none⟩,
    ⟨(some 10), .call 74 [(.t 6), (.t 9)] none, none⟩,
    ⟨(some 11), .extract (.t 10) 0, none⟩,
    ⟨(some 12), .extract (.t 10) 1, none⟩,
    ⟨none, .store (.ag 2) (.t 4) (.t 11), none⟩,
    ⟨(some 5), .mv (.t 12), none⟩])
  (.ret)),
  [(4, (some (.ag 2))), (5, none)]⟩
theorem cf_isbs : compFn Try.prog { own := [], comp := [], frz := [], nils := [] } Try.f40 = some sf_isbs := by kernel_rfl
theorem isbs_c (G : Glob) (a b c d : Int) : Den Try.prog G 40 [.agg [.int .i64 a, .int .i64 b], .agg [.int .i64 c, .int .i64 d]] (.tup [.c (.d (spA (smsB a b c d (a - d) (b - c)) (a - d) (b - c))), .c (.d (.int .i64 (sumE a b c d (a - d) (b - c))))]) := by
  refine den_walk Try.func40 cf_isbs rfl rfl ?_
  have cm := imad_c G 75 [.ref [.int .i64 a, .int .i64 b], .ref [.int .i64 c, .int .i64 d]] [(a, b), (c, d)] (by simp) true (a - d) (b - c) (fun h => csbs_f G a b c d h)
  obtain ⟨e1, e2⟩ := md_sum a b c d (a - d) (b - c)
  rw [e1, e2] at cm
  simp only [List.map_cons, List.map_nil, spD] at cm
  generalize smsB a b c d (a - d) (b - c) = k at *
  generalize sumE a b c d (a - d) (b - c) = e at *
  generalize a - d = x at *
  generalize b - c = y at *
  simp only [sf_isbs, putAll, wx, wy, wz, stV, seval, IntWalk.iteOmega, IntWalk.toNatUp, reduceCtorEq]
  refine st_call cm (by simp only [wx, wy, wz, stV, seval, IntWalk.iteOmega, IntWalk.toNatUp, reduceCtorEq]) (.inr (fl_spI _ _ _ _)) ?_
  simp only [wx, wy, wz, stV, seval, IntWalk.iteOmega, IntWalk.toNatUp, reduceCtorEq, spA]
  exact ret_d2 (by simp only [wx, wy, wz, stV, seval, IntWalk.iteOmega, IntWalk.toNatUp, reduceCtorEq]) (by simp only [wx, wy, wz, stV, seval, IntWalk.iteOmega, IntWalk.toNatUp, reduceCtorEq])
/-! ### Shift, Grow -/
def grwB (d : Int) : Bool := decide (0 ≤ d ∧ d ≤ 1152921504606846976)
theorem groK_v (x y : Int) : groK x y = (grwB x && grwB y) := by
  unfold groK grwB
  rw [← Bool.decide_and]
  apply decide_eq_decide.2
  omega
/-! ### Common -/
def comC (l : List Spn) (i : Nat) : Spn := if i = 0 then l.getD 0 (0, 0) else cmV (comT l i)
theorem meet_self (p : Spn) : meetB p p = okP p ∧ meetV p p = p := by
  unfold meetB meetV
  rw [Int.max_self, Int.min_self]
  refine ⟨?_, rfl⟩
  cases h : okP p
  · rfl
  · have := (okP_t h).2.2
    rw [decide_eq_true this]; rfl
theorem comC_step {l : List Spn} {i : Nat} (h : i < l.length) (hs : i = 0 ∨ (comT l i).isSome = true) : (meetB (comC l i) (l.getD i (0, 0)) = false → comL l = none) ∧ (meetB (comC l i) (l.getD i (0, 0)) = true → (comT l (i + 1)).isSome = true ∧ comC l (i + 1) = meetV (comC l i) (l.getD i (0, 0))) := by
  by_cases h0 : i = 0
  · subst h0
    have e1 : comT l 1 = if okP (l.getD 0 (0, 0)) = true then some (l.getD 0 (0, 0)) else none := by
      unfold comT
      rw [show (1 : Nat) = 0 + 1 from rfl, takeS h]
      rfl
    rw [show comC l 0 = l.getD 0 (0, 0) from rfl, (meet_self _).1, (meet_self _).2]
    refine ⟨fun hv => comT_none (i := 1) (Nat.le_refl _) (by rw [e1, hv]; rfl), fun hv => ?_⟩
    show (comT l 1).isSome = true ∧ cmV (comT l 1) = _
    rw [e1, hv]
    exact ⟨rfl, rfl⟩
  · have hs' := hs.resolve_left h0
    have hc := comT_succ (by omega) h
    obtain ⟨p, hp⟩ := Option.isSome_iff_exists.1 hs'
    have e : comC l i = p := by unfold comC; rw [if_neg h0, hp]; rfl
    rw [hp, comF_s] at hc
    rw [e]
    refine ⟨fun hm => comT_none (i := i + 1) (by omega) (by rw [hc, hm]; rfl), fun hm => ?_⟩
    rw [hm, if_pos rfl] at hc
    show (comT l (i + 1)).isSome = true ∧ cmV (comT l (i + 1)) = _
    rw [hc]
    exact ⟨rfl, rfl⟩
def icoSt (l : List Spn) (i : Nat) : St := ⟨ofL [(2, .w (.c (.ptr 1 1 0 0))), (4, .w (.c (.ptr 2 1 0 0))), (15, .w (.c (.d (.sl (l.map spD))))), (16, .w (.c (.d (.int .i64 (l.length : Int))))), (17, .w (.c (.d (.int .i64 (i : Int)))))],
  hL [(1, .box [.d (.int .i64 0), .d (.int .i64 0)]), (2, .box [.d (.int .i64 (comC l i).1), .d (.int .i64 (comC l i).2)])], uL [1, 2]⟩
def lp_icom_0 : SCode :=
  .seq (.reg [⟨(some 18), .bin .lss (.t 17) (.t 16), none⟩])
  (.seq (.cond (.t 18) (.skip)
   (.exit 0))
  (.seq (.block 1 (.seq (.reg [⟨(some 19), .idxSl 2 (.t 15) (.t 17), none⟩,
     ⟨(some 20), .load (.ag 2) (.t 19), none⟩,
     ⟨(some 7), .alloc [(.d (.int .i64 0)), (.d (.int .i64 0))], none⟩,
     ⟨none, .store (.ag 2) (.t 7) (.t 20), none⟩])
   (.seq (.reg [⟨(some 22), .load (.ag 2) (.t 4), none⟩,
     ⟨(some 23), .load (.ag 2) (.t 7), none⟩,
     ⟨(some 24), .call 73 [(.t 22), (.t 23)] none, none⟩,
     ⟨(some 21), .mv (.t 24), none⟩,
     ⟨(some 25), .extract (.t 21) 0, none⟩,
     ⟨(some 26), .extract (.t 21) 1, none⟩,
     ⟨none, .store (.ag 2) (.t 4) (.t 25), none⟩,
     ⟨(some 5), .mv (.t 26), none⟩])
   (.seq (.reg [⟨(some 27), .mv (.t 5), none⟩,
     ⟨(some 28), .un .not (.t 27), none⟩])
   (.cond (.t 28) (.seq (.reg [⟨(some 29), .build [(.d (.int .i64 0)), (.d (.int .i64 0))] [], none⟩,
      ⟨none, .store (.ag 2) (.t 2) (.t 29), none⟩,
      ⟨(some 3), .mv (.k (.c (.d (.bool false)))), none⟩])
    (.ret))
    (.skip))))))
  (.reg [⟨(some 30), .bin .add (.t 17) (.k (.c (.d (.int .i64 1)))), none⟩,
    ⟨(some 17), .mv (.t 30), none⟩])))
def sf_icom : SFn := ⟨1, 32,
  .seq (.reg [⟨(some 2), .alloc [(.d (.int .i64 0)), (.d (.int .i64 0))], none⟩,
    ⟨(some 3), .mv (.k (.c (.d (.bool false)))), none⟩])
  (.seq (.seq (.reg [⟨(some 8), .mv (.t 0), none⟩,
    ⟨(some 9), .len (.t 8), none⟩,
    ⟨(some 10), .bin .eql (.t 9) (.k (.c (.d (.int .i64 0)))), none⟩])
  (.cond (.t 10) (.seq (.reg [⟨(some 11), .build [(.d (.int .i64 0)), (.d (.int .i64 0))] [], none⟩,
     ⟨none, .store (.ag 2) (.t 2) (.t 11), none⟩,
     ⟨(some 3), .mv (.k (.c (.d (.bool false)))), none⟩])
   (.ret))
   (.skip)))
  (.seq (.reg [⟨(some 12), .mv (.t 0), none⟩,
    ⟨(some 13), .idxSl 2 (.t 12) (.k (.c (.d (.int .i64 0)))), none⟩,
    ⟨(some 14), .load (.ag 2) (.t 13), none⟩,
    ⟨(some 4), .alloc [(.d (.int .i64 0)), (.d (.int .i64 0))], none⟩,
    ⟨none, .store (.ag 2) (.t 4) (.t 14), none⟩,
    ⟨(some 5), .mv (.k (.c (.d (.bool true)))), none⟩])
  (.seq (.seq (.reg [⟨(some 15), .mv (.t 0), none⟩,
    ⟨(some 16), .len (.t 15), none⟩,
    ⟨(some 17), .mv (.k (.c (.d (.int .i64 0)))), none⟩])
  (.block 0 (.loop lp_icom_0)))
  (.seq (.reg [⟨(some 31), .load (.ag 2) (.t 4), none⟩,
    ⟨none, .store (.ag 2) (.t 2) (.t 31), none⟩,
    ⟨(some 3), .mv (.k (.c (.d (.bool true)))), none⟩])
  (.ret))))),
  [(2, (some (.ag 2))), (3, none)]⟩
theorem cf_icom : compFn Try.prog { own := [], comp := [], frz := [], nils := [] } Try.f38 = some sf_icom := by kernel_rfl
set_option maxHeartbeats 1600000 in
theorem icom_c (G : Glob) (l : List Spn) (hl : l.length ≤ 9223372036854775807) : Den Try.prog G 38 [.sl (l.map spD)] (.tup [.c (.d (spD (cmV (comL l)))), .c (.d (.bool (comL l).isSome))]) := by
  refine den_walk Try.func38 cf_icom rfl rfl ?_
  by_cases h0 : l.length = 0
  · have hn : l = [] := List.length_eq_zero_iff.1 h0
    subst hn
    simp only [sf_icom, putAll, wx, wy, wz, stV, seval, IntWalk.iteOmega, IntWalk.toNatUp, reduceCtorEq]
    have e : comL [] = none := rfl
    simp only [e, cmV, spD, Option.getD_none, Option.isSome_none]
    exact ret_d2 (by simp only [wx, wy, wz, stV, seval, IntWalk.iteOmega, IntWalk.toNatUp, reduceCtorEq]) (by simp only [wx, wy, wz, stV, seval, IntWalk.iteOmega, IntWalk.toNatUp, reduceCtorEq])
  · have g0 := getS (l := l) (j := 0) (by omega)
    have hl0 : ((l.length : Int) = 0) = False := eq_false (by omega)
    simp only [sf_icom, putAll, wx, wy, wz, stV, seval, IntWalk.iteOmega, IntWalk.toNatUp, reduceCtorEq, get_map, g0, spD, hl0]
    refine loop_st (icoSt l) (fun i => l.length - i) (fun i => i ≤ l.length ∧ (i = 0 ∨ (comT l i).isSome = true)) 0 ⟨Nat.zero_le _, .inl rfl⟩ ?_ ?_
    · have e2 : comC l 0 = l.getD 0 (0, 0) := rfl
      refine ent_l (fun i => if i = 1 then 16 else 32) ?_ ?_ rfl rfl <;> simp only [wx, wex, wez, stV, seval, IntWalk.iteOmega, IntWalk.toNatUp, reduceCtorEq, e2]
    · rintro i ⟨hi, hs⟩
      by_cases hlt : i < l.length
      · have g := getS hlt
        obtain ⟨s1, s2⟩ := comC_step hlt hs
        have cm := imet_c G (comC l i).1 (comC l i).2 (l.getD i (0, 0)).1 (l.getD i (0, 0)).2
        have hmb : mtB (comC l i).1 (comC l i).2 (l.getD i (0, 0)).1 (l.getD i (0, 0)).2 = meetB (comC l i) (l.getD i (0, 0)) := rfl
        rw [hmb] at cm
        cases hm : meetB (comC l i) (l.getD i (0, 0))
        · rw [hm] at cm
          rw [s1 hm]
          simp only [lp_icom_0, icoSt, wx, wy, wz, stV, seval, IntWalk.iteOmega, IntWalk.toNatUp, reduceCtorEq, get_map, g, spD]
          refine st_call (cm) rfl (.inl rfl) ?_
          simp only [spA, wx, wy, wz, stV, seval, IntWalk.iteOmega, IntWalk.toNatUp, reduceCtorEq]
          simp only [cmV, Option.getD_none, Option.isSome_none]
          exact ret_d2 (by simp only [wx, wy, wz, stV, seval, IntWalk.iteOmega, IntWalk.toNatUp, reduceCtorEq]) (by simp only [wx, wy, wz, stV, seval, IntWalk.iteOmega, IntWalk.toNatUp, reduceCtorEq])
        · rw [hm] at cm
          obtain ⟨k1, k2⟩ := s2 hm
          have e3 : comC l (i + 1) = (max (comC l i).1 (l.getD i (0, 0)).1, min (comC l i).2 (l.getD i (0, 0)).2) := k2
          simp only [lp_icom_0, icoSt, wx, wy, wz, stV, seval, IntWalk.iteOmega, IntWalk.toNatUp, reduceCtorEq, get_map, g, spD]
          refine st_call (cm) rfl (.inl rfl) ?_
          simp only [spA, wx, wy, wz, stV, seval, IntWalk.iteOmega, IntWalk.toNatUp, reduceCtorEq]
          refine lop_next (i + 1) (by omega) ⟨by omega, .inr k1⟩ (ent_l (fun i => i) ?_ ?_ rfl rfl) <;> simp only [wx, wex, wez, stV, seval, IntWalk.iteOmega, IntWalk.toNatUp, reduceCtorEq, e3]
      · have hil : i = l.length := by omega
        have hs' := hs.resolve_left (by omega)
        have hcl : comT l i = comL l := by unfold comT; rw [hil, List.take_length]
        have e4 : comC l i = cmV (comL l) := by unfold comC; rw [if_neg (by omega), hcl]
        simp only [lp_icom_0, icoSt, wx, wy, wz, stV, seval, IntWalk.iteOmega, IntWalk.toNatUp, reduceCtorEq, e4]
        rw [hcl] at hs'
        rw [hs']
        unfold spD
        exact ret_d2 (by simp only [wx, wy, wz, stV, seval, IntWalk.iteOmega, IntWalk.toNatUp, reduceCtorEq]) (by simp only [wx, wy, wz, stV, seval, IntWalk.iteOmega, IntWalk.toNatUp, reduceCtorEq])
end Go.Proofs.Ytjebhdadegfbdaa
set_option linter.unusedVariables false
set_option linter.unusedSimpArgs false
namespace Go.Proofs.Ytjebhdadegfbdaa
open Go.RowKit

def upB (n m : Int) : Bool := decide (0 ≤ n ∧ n ≤ m)
theorem upB_t {n m : Int} (h : 0 ≤ n ∧ n ≤ m) : upB n m = true := decide_eq_true h
theorem upB_f {n m : Int} (h : ¬ (0 ≤ n ∧ n ≤ m)) : upB n m = false := decide_eq_false h
def sf_dup : SFn := ⟨2, 12,
  .seq (.reg [⟨(some 4), .mv (.k (.c (.d (.bool false)))), none⟩])
  (.seq (.reg [⟨(some 5), .mv (.t 0), none⟩,
    ⟨(some 6), .bin .geq (.t 5) (.k (.c (.d (.int .i64 0)))), none⟩,
    ⟨(some 7), .mv (.t 6), none⟩,
    ⟨(some 8), .mv (.t 0), (some (7, true))⟩,
    ⟨(some 9), .mv (.t 1), (some (7, true))⟩,
    ⟨(some 10), .bin .leq (.t 8) (.t 9), (some (7, true))⟩,
    ⟨(some 11), .pick (.t 7) (.t 10) (.k (.c (.d (.bool false)))), none⟩,
    ⟨(some 4), .mv (.t 11), none⟩])
  (.ret)),
  [(4, none)]⟩
theorem cf_dup : compFn Try.prog { own := [], comp := [], frz := [], nils := [] } Try.f55 = some sf_dup := by kernel_rfl
theorem dup_c (G : Glob) (n m : Int) : Den Try.prog G 55 [.int .i64 n, .int .i64 m] (.w (.c (.d (.bool (upB n m))))) := by
  refine den_walk Try.func55 cf_dup rfl rfl ?_
  by_cases h : n ≥ 0
  · by_cases h2 : n ≤ m
    · rw [upB_t ⟨h, h2⟩]
      simp only [sf_dup, putAll, wx, wy, wz, stV, seval, IntWalk.iteOmega, IntWalk.toNatUp, reduceCtorEq, eq_true h, eq_true h2]
      exact ret_d1 (by simp only [wx, wy, wz, stV, seval, IntWalk.iteOmega, IntWalk.toNatUp, reduceCtorEq])
    · rw [upB_f (by omega)]
      simp only [sf_dup, putAll, wx, wy, wz, stV, seval, IntWalk.iteOmega, IntWalk.toNatUp, reduceCtorEq, eq_true h, eq_false h2]
      exact ret_d1 (by simp only [wx, wy, wz, stV, seval, IntWalk.iteOmega, IntWalk.toNatUp, reduceCtorEq])
  · rw [upB_f (by omega)]
    simp only [sf_dup, putAll, wx, wy, wz, stV, seval, IntWalk.iteOmega, IntWalk.toNatUp, reduceCtorEq, eq_false h]
    exact ret_d1 (by simp only [wx, wy, wz, stV, seval, IntWalk.iteOmega, IntWalk.toNatUp, reduceCtorEq])
def sf_dfit : SFn := ⟨3, 39,
  .seq (.reg [⟨(some 6), .mv (.k (.c (.d (.bool false)))), none⟩])
  (.seq (.seq (.reg [⟨(some 9), .mv (.t 0), none⟩,
    ⟨(some 10), .call 55 [(.t 9), (.k (.c (.d (.int .i64 1152921504606846976))))] none, none⟩,
    ⟨(some 11), .un .not (.t 10), none⟩,
    ⟨(some 12), .mv (.t 11), none⟩,
    ⟨(some 13), .mv (.t 1), (some (12, false))⟩,
    ⟨(some 14), .call 55 [(.t 13), (.k (.c (.d (.int .i64 1152921504606846976))))] none, (some (12, false))⟩,
    ⟨(some 15), .un .not (.t 14), (some (12, false))⟩,
    ⟨(some 16), .pick (.t 12) (.k (.c (.d (.bool true)))) (.t 15), none⟩])
  (.cond (.t 16) (.seq (.reg [⟨(some 6), .mv (.k (.c (.d (.bool false)))), none⟩])
   (.ret))
   (.skip)))
  (.seq (.reg [⟨(some 18), .mv (.t 0), none⟩,
    ⟨(some 19), .mv (.t 2), none⟩,
    ⟨(some 20), .call 47 [(.t 18), (.t 19), (.k (.c (.d (.bool false))))] none, none⟩,
    ⟨(some 17), .mv (.t 20), none⟩,
    ⟨(some 21), .extract (.t 17) 0, none⟩,
    ⟨(some 22), .extract (.t 17) 1, none⟩,
    ⟨(some 7), .mv (.t 21), none⟩,
    ⟨(some 8), .mv (.t 22), none⟩])
  (.seq (.reg [⟨(some 23), .mv (.t 8), none⟩,
    ⟨(some 24), .bin .eql (.t 23) (.k (.c (.d (.int .i64 0)))), none⟩,
    ⟨(some 25), .mv (.t 24), none⟩,
    ⟨(some 26), .mv (.t 1), (some (25, true))⟩,
    ⟨(some 27), .mv (.t 0), (some (25, true))⟩,
    ⟨(some 28), .bin .sub (.t 26) (.t 27), (some (25, true))⟩,
    ⟨(some 29), .mv (.t 7), (some (25, true))⟩,
    ⟨(some 30), .bin .leq (.t 28) (.t 29), (some (25, true))⟩,
    ⟨(some 31), .pick (.t 25) (.t 30) (.k (.c (.d (.bool false)))), none⟩,
    ⟨(some 32), .mv (.t 31), none⟩,
    ⟨(some 33), .mv (.t 0), (some (32, true))⟩,
    ⟨(some 34), .mv (.t 1), (some (32, true))⟩,
    ⟨(some 35), .bin .sub (.t 33) (.t 34), (some (32, true))⟩,
    ⟨(some 36), .mv (.t 7), (some (32, true))⟩,
    ⟨(some 37), .bin .leq (.t 35) (.t 36), (some (32, true))⟩,
    ⟨(some 38), .pick (.t 32) (.t 37) (.k (.c (.d (.bool false)))), none⟩,
    ⟨(some 6), .mv (.t 38), none⟩])
  (.ret)))),
  [(6, none)]⟩
theorem cf_dfit : compFn Try.prog { own := [], comp := [], frz := [], nils := [] } Try.f23 = some sf_dfit := by kernel_rfl
theorem dfit_c (G : Glob) (e d p : Int) : Den Try.prog G 23 [.int .i64 e, .int .i64 d, .int .i64 p] (.w (.c (.d (.bool (fitB e d p))))) := by
  refine den_walk Try.func23 cf_dfit rfl rfl ?_
  have c1 := dup_c G e 1152921504606846976
  have c2 := dup_c G d 1152921504606846976
  by_cases h1 : 0 ≤ e ∧ e ≤ 1152921504606846976
  · rw [upB_t h1] at c1
    by_cases h2 : 0 ≤ d ∧ d ≤ 1152921504606846976
    · rw [upB_t h2] at c2
      have cs := sca_c G e p false (by omega) (by omega)
      by_cases h3 : 0 ≤ p ∧ p ≤ 1000000
      · have hs : scaB e p = true := scaB_t (by omega) h3.1 h3.2
        unfold scaV scaE at cs
        rw [hs, if_pos rfl, if_pos rfl, sca_dn] at cs
        have q1 : 0 ≤ e * p / 1000000000 := Int.ediv_nonneg (Int.mul_nonneg h1.1 h3.1) (by decide)
        have hf := fit_sca e d p
        have hb : fitB e d p = decide (fitP e d p) := by
          unfold fitB; rw [decide_eq_true ⟨h1.1, h1.2, h2.1, h2.2, h3.1, h3.2⟩]; rfl
        have t1 : d - e ≤ e * p / 1000000000 ∧ e - d ≤ e * p / 1000000000 → fitB e d p = true := fun h => by rw [hb]; exact decide_eq_true (hf.2 h)
        have t2 : ¬ (d - e ≤ e * p / 1000000000 ∧ e - d ≤ e * p / 1000000000) → fitB e d p = false := fun h => by rw [hb]; exact decide_eq_false (fun k => h (hf.1 k))
        clear hb hf
        generalize fitB e d p = F at *
        generalize e * p / 1000000000 = M at *
        by_cases k1 : d - e ≤ M
        · by_cases k2 : e - d ≤ M
          · rw [t1 ⟨k1, k2⟩]
            simp only [sf_dfit, putAll, wx, wy, wz, stV, seval, IntWalk.iteOmega, IntWalk.toNatUp, reduceCtorEq]
            refine st_call (c1) rfl (.inl rfl) ?_
            simp only [wx, wy, wz, stV, seval, IntWalk.iteOmega, IntWalk.toNatUp, reduceCtorEq]
            refine st_call (c2) rfl (.inl rfl) ?_
            simp only [wx, wy, wz, stV, seval, IntWalk.iteOmega, IntWalk.toNatUp, reduceCtorEq]
            refine st_call (cs) rfl (.inl rfl) ?_
            simp only [k1, k2, wx, wy, wz, stV, seval, IntWalk.iteOmega, IntWalk.toNatUp, reduceCtorEq]
            exact ret_d1 (by simp only [wx, wy, wz, stV, seval, IntWalk.iteOmega, IntWalk.toNatUp, reduceCtorEq])
          · rw [t2 (fun h => k2 h.2)]
            simp only [sf_dfit, putAll, wx, wy, wz, stV, seval, IntWalk.iteOmega, IntWalk.toNatUp, reduceCtorEq]
            refine st_call (c1) rfl (.inl rfl) ?_
            simp only [wx, wy, wz, stV, seval, IntWalk.iteOmega, IntWalk.toNatUp, reduceCtorEq]
            refine st_call (c2) rfl (.inl rfl) ?_
            simp only [wx, wy, wz, stV, seval, IntWalk.iteOmega, IntWalk.toNatUp, reduceCtorEq]
            refine st_call (cs) rfl (.inl rfl) ?_
            simp only [k1, k2, wx, wy, wz, stV, seval, IntWalk.iteOmega, IntWalk.toNatUp, reduceCtorEq]
            exact ret_d1 (by simp only [wx, wy, wz, stV, seval, IntWalk.iteOmega, IntWalk.toNatUp, reduceCtorEq])
        · rw [t2 (fun h => k1 h.1)]
          simp only [sf_dfit, putAll, wx, wy, wz, stV, seval, IntWalk.iteOmega, IntWalk.toNatUp, reduceCtorEq]
          refine st_call (c1) rfl (.inl rfl) ?_
          simp only [wx, wy, wz, stV, seval, IntWalk.iteOmega, IntWalk.toNatUp, reduceCtorEq]
          refine st_call (c2) rfl (.inl rfl) ?_
          simp only [wx, wy, wz, stV, seval, IntWalk.iteOmega, IntWalk.toNatUp, reduceCtorEq]
          refine st_call (cs) rfl (.inl rfl) ?_
          simp only [k1, wx, wy, wz, stV, seval, IntWalk.iteOmega, IntWalk.toNatUp, reduceCtorEq]
          exact ret_d1 (by simp only [wx, wy, wz, stV, seval, IntWalk.iteOmega, IntWalk.toNatUp, reduceCtorEq])
      · have hs : scaB e p = false := by
          unfold scaB; rw [decide_eq_false h3]; exact Bool.and_false _
        rw [fitB_f (fun h => h3 ⟨h.2.2.2.2.1, h.2.2.2.2.2⟩)]
        unfold scaV scaE at cs
        rw [hs] at cs
        simp only [Bool.false_eq_true, if_false] at cs
        simp only [sf_dfit, putAll, wx, wy, wz, stV, seval, IntWalk.iteOmega, IntWalk.toNatUp, reduceCtorEq]
        refine st_call (c1) rfl (.inl rfl) ?_
        simp only [wx, wy, wz, stV, seval, IntWalk.iteOmega, IntWalk.toNatUp, reduceCtorEq]
        refine st_call (c2) rfl (.inl rfl) ?_
        simp only [wx, wy, wz, stV, seval, IntWalk.iteOmega, IntWalk.toNatUp, reduceCtorEq]
        refine st_call (cs) rfl (.inl rfl) ?_
        simp only [wx, wy, wz, stV, seval, IntWalk.iteOmega, IntWalk.toNatUp, reduceCtorEq]
        exact ret_d1 (by simp only [wx, wy, wz, stV, seval, IntWalk.iteOmega, IntWalk.toNatUp, reduceCtorEq])
    · rw [upB_f h2] at c2
      rw [fitB_f (fun h => h2 ⟨h.2.2.1, h.2.2.2.1⟩)]
      simp only [sf_dfit, putAll, wx, wy, wz, stV, seval, IntWalk.iteOmega, IntWalk.toNatUp, reduceCtorEq]
      refine st_call (c1) rfl (.inl rfl) ?_
      simp only [wx, wy, wz, stV, seval, IntWalk.iteOmega, IntWalk.toNatUp, reduceCtorEq]
      refine st_call (c2) rfl (.inl rfl) ?_
      simp only [wx, wy, wz, stV, seval, IntWalk.iteOmega, IntWalk.toNatUp, reduceCtorEq]
      exact ret_d1 (by simp only [wx, wy, wz, stV, seval, IntWalk.iteOmega, IntWalk.toNatUp, reduceCtorEq])
  · rw [upB_f h1] at c1
    rw [fitB_f (fun h => h1 ⟨h.1, h.2.1⟩)]
    simp only [sf_dfit, putAll, wx, wy, wz, stV, seval, IntWalk.iteOmega, IntWalk.toNatUp, reduceCtorEq]
    refine st_call (c1) rfl (.inl rfl) ?_
    simp only [wx, wy, wz, stV, seval, IntWalk.iteOmega, IntWalk.toNatUp, reduceCtorEq]
    exact ret_d1 (by simp only [wx, wy, wz, stV, seval, IntWalk.iteOmega, IntWalk.toNatUp, reduceCtorEq])
def sf_drec : SFn := ⟨2, 11,
  .seq (.reg [⟨(some 4), .mv (.k (.c (.d (.bool false)))), none⟩])
  (.seq (.reg [⟨(some 5), .mv (.t 0), none⟩,
    ⟨(some 6), .call 55 [(.t 5), (.k (.c (.d (.int .i64 576460752303423488))))] none, none⟩,
    ⟨(some 7), .mv (.t 6), none⟩,
    ⟨(some 8), .mv (.t 1), (some (7, true))⟩,
    ⟨(some 9), .call 55 [(.t 8), (.k (.c (.d (.int .i64 1000000))))] none, (some (7, true))⟩,
    ⟨(some 10), .pick (.t 7) (.t 9) (.k (.c (.d (.bool false)))), none⟩,
    ⟨(some 4), .mv (.t 10), none⟩])
  (.ret)),
  [(4, none)]⟩
theorem cf_drec : compFn Try.prog { own := [], comp := [], frz := [], nils := [] } Try.f43 = some sf_drec := by kernel_rfl
theorem drec_c (G : Glob) (d p : Int) : Den Try.prog G 43 [.int .i64 d, .int .i64 p] (.w (.c (.d (.bool (inD d p))))) := by
  refine den_walk Try.func43 cf_drec rfl rfl ?_
  have c1 := dup_c G d 576460752303423488
  have c2 := dup_c G p 1000000
  by_cases h1 : 0 ≤ d ∧ d ≤ 576460752303423488
  · rw [upB_t h1] at c1
    by_cases h2 : 0 ≤ p ∧ p ≤ 1000000
    · rw [upB_t h2] at c2
      rw [inD_d ⟨h1.1, h1.2, h2⟩]
      simp only [sf_drec, putAll, wx, wy, wz, stV, seval, IntWalk.iteOmega, IntWalk.toNatUp, reduceCtorEq]
      refine st_call (c1) rfl (.inl rfl) ?_
      simp only [wx, wy, wz, stV, seval, IntWalk.iteOmega, IntWalk.toNatUp, reduceCtorEq]
      refine st_call (c2) rfl (.inl rfl) ?_
      simp only [wx, wy, wz, stV, seval, IntWalk.iteOmega, IntWalk.toNatUp, reduceCtorEq]
      exact ret_d1 (by simp only [wx, wy, wz, stV, seval, IntWalk.iteOmega, IntWalk.toNatUp, reduceCtorEq])
    · rw [upB_f h2] at c2
      rw [inD_f (fun h => h2 h.2.2)]
      simp only [sf_drec, putAll, wx, wy, wz, stV, seval, IntWalk.iteOmega, IntWalk.toNatUp, reduceCtorEq]
      refine st_call (c1) rfl (.inl rfl) ?_
      simp only [wx, wy, wz, stV, seval, IntWalk.iteOmega, IntWalk.toNatUp, reduceCtorEq]
      refine st_call (c2) rfl (.inl rfl) ?_
      simp only [wx, wy, wz, stV, seval, IntWalk.iteOmega, IntWalk.toNatUp, reduceCtorEq]
      exact ret_d1 (by simp only [wx, wy, wz, stV, seval, IntWalk.iteOmega, IntWalk.toNatUp, reduceCtorEq])
  · rw [upB_f h1] at c1
    rw [inD_f (fun h => h1 ⟨h.1, h.2.1⟩)]
    simp only [sf_drec, putAll, wx, wy, wz, stV, seval, IntWalk.iteOmega, IntWalk.toNatUp, reduceCtorEq]
    refine st_call (c1) rfl (.inl rfl) ?_
    simp only [wx, wy, wz, stV, seval, IntWalk.iteOmega, IntWalk.toNatUp, reduceCtorEq]
    exact ret_d1 (by simp only [wx, wy, wz, stV, seval, IntWalk.iteOmega, IntWalk.toNatUp, reduceCtorEq])
theorem mod_in {d r : Int} (h : 999000000 ≤ r) (h2 : r ≤ 1001000000) : 0 ≤ (d - d / r * r) ∧ (d - d / r * r) ≤ 1001000000 ∧ 0 ≤ (d - d / r * r) * 1000000000 ∧ (d - d / r * r) * 1000000000 ≤ 1001000000000000000 := by
  rw [emod_sub]
  have e2 := Int.emod_nonneg d (show r ≠ 0 by omega)
  have e3 := Int.emod_lt_of_pos d (show 0 < r by omega)
  generalize d % r = x at *
  omega
def sf_dcnv : SFn := ⟨3, 33,
  .seq (.reg [⟨(some 6), .mv (.k (.c (.d (.int .i64 0)))), none⟩])
  (.seq (.reg [⟨(some 12), .mv (.t 0), none⟩,
    ⟨(some 13), .mv (.t 1), none⟩,
    ⟨(some 14), .call 77 [(.t 12), (.t 13), (.k (.c (.d (.bool false))))] none, none⟩,
    ⟨(some 11), .mv (.t 14), none⟩,
    ⟨(some 15), .extract (.t 11) 0, none⟩,
    ⟨(some 16), .extract (.t 11) 1, none⟩,
    ⟨(some 7), .mv (.t 15), none⟩,
    ⟨(some 8), .mv (.t 16), none⟩])
  (.seq (.reg [⟨(some 18), .mv (.t 0), none⟩,
    ⟨(some 19), .mv (.t 7), none⟩,
    ⟨(some 20), .mv (.t 1), none⟩,
    ⟨(some 21), .bin .mul (.t 19) (.t 20), none⟩,
    ⟨(some 22), .bin .sub (.t 18) (.t 21), none⟩,
    ⟨(some 23), .bin .mul (.t 22) (.k (.c (.d (.int .i64 1000000000)))), none⟩,
    ⟨(some 24), .mv (.t 1), none⟩,
    ⟨(some 25), .mv (.t 2), none⟩,
    ⟨(some 26), .call 77 [(.t 23), (.t 24), (.t 25)] none, none⟩,
    ⟨(some 17), .mv (.t 26), none⟩,
    ⟨(some 27), .extract (.t 17) 0, none⟩,
    ⟨(some 28), .extract (.t 17) 1, none⟩,
    ⟨(some 9), .mv (.t 27), none⟩,
    ⟨(some 10), .mv (.t 28), none⟩])
  (.seq (.reg [⟨(some 29), .mv (.t 7), none⟩,
    ⟨(some 30), .bin .mul (.t 29) (.k (.c (.d (.int .i64 1000000000)))), none⟩,
    ⟨(some 31), .mv (.t 9), none⟩,
    ⟨(some 32), .bin .add (.t 30) (.t 31), none⟩,
    ⟨(some 6), .mv (.t 32), none⟩])
  (.ret)))),
  [(6, none)]⟩
theorem cf_dcnv : compFn Try.prog { own := [], comp := [], frz := [], nils := [] } Try.f44 = some sf_dcnv := by kernel_rfl
theorem dcnv_c (G : Glob) (d r : Int) (up : Bool) (h1 : 0 ≤ d) (h2 : d ≤ 576460752303423488) (r1 : 999000000 ≤ r) (r2 : r ≤ 1001000000) : Den Try.prog G 44 [.int .i64 d, .int .i64 r, .bool up] (.w (.c (.d (.int .i64 (if up = true then upQ (d * 1000000000) r else d * 1000000000 / r))))) := by
  refine den_walk Try.func44 cf_dcnv rfl rfl ?_
  obtain ⟨m1, m2, m3, m4⟩ := mod_in (d := d) r1 r2
  have ck := ratio_I d 1000000000 (c := r) (by omega) up
  have q1 : 0 ≤ d / r := Int.ediv_nonneg h1 (by omega)
  have q2 : d / r ≤ 577037790 := by
    have : d / r ≤ d / 999000000 := by
      rw [Int.le_ediv_iff_mul_le (by decide)]
      have a := Int.mul_le_mul_of_nonneg_left r1 q1
      have b := Int.ediv_mul_le d (show r ≠ 0 by omega)
      omega
    omega
  have c1 := div_c G d r false (by omega) (by omega)
  have c2 := div_c G ((d - d / r * r) * 1000000000) r up (by omega) (by omega)
  unfold divV divE at c1 c2
  rw [valT_t (by omega), if_neg (by simp; omega), if_neg (by simp; omega), round_dnQ] at c1
  rw [valT_t (by omega), if_neg (by simp; omega), if_neg (by simp; omega)] at c2
  have q3 := (round_in ((d - d / r * r) * 1000000000) (show 1 ≤ r by omega) up).1 m3
  rw [← ck]
  have qr : d / r * r ≤ d := Int.ediv_mul_le d (by omega)
  have qr0 : 0 ≤ d / r * r := Int.mul_nonneg q1 (by omega)
  clear ck
  generalize roundI ((d - d / r * r) * 1000000000) r up = R at *
  generalize hX : d / r * r = X at *
  generalize d / r = Q at *
  simp only [sf_dcnv, putAll, wx, wy, wz, stV, seval, IntWalk.iteOmega, IntWalk.toNatUp, reduceCtorEq]
  refine st_call (c1) rfl (.inl rfl) ?_
  simp only [hX, wx, wy, wz, stV, seval, IntWalk.iteOmega, IntWalk.toNatUp, reduceCtorEq]
  refine st_call (c2) rfl (.inl rfl) ?_
  simp only [wx, wy, wz, stV, seval, IntWalk.iteOmega, IntWalk.toNatUp, reduceCtorEq]
  exact ret_d1 (by simp only [wx, wy, wz, stV, seval, IntWalk.iteOmega, IntWalk.toNatUp, reduceCtorEq])
def sf_dela : SFn := ⟨2, 20,
  .seq (.reg [⟨(some 4), .alloc [(.d (.int .i64 0)), (.d (.int .i64 0))], none⟩,
    ⟨(some 5), .mv (.k (.c (.d (.int .i64 0)))), none⟩])
  (.seq (.seq (.reg [⟨(some 6), .mv (.t 0), none⟩,
    ⟨(some 7), .mv (.t 1), none⟩,
    ⟨(some 8), .call 43 [(.t 6), (.t 7)] none, none⟩,
    ⟨(some 9), .un .not (.t 8), none⟩])
  (.cond (.t 9) (.seq (.reg [⟨(some 10), .build [(.d (.int .i64 0)), (.d (.int .i64 0))] [], none⟩,
     ⟨none, .store (.ag 2) (.t 4) (.t 10), none⟩,
     ⟨(some 5), .mv (.k (.c (.d (.int .i64 4)))), none⟩])
   (.ret))
   (.skip)))
  (.seq (.reg [⟨(some 11), .mv (.t 0), none⟩,
    ⟨(some 12), .mv (.t 1), none⟩,
    ⟨(some 13), .bin .add (.k (.c (.d (.int .i64 1000000000)))) (.t 12), none⟩,
    ⟨(some 14), .call 44 [(.t 11), (.t 13), (.k (.c (.d (.bool false))))] none, none⟩,
    ⟨(some 15), .mv (.t 0), none⟩,
    ⟨(some 16), .mv (.t 1), none⟩,
    ⟨(some 17), .bin .sub (.k (.c (.d (.int .i64 1000000000)))) (.t 16), none⟩,
    ⟨(some 18), .call 44 [(.t 15), (.t 17), (.k (.c (.d (.bool true))))] none, none⟩,
    ⟨(some 19), .build [(.d (.int .i64 0)), (.d (.int .i64 0))] [(0, 1, (.t 14)), (1, 1, (.t 18))], none⟩,
    ⟨none, .store (.ag 2) (.t 4) (.t 19), none⟩,
    ⟨(some 5), .mv (.k (.c (.d (.int .i64 0)))), none⟩])
  (.ret))),
  [(4, (some (.ag 2))), (5, none)]⟩
theorem cf_dela : compFn Try.prog { own := [], comp := [], frz := [], nils := [] } Try.f12 = some sf_dela := by kernel_rfl
theorem dela_c (G : Glob) (d p : Int) : Den Try.prog G 12 [.int .i64 d, .int .i64 p] (.tup [.c (.d (spA (inD d p) (elA d p) (elB d p))), .c (.d (.int .i64 (elaE d p)))]) := by
  refine den_walk Try.func12 cf_dela rfl rfl ?_
  have c1 := drec_c G d p
  unfold spA elaE
  cases hv : inD d p
  · rw [hv] at c1
    simp only [sf_dela, putAll, wx, wy, wz, stV, seval, IntWalk.iteOmega, IntWalk.toNatUp, reduceCtorEq]
    refine st_call (c1) rfl (.inl rfl) ?_
    simp only [wx, wy, wz, stV, seval, IntWalk.iteOmega, IntWalk.toNatUp, reduceCtorEq]
    exact ret_d2 (by simp only [wx, wy, wz, stV, seval, IntWalk.iteOmega, IntWalk.toNatUp, reduceCtorEq]) (by simp only [wx, wy, wz, stV, seval, IntWalk.iteOmega, IntWalk.toNatUp, reduceCtorEq])
  · rw [hv] at c1
    obtain ⟨h1, h2, h3, h4⟩ := inD_t hv
    have c2 := dcnv_c G d (1000000000 + p) false h1 h2 (by omega) (by omega)
    have c3 := dcnv_c G d (1000000000 - p) true h1 h2 (by omega) (by omega)
    rw [if_pos rfl] at c3
    rw [if_neg (by decide)] at c2
    rw [if_pos rfl, if_pos rfl, if_pos rfl]
    unfold elA elB
    generalize d * 1000000000 / (1000000000 + p) = A at *
    generalize upQ (d * 1000000000) (1000000000 - p) = B at *
    simp only [sf_dela, putAll, wx, wy, wz, stV, seval, IntWalk.iteOmega, IntWalk.toNatUp, reduceCtorEq]
    refine st_call (c1) rfl (.inl rfl) ?_
    simp only [wx, wy, wz, stV, seval, IntWalk.iteOmega, IntWalk.toNatUp, reduceCtorEq]
    refine st_call (c2) rfl (.inl rfl) ?_
    simp only [wx, wy, wz, stV, seval, IntWalk.iteOmega, IntWalk.toNatUp, reduceCtorEq]
    refine st_call (c3) rfl (.inl rfl) ?_
    simp only [wx, wy, wz, stV, seval, IntWalk.iteOmega, IntWalk.toNatUp, reduceCtorEq]
    exact ret_d2 (by simp only [wx, wy, wz, stV, seval, IntWalk.iteOmega, IntWalk.toNatUp, reduceCtorEq]) (by simp only [wx, wy, wz, stV, seval, IntWalk.iteOmega, IntWalk.toNatUp, reduceCtorEq])
def sf_dadv : SFn := ⟨2, 27,
  .seq (.reg [⟨(some 4), .alloc [(.d (.int .i64 0)), (.d (.int .i64 0))], none⟩,
    ⟨(some 5), .mv (.k (.c (.d (.int .i64 0)))), none⟩])
  (.seq (.seq (.reg [⟨(some 8), .mv (.t 0), none⟩,
    ⟨(some 9), .mv (.t 1), none⟩,
    ⟨(some 10), .call 43 [(.t 8), (.t 9)] none, none⟩,
    ⟨(some 11), .un .not (.t 10), none⟩])
  (.cond (.t 11) (.seq (.reg [⟨(some 12), .build [(.d (.int .i64 0)), (.d (.int .i64 0))] [], none⟩,
     ⟨none, .store (.ag 2) (.t 4) (.t 12), none⟩,
     ⟨(some 5), .mv (.k (.c (.d (.int .i64 4)))), none⟩])
   (.ret))
   (.skip)))
  (.seq (.reg [⟨(some 14), .mv (.t 0), none⟩,
    ⟨(some 15), .mv (.t 1), none⟩,
    ⟨(some 16), .call 47 [(.t 14), (.t 15), (.k (.c (.d (.bool true))))] none, none⟩,
    ⟨(some 13), .mv (.t 16), none⟩,
    ⟨(some 17), .extract (.t 13) 0, none⟩,
    ⟨(some 18), .extract (.t 13) 1, none⟩,
    ⟨(some 6), .mv (.t 17), none⟩,
    ⟨(some 7), .mv (.t 18), none⟩])
  (.seq (.reg [⟨(some 19), .mv (.t 0), none⟩,
    ⟨(some 20), .mv (.t 6), none⟩,
    ⟨(some 21), .bin .sub (.t 19) (.t 20), none⟩,
    ⟨(some 22), .mv (.t 0), none⟩,
    ⟨(some 23), .mv (.t 6), none⟩,
    ⟨(some 24), .bin .add (.t 22) (.t 23), none⟩,
    ⟨(some 25), .build [(.d (.int .i64 0)), (.d (.int .i64 0))] [(0, 1, (.t 21)), (1, 1, (.t 24))], none⟩,
    ⟨(some 26), .mv (.t 7), none⟩,
    ⟨none, .store (.ag 2) (.t 4) (.t 25), none⟩,
    ⟨(some 5), .mv (.t 26), none⟩])
  (.ret)))),
  [(4, (some (.ag 2))), (5, none)]⟩
theorem cf_dadv : compFn Try.prog { own := [], comp := [], frz := [], nils := [] } Try.f14 = some sf_dadv := by kernel_rfl
theorem dadv_c (G : Glob) (e p : Int) : Den Try.prog G 14 [.int .i64 e, .int .i64 p] (.tup [.c (.d (spA (inD e p) (adA e p) (adB e p))), .c (.d (.int .i64 (elaE e p)))]) := by
  refine den_walk Try.func14 cf_dadv rfl rfl ?_
  have c1 := drec_c G e p
  unfold spA elaE
  cases hv : inD e p
  · rw [hv] at c1
    simp only [sf_dadv, putAll, wx, wy, wz, stV, seval, IntWalk.iteOmega, IntWalk.toNatUp, reduceCtorEq]
    refine st_call (c1) rfl (.inl rfl) ?_
    simp only [wx, wy, wz, stV, seval, IntWalk.iteOmega, IntWalk.toNatUp, reduceCtorEq]
    exact ret_d2 (by simp only [wx, wy, wz, stV, seval, IntWalk.iteOmega, IntWalk.toNatUp, reduceCtorEq]) (by simp only [wx, wy, wz, stV, seval, IntWalk.iteOmega, IntWalk.toNatUp, reduceCtorEq])
  · rw [hv] at c1
    obtain ⟨h1, h2, h3, h4⟩ := inD_t hv
    have cs := sca_c G e p true (by omega) (by omega)
    unfold scaV scaE at cs
    rw [scaB_t (by omega) h3 h4, if_pos rfl, if_pos rfl, sca_up] at cs
    have o := ad_order e p h1 h3 h4
    obtain ⟨a1, a2⟩ := ad_sca e p
    rw [if_pos rfl, if_pos rfl, if_pos rfl, a1, a2]
    rw [a1, a2] at o
    generalize upQ (e * p) 1000000000 = U at *
    simp only [sf_dadv, putAll, wx, wy, wz, stV, seval, IntWalk.iteOmega, IntWalk.toNatUp, reduceCtorEq]
    refine st_call (c1) rfl (.inl rfl) ?_
    simp only [wx, wy, wz, stV, seval, IntWalk.iteOmega, IntWalk.toNatUp, reduceCtorEq]
    refine st_call (cs) rfl (.inl rfl) ?_
    simp only [wx, wy, wz, stV, seval, IntWalk.iteOmega, IntWalk.toNatUp, reduceCtorEq]
    exact ret_d2 (by simp only [wx, wy, wz, stV, seval, IntWalk.iteOmega, IntWalk.toNatUp, reduceCtorEq]) (by simp only [wx, wy, wz, stV, seval, IntWalk.iteOmega, IntWalk.toNatUp, reduceCtorEq])
/-! ### Project, Back -/
def carB (a b d p x y : Int) : Bool := okP (a, b) && inD d p && okP (x, y)
def carE (a b d p x y : Int) : Int := if okP (a, b) = true then (if (inD d p && okP (x, y)) = true then 0 else 4) else 3
theorem el_ok {d p : Int} (h : inD d p = true) : okP (elA d p, elB d p) = true := by
  obtain ⟨h1, h2, h3, h4⟩ := inD_t h
  have o := el_order d p h1 h3 h4
  have m := elB_le d p h1 h3 h4
  exact okP_d ⟨by omega, by omega, by omega⟩
theorem car_sum {a b d p : Int} (h : okP (a, b) = true) (h2 : inD d p = true) (x y : Int) : smsB a b (elA d p) (elB d p) x y = carB a b d p x y ∧ sumE a b (elA d p) (elB d p) x y = carE a b d p x y := by
  unfold smsB sumE carB carE
  rw [h, h2, el_ok h2]; exact ⟨rfl, rfl⟩
def sf_dcar : SFn := ⟨4, 31,
  .seq (.reg [⟨(some 4), .box .roBox (.t 0), none⟩,
    ⟨(some 8), .alloc [(.d (.int .i64 0)), (.d (.int .i64 0))], none⟩,
    ⟨(some 9), .mv (.k (.c (.d (.int .i64 0)))), none⟩])
  (.seq (.seq (.reg [⟨(some 12), .load (.ag 2) (.t 4), none⟩,
    ⟨(some 13), .call 76 [(.t 12)] none, none⟩,
    ⟨(some 14), .un .not (.t 13), none⟩])
  (.cond (.t 14) (.seq (.reg [⟨(some 15), .build [(.d (.int .i64 0)), (.d (.int .i64 0))] [], none⟩,
     ⟨none, .store (.ag 2) (.t 8) (.t 15), none⟩,
     ⟨(some 9), .mv (.k (.c (.d (.int .i64 3)))), none⟩])
   (.ret))
   (.skip)))
  (.seq (.reg [⟨(some 17), .mv (.t 1), none⟩,
    ⟨(some 18), .mv (.t 2), none⟩,
    ⟨(some 19), .call 12 [(.t 17), (.t 18)] none, none⟩,
    ⟨(some 16), .mv (.t 19), none⟩,
    ⟨(some 20), .extract (.t 16) 0, none⟩,
    ⟨(some 21), .extract (.t 16) 1, none⟩,
    ⟨(some 10), .alloc [(.d (.int .i64 0)), (.d (.int .i64 0))], none⟩,
    ⟨none, .store (.ag 2) (.t 10) (.t 20), none⟩,
    ⟨(some 11), .mv (.t 21), none⟩])
  (.seq (.seq (.reg [⟨(some 22), .mv (.t 11), none⟩,
    ⟨(some 23), .bin .neq (.t 22) (.k (.c (.d (.int .i64 0)))), none⟩])
  (.cond (.t 23) (.seq (.reg [⟨(some 24), .build [(.d (.int .i64 0)), (.d (.int .i64 0))] [], none⟩,
     ⟨(some 25), .mv (.t 11), none⟩,
     ⟨none, .store (.ag 2) (.t 8) (.t 24), none⟩,
     ⟨(some 9), .mv (.t 25), none⟩])
   (.ret))
   (.skip)))
  (.seq (.reg [⟨(some 26), .mv (.t 3), none⟩,
    ⟨(some 27), .load (.ag 2) (.t 10), none⟩,
    ⟨(some 28), .call 1000000007 [(.t 26), (.t 27)] none, none⟩,
    ⟨(some 29), .extract (.t 28) 0, none⟩,
    ⟨(some 30), .extract (.t 28) 1, none⟩,
    ⟨none, .store (.ag 2) (.t 8) (.t 29), none⟩,
    ⟨(some 9), .mv (.t 30), none⟩])
  (.ret))))),
  [(8, (some (.ag 2))), (9, none)]⟩
theorem cf_dcar : compFn Try.prog { own := [], comp := [], frz := [], nils := [] } Try.f48 = some sf_dcar := by kernel_rfl
theorem dcar_c (G : Glob) (g : Nat) (caps : List D) (a b d p x y : Int) (hd : okP (a, b) = true → inD d p = true → DenF Try.prog G g caps [.agg [.int .i64 (elA d p), .int .i64 (elB d p)]] (.tup [.c (.d (spA (smsB a b (elA d p) (elB d p) x y) x y)), .c (.d (.int .i64 (sumE a b (elA d p) (elB d p) x y)))])) : Den Try.prog G 48 [.agg [.int .i64 a, .int .i64 b], .int .i64 d, .int .i64 p, .fn g caps] (.tup [.c (.d (spA (carB a b d p x y) x y)), .c (.d (.int .i64 (carE a b d p x y)))]) := by
  refine den_walk Try.func48 cf_dcar rfl rfl ?_
  have c1 := isv_c G a b
  have c2 := dela_c G d p
  cases h1 : okP (a, b)
  · rw [h1] at c1
    have e1 : carB a b d p x y = false := by unfold carB; rw [h1]; rfl
    have e2 : carE a b d p x y = 3 := by unfold carE; rw [h1]; rfl
    rw [e1, e2]
    simp only [sf_dcar, putAll, wx, wy, wz, stV, seval, IntWalk.iteOmega, IntWalk.toNatUp, reduceCtorEq]
    refine st_call (c1) rfl (.inl rfl) ?_
    simp only [wx, wy, wz, stV, seval, IntWalk.iteOmega, IntWalk.toNatUp, reduceCtorEq]
    unfold spA
    exact ret_d2 (by simp only [wx, wy, wz, stV, seval, IntWalk.iteOmega, IntWalk.toNatUp, reduceCtorEq]) (by simp only [wx, wy, wz, stV, seval, IntWalk.iteOmega, IntWalk.toNatUp, reduceCtorEq])
  · rw [h1] at c1
    unfold elaE at c2
    cases h2 : inD d p
    · have e1 : carB a b d p x y = false := by unfold carB; rw [h1, h2]; rfl
      have e2 : carE a b d p x y = 4 := by unfold carE; rw [h1, h2]; rfl
      rw [e1, e2]
      rw [h2] at c2
      simp only [sf_dcar, putAll, wx, wy, wz, stV, seval, IntWalk.iteOmega, IntWalk.toNatUp, reduceCtorEq]
      refine st_call (c1) rfl (.inl rfl) ?_
      simp only [wx, wy, wz, stV, seval, IntWalk.iteOmega, IntWalk.toNatUp, reduceCtorEq]
      refine st_call (c2) rfl (.inl rfl) ?_
      simp only [spA, wx, wy, wz, stV, seval, IntWalk.iteOmega, IntWalk.toNatUp, reduceCtorEq]
      exact ret_d2 (by simp only [wx, wy, wz, stV, seval, IntWalk.iteOmega, IntWalk.toNatUp, reduceCtorEq]) (by simp only [wx, wy, wz, stV, seval, IntWalk.iteOmega, IntWalk.toNatUp, reduceCtorEq])
    · obtain ⟨e1, e2⟩ := car_sum h1 h2 x y
      have cf := hd h1 h2
      rw [e1, e2] at cf
      rw [h2] at c2
      unfold spA at c2
      simp only [if_true] at c2
      generalize elA d p = u at *
      generalize elB d p = v at *
      generalize carB a b d p x y = B at *
      generalize carE a b d p x y = E at *
      simp only [sf_dcar, putAll, wx, wy, wz, stV, seval, IntWalk.iteOmega, IntWalk.toNatUp, reduceCtorEq]
      refine st_call (c1) rfl (.inl rfl) ?_
      simp only [wx, wy, wz, stV, seval, IntWalk.iteOmega, IntWalk.toNatUp, reduceCtorEq]
      refine st_call (c2) rfl (.inl rfl) ?_
      simp only [wx, wy, wz, stV, seval, IntWalk.iteOmega, IntWalk.toNatUp, reduceCtorEq]
      refine st_callF cf rfl (.inl rfl) ?_
      simp only [wx, wy, wz, stV, seval, IntWalk.iteOmega, IntWalk.toNatUp, reduceCtorEq, spA]
      exact ret_d2 (by simp only [wx, wy, wz, stV, seval, IntWalk.iteOmega, IntWalk.toNatUp, reduceCtorEq]) (by simp only [wx, wy, wz, stV, seval, IntWalk.iteOmega, IntWalk.toNatUp, reduceCtorEq])
def sf_dpr1 : SFn := ⟨2, 10,
  .seq (.reg [⟨(some 2), .box .roBox (.t 0), none⟩,
    ⟨(some 3), .alloc [(.d (.int .i64 0)), (.d (.int .i64 0))], none⟩,
    ⟨(some 4), .mv (.k (.c (.d (.int .i64 0)))), none⟩])
  (.seq (.reg [⟨(some 5), .load (.ag 2) (.t 1), none⟩,
    ⟨(some 6), .load (.ag 2) (.t 2), none⟩,
    ⟨(some 7), .call 50 [(.t 5), (.t 6)] none, none⟩,
    ⟨(some 8), .extract (.t 7) 0, none⟩,
    ⟨(some 9), .extract (.t 7) 1, none⟩,
    ⟨none, .store (.ag 2) (.t 3) (.t 8), none⟩,
    ⟨(some 4), .mv (.t 9), none⟩])
  (.ret)),
  [(3, (some (.ag 2))), (4, none)]⟩
theorem cf_dpr1 : compFn Try.prog { own := [], comp := [], frz := [], nils := [] } Try.f49 = some sf_dpr1 := by kernel_rfl
theorem dpr1_f (G : Glob) (a b c d : Int) : DenF Try.prog G 49 [.ref [.int .i64 a, .int .i64 b]] [.agg [.int .i64 c, .int .i64 d]] (.tup [.c (.d (spA (smsB a b c d (a + c) (b + d)) (a + c) (b + d))), .c (.d (.int .i64 (sumE a b c d (a + c) (b + d))))]) := by
  refine ⟨enters_of Try.func49 (by kernel_rfl) rfl, ?_⟩
  refine den_walkU Try.func49 cf_dpr1 rfl rfl ?_
  have ci := iadd_c G a b c d
  generalize smsB a b c d (a + c) (b + d) = k at *
  generalize sumE a b c d (a + c) (b + d) = e at *
  generalize a + c = x at *
  generalize b + d = y at *
  simp only [sf_dpr1, List.cons_append, List.nil_append, List.map_cons, List.map_nil, D.up, putW, wx, wy, wz, stV, seval, IntWalk.iteOmega, IntWalk.toNatUp, reduceCtorEq]
  refine st_call (ci) rfl (.inl rfl) ?_
  simp only [spA, wx, wy, wz, stV, seval, IntWalk.iteOmega, IntWalk.toNatUp, reduceCtorEq]
  exact ret_d2 (by simp only [wx, wy, wz, stV, seval, IntWalk.iteOmega, IntWalk.toNatUp, reduceCtorEq]) (by simp only [wx, wy, wz, stV, seval, IntWalk.iteOmega, IntWalk.toNatUp, reduceCtorEq])
def sf_dbk1 : SFn := ⟨2, 10,
  .seq (.reg [⟨(some 2), .box .roBox (.t 0), none⟩,
    ⟨(some 3), .alloc [(.d (.int .i64 0)), (.d (.int .i64 0))], none⟩,
    ⟨(some 4), .mv (.k (.c (.d (.int .i64 0)))), none⟩])
  (.seq (.reg [⟨(some 5), .load (.ag 2) (.t 1), none⟩,
    ⟨(some 6), .load (.ag 2) (.t 2), none⟩,
    ⟨(some 7), .call 40 [(.t 5), (.t 6)] none, none⟩,
    ⟨(some 8), .extract (.t 7) 0, none⟩,
    ⟨(some 9), .extract (.t 7) 1, none⟩,
    ⟨none, .store (.ag 2) (.t 3) (.t 8), none⟩,
    ⟨(some 4), .mv (.t 9), none⟩])
  (.ret)),
  [(3, (some (.ag 2))), (4, none)]⟩
theorem cf_dbk1 : compFn Try.prog { own := [], comp := [], frz := [], nils := [] } Try.f53 = some sf_dbk1 := by kernel_rfl
theorem dbk1_f (G : Glob) (a b c d : Int) : DenF Try.prog G 53 [.ref [.int .i64 a, .int .i64 b]] [.agg [.int .i64 c, .int .i64 d]] (.tup [.c (.d (spA (smsB a b c d (a - d) (b - c)) (a - d) (b - c))), .c (.d (.int .i64 (sumE a b c d (a - d) (b - c))))]) := by
  refine ⟨enters_of Try.func53 (by kernel_rfl) rfl, ?_⟩
  refine den_walkU Try.func53 cf_dbk1 rfl rfl ?_
  have ci := isbs_c G a b c d
  generalize smsB a b c d (a - d) (b - c) = k at *
  generalize sumE a b c d (a - d) (b - c) = e at *
  generalize a - d = x at *
  generalize b - c = y at *
  simp only [sf_dbk1, List.cons_append, List.nil_append, List.map_cons, List.map_nil, D.up, putW, wx, wy, wz, stV, seval, IntWalk.iteOmega, IntWalk.toNatUp, reduceCtorEq]
  refine st_call (ci) rfl (.inl rfl) ?_
  simp only [spA, wx, wy, wz, stV, seval, IntWalk.iteOmega, IntWalk.toNatUp, reduceCtorEq]
  exact ret_d2 (by simp only [wx, wy, wz, stV, seval, IntWalk.iteOmega, IntWalk.toNatUp, reduceCtorEq]) (by simp only [wx, wy, wz, stV, seval, IntWalk.iteOmega, IntWalk.toNatUp, reduceCtorEq])
def sf_dprj : SFn := ⟨3, 15,
  .seq (.reg [⟨(some 3), .box .roBox (.t 0), none⟩,
    ⟨(some 6), .alloc [(.d (.int .i64 0)), (.d (.int .i64 0))], none⟩,
    ⟨(some 7), .mv (.k (.c (.d (.int .i64 0)))), none⟩])
  (.seq (.reg [⟨(some 8), .load (.ag 2) (.t 3), none⟩,
    ⟨(some 9), .mv (.t 1), none⟩,
    ⟨(some 10), .mv (.t 2), none⟩,
    ⟨(some 11), .clos 49 [(.t 3)], none⟩,
    ⟨(some 12), .call 48 [(.t 8), (.t 9), (.t 10), (.t 11)] none, none⟩,
    ⟨(some 13), .extract (.t 12) 0, none⟩,
    ⟨(some 14), .extract (.t 12) 1, none⟩,
    ⟨none, .store (.ag 2) (.t 6) (.t 13), none⟩,
    ⟨(some 7), .mv (.t 14), none⟩])
  (.ret)),
  [(6, (some (.ag 2))), (7, none)]⟩
theorem cf_dprj : compFn Try.prog { own := [], comp := [], frz := [], nils := [] } Try.f16 = some sf_dprj := by kernel_rfl
theorem dprj_c (G : Glob) (a b d p : Int) : Den Try.prog G 16 [.agg [.int .i64 a, .int .i64 b], .int .i64 d, .int .i64 p] (.tup [.c (.d (spA (carB a b d p (a + elA d p) (b + elB d p)) (a + elA d p) (b + elB d p))), .c (.d (.int .i64 (carE a b d p (a + elA d p) (b + elB d p))))]) := by
  refine den_walk Try.func16 cf_dprj rfl rfl ?_
  have cm := dcar_c G 49 [.ref [.int .i64 a, .int .i64 b]] a b d p (a + elA d p) (b + elB d p) (fun _ _ => dpr1_f G a b (elA d p) (elB d p))
  generalize carB a b d p (a + elA d p) (b + elB d p) = k at *
  generalize carE a b d p (a + elA d p) (b + elB d p) = e at *
  generalize a + elA d p = x at *
  generalize b + elB d p = y at *
  simp only [sf_dprj, putAll, wx, wy, wz, stV, seval, IntWalk.iteOmega, IntWalk.toNatUp, reduceCtorEq]
  refine st_call cm (by simp only [wx, wy, wz, stV, seval, IntWalk.iteOmega, IntWalk.toNatUp, reduceCtorEq]) (.inr (fl_spI _ _ _ _)) ?_
  simp only [wx, wy, wz, stV, seval, IntWalk.iteOmega, IntWalk.toNatUp, reduceCtorEq, spA]
  exact ret_d2 (by simp only [wx, wy, wz, stV, seval, IntWalk.iteOmega, IntWalk.toNatUp, reduceCtorEq]) (by simp only [wx, wy, wz, stV, seval, IntWalk.iteOmega, IntWalk.toNatUp, reduceCtorEq])
def sf_dbck : SFn := ⟨3, 15,
  .seq (.reg [⟨(some 3), .box .roBox (.t 0), none⟩,
    ⟨(some 6), .alloc [(.d (.int .i64 0)), (.d (.int .i64 0))], none⟩,
    ⟨(some 7), .mv (.k (.c (.d (.int .i64 0)))), none⟩])
  (.seq (.reg [⟨(some 8), .load (.ag 2) (.t 3), none⟩,
    ⟨(some 9), .mv (.t 1), none⟩,
    ⟨(some 10), .mv (.t 2), none⟩,
    ⟨(some 11), .clos 53 [(.t 3)], none⟩,
    ⟨(some 12), .call 48 [(.t 8), (.t 9), (.t 10), (.t 11)] none, none⟩,
    ⟨(some 13), .extract (.t 12) 0, none⟩,
    ⟨(some 14), .extract (.t 12) 1, none⟩,
    ⟨none, .store (.ag 2) (.t 6) (.t 13), none⟩,
    ⟨(some 7), .mv (.t 14), none⟩])
  (.ret)),
  [(6, (some (.ag 2))), (7, none)]⟩
theorem cf_dbck : compFn Try.prog { own := [], comp := [], frz := [], nils := [] } Try.f18 = some sf_dbck := by kernel_rfl
theorem dbck_c (G : Glob) (a b d p : Int) : Den Try.prog G 18 [.agg [.int .i64 a, .int .i64 b], .int .i64 d, .int .i64 p] (.tup [.c (.d (spA (carB a b d p (a - elB d p) (b - elA d p)) (a - elB d p) (b - elA d p))), .c (.d (.int .i64 (carE a b d p (a - elB d p) (b - elA d p))))]) := by
  refine den_walk Try.func18 cf_dbck rfl rfl ?_
  have cm := dcar_c G 53 [.ref [.int .i64 a, .int .i64 b]] a b d p (a - elB d p) (b - elA d p) (fun _ _ => dbk1_f G a b (elA d p) (elB d p))
  generalize carB a b d p (a - elB d p) (b - elA d p) = k at *
  generalize carE a b d p (a - elB d p) (b - elA d p) = e at *
  generalize a - elB d p = x at *
  generalize b - elA d p = y at *
  simp only [sf_dbck, putAll, wx, wy, wz, stV, seval, IntWalk.iteOmega, IntWalk.toNatUp, reduceCtorEq]
  refine st_call cm (by simp only [wx, wy, wz, stV, seval, IntWalk.iteOmega, IntWalk.toNatUp, reduceCtorEq]) (.inr (fl_spI _ _ _ _)) ?_
  simp only [wx, wy, wz, stV, seval, IntWalk.iteOmega, IntWalk.toNatUp, reduceCtorEq, spA]
  exact ret_d2 (by simp only [wx, wy, wz, stV, seval, IntWalk.iteOmega, IntWalk.toNatUp, reduceCtorEq]) (by simp only [wx, wy, wz, stV, seval, IntWalk.iteOmega, IntWalk.toNatUp, reduceCtorEq])
/-! ### Rate -/
def srhSt (g : Nat) (caps : List D) (P : Int → Bool) (n : Int) (k : Nat) : St := ⟨ofL [(1, .w (.c (.d (.fn g caps)))), (5, .w (.c (.d (.int .i64 (bisK P 0 n k).1)))), (6, .w (.c (.d (.int .i64 (bisK P 0 n k).2))))], hL [], uL []⟩
def lp_srh_0 : SCode :=
  .seq (.seq (.reg [⟨(some 9), .mv (.t 5), none⟩,
    ⟨(some 10), .mv (.t 6), none⟩,
    ⟨(some 11), .bin .lss (.t 9) (.t 10), none⟩])
  (.cond (.t 11) (.skip)
   (.exit 0)))
  (.block 1 (.seq (.reg [⟨(some 12), .mv (.t 5), none⟩,
     ⟨(some 13), .mv (.t 6), none⟩,
     ⟨(some 14), .bin .add (.t 12) (.t 13), none⟩,
     ⟨(some 15), .conv .u64 (.t 14), none⟩,
     ⟨(some 16), .bin .shr (.t 15) (.k (.c (.d (.int .u64 1)))), none⟩,
     ⟨(some 17), .conv .i64 (.t 16), none⟩,
     ⟨(some 7), .mv (.t 17), none⟩])
   (.seq (.reg [⟨(some 18), .mv (.t 1), none⟩,
     ⟨(some 19), .mv (.t 7), none⟩,
     ⟨(some 20), .call 1000000007 [(.t 18), (.t 19)] none, none⟩,
     ⟨(some 21), .un .not (.t 20), none⟩])
   (.cond (.t 21) (.reg [⟨(some 22), .mv (.t 7), none⟩,
      ⟨(some 23), .bin .add (.t 22) (.k (.c (.d (.int .i64 1)))), none⟩,
      ⟨(some 5), .mv (.t 23), none⟩])
    (.reg [⟨(some 24), .mv (.t 7), none⟩,
      ⟨(some 6), .mv (.t 24), none⟩])))))
def sf_srh : SFn := ⟨2, 26,
  .seq (.reg [⟨(some 4), .mv (.k (.c (.d (.int .i64 0)))), none⟩])
  (.seq (.reg [⟨(some 8), .mv (.t 0), none⟩,
    ⟨(some 5), .mv (.k (.c (.d (.int .i64 0)))), none⟩,
    ⟨(some 6), .mv (.t 8), none⟩])
  (.seq (.block 0 (.loop lp_srh_0))
  (.seq (.reg [⟨(some 25), .mv (.t 5), none⟩,
    ⟨(some 4), .mv (.t 25), none⟩])
  (.ret)))),
  [(4, none)]⟩
theorem cf_srh : compFn Try.prog { own := [], comp := [], frz := [], nils := [] } Try.f56 = some sf_srh := by kernel_rfl
set_option maxHeartbeats 800000 in
theorem srh_c (G : Glob) (g : Nat) (caps : List D) (P : Int → Bool) (n : Int) (h1 : 0 ≤ n) (h2 : n ≤ 4611686018427387904) (hm : ∀ a b, 0 ≤ a → a ≤ b → b < n → P a = true → P b = true) (hP : ∀ t, 0 ≤ t → t < n → DenF Try.prog G g caps [.int .i64 t] (.w (.c (.d (.bool (P t)))))) : Den Try.prog G 56 [.int .i64 n, .fn g caps] (.w (.c (.d (.int .i64 (bisV P 0 n))))) := by
  refine den_walk Try.func56 cf_srh rfl rfl ?_
  obtain ⟨_, hv, hend, hgo⟩ := bis_ok (P := P) (lo := 0) (hi := n) h1 hm
  simp only [sf_srh, putAll, wx, wy, wz, stV, seval, IntWalk.iteOmega, IntWalk.toNatUp, reduceCtorEq]
  refine loop_st (srhSt g caps P n) (fun k => bisE P 0 n - k) (fun k => k ≤ bisE P 0 n) 0 (Nat.zero_le _) ?_ ?_
  · have e1 : (bisK P 0 n 0).1 = 0 := rfl
    have e2 : (bisK P 0 n 0).2 = n := rfl
    refine ent_l (fun i => i) ?_ ?_ rfl rfl <;> simp only [wx, wex, wez, stV, seval, IntWalk.iteOmega, IntWalk.toNatUp, reduceCtorEq, e1, e2]
  · intro k hk
    by_cases hlt : k < bisE P 0 n
    · obtain ⟨g1, g2, g3⟩ := hgo k hlt
      have es : bisK P 0 n (k + 1) = bisS P (bisK P 0 n k) := rfl
      obtain ⟨x, hx⟩ : ∃ x, (bisK P 0 n k).1 = x := ⟨_, rfl⟩
      obtain ⟨y, hy⟩ : ∃ y, (bisK P 0 n k).2 = y := ⟨_, rfl⟩
      unfold bisS at es
      rw [hx, hy] at es
      rw [hx] at g1 g2
      rw [hy] at g1 g3
      have cs := hP ((x + y) / 2) (by omega) (by omega)
      have m1 : x ≤ (x + y) / 2 := by omega
      have m2 : (x + y) / 2 < y := by omega
      generalize hM : (x + y) / 2 = m at *
      cases c : P m
      · rw [c] at cs
        rw [c, if_neg (by simp)] at es
        simp only [lp_srh_0, srhSt, hx, hy, wx, wy, wz, stV, seval, IntWalk.iteOmega, IntWalk.toNatUp, reduceCtorEq, bU64, hM]
        refine st_callF cs rfl (.inl rfl) ?_
        simp only [wx, wy, wz, stV, seval, IntWalk.iteOmega, IntWalk.toNatUp, reduceCtorEq]
        refine lop_next (k + 1) (by omega) (by omega) (ent_l (fun i => i) ?_ ?_ rfl rfl) <;> simp only [wx, wex, wez, stV, seval, IntWalk.iteOmega, IntWalk.toNatUp, reduceCtorEq, es]
      · rw [c] at cs
        rw [c, if_pos rfl] at es
        simp only [lp_srh_0, srhSt, hx, hy, wx, wy, wz, stV, seval, IntWalk.iteOmega, IntWalk.toNatUp, reduceCtorEq, bU64, hM]
        refine st_callF cs rfl (.inl rfl) ?_
        simp only [wx, wy, wz, stV, seval, IntWalk.iteOmega, IntWalk.toNatUp, reduceCtorEq]
        refine lop_next (k + 1) (by omega) (by omega) (ent_l (fun i => i) ?_ ?_ rfl rfl) <;> simp only [wx, wex, wez, stV, seval, IntWalk.iteOmega, IntWalk.toNatUp, reduceCtorEq, es]
    · obtain rfl : k = bisE P 0 n := by omega
      generalize bisE P 0 n = k at *
      rw [← hv]
      obtain ⟨x, hx⟩ : ∃ x, (bisK P 0 n k).1 = x := ⟨_, rfl⟩
      obtain ⟨y, hy⟩ : ∃ y, (bisK P 0 n k).2 = y := ⟨_, rfl⟩
      rw [hx] at hend ⊢
      rw [hy] at hend
      simp only [lp_srh_0, srhSt, hx, hy, wx, wy, wz, stV, seval, IntWalk.iteOmega, IntWalk.toNatUp, reduceCtorEq]
      exact ret_d1 (by simp only [wx, wy, wz, stV, seval, IntWalk.iteOmega, IntWalk.toNatUp, reduceCtorEq])
def sf_drt1 : SFn := ⟨3, 9,
  .seq (.reg [⟨(some 4), .mv (.k (.c (.d (.bool false)))), none⟩])
  (.seq (.reg [⟨(some 5), .load .sc (.t 1), none⟩,
    ⟨(some 6), .load .sc (.t 2), none⟩,
    ⟨(some 7), .mv (.t 0), none⟩,
    ⟨(some 8), .call 23 [(.t 5), (.t 6), (.t 7)] none, none⟩,
    ⟨(some 4), .mv (.t 8), none⟩])
  (.ret)),
  [(4, none)]⟩
theorem cf_drt1 : compFn Try.prog { own := [], comp := [], frz := [], nils := [] } Try.f57 = some sf_drt1 := by kernel_rfl
theorem drt1_f (G : Glob) (e d t : Int) : DenF Try.prog G 57 [.ref [.int .i64 e], .ref [.int .i64 d]] [.int .i64 t] (.w (.c (.d (.bool (ratP e d t))))) := by
  refine ⟨enters_of Try.func57 (by kernel_rfl) rfl, ?_⟩
  refine den_walkU Try.func57 cf_drt1 rfl rfl ?_
  have ci := dfit_c G e d t
  unfold ratP
  generalize fitB e d t = k at *
  simp only [sf_drt1, List.cons_append, List.nil_append, List.map_cons, List.map_nil, D.up, putW, wx, wy, wz, stV, seval, IntWalk.iteOmega, IntWalk.toNatUp, reduceCtorEq]
  refine st_call (ci) rfl (.inl rfl) ?_
  simp only [wx, wy, wz, stV, seval, IntWalk.iteOmega, IntWalk.toNatUp, reduceCtorEq]
  exact ret_d1 (by simp only [wx, wy, wz, stV, seval, IntWalk.iteOmega, IntWalk.toNatUp, reduceCtorEq])
def sf_drat : SFn := ⟨2, 20,
  .seq (.reg [⟨(some 2), .box .roBox (.t 0), none⟩,
    ⟨(some 3), .box .roBox (.t 1), none⟩,
    ⟨(some 4), .mv (.k (.c (.d (.int .i64 0)))), none⟩,
    ⟨(some 5), .mv (.k (.c (.d (.int .i64 0)))), none⟩])
  (.seq (.seq (.reg [⟨(some 7), .load .sc (.t 2), none⟩,
    ⟨(some 8), .call 55 [(.t 7), (.k (.c (.d (.int .i64 576460752303423488))))] none, none⟩,
    ⟨(some 9), .un .not (.t 8), none⟩,
    ⟨(some 10), .mv (.t 9), none⟩,
    ⟨(some 11), .load .sc (.t 3), (some (10, false))⟩,
    ⟨(some 12), .call 55 [(.t 11), (.k (.c (.d (.int .i64 576460752303423488))))] none, (some (10, false))⟩,
    ⟨(some 13), .un .not (.t 12), (some (10, false))⟩,
    ⟨(some 14), .pick (.t 10) (.k (.c (.d (.bool true)))) (.t 13), none⟩])
  (.cond (.t 14) (.seq (.reg [⟨(some 4), .mv (.k (.c (.d (.int .i64 0)))), none⟩,
     ⟨(some 5), .mv (.k (.c (.d (.int .i64 4)))), none⟩])
   (.ret))
   (.skip)))
  (.seq (.reg [⟨(some 15), .clos 57 [(.t 2), (.t 3)], none⟩,
    ⟨(some 16), .call 56 [(.k (.c (.d (.int .i64 1000001)))), (.t 15)] none, none⟩,
    ⟨(some 6), .mv (.t 16), none⟩])
  (.seq (.seq (.reg [⟨(some 17), .mv (.t 6), none⟩,
    ⟨(some 18), .bin .gtr (.t 17) (.k (.c (.d (.int .i64 1000000)))), none⟩])
  (.cond (.t 18) (.seq (.reg [⟨(some 4), .mv (.k (.c (.d (.int .i64 0)))), none⟩,
     ⟨(some 5), .mv (.k (.c (.d (.int .i64 10)))), none⟩])
   (.ret))
   (.skip)))
  (.seq (.reg [⟨(some 19), .mv (.t 6), none⟩,
    ⟨(some 4), .mv (.t 19), none⟩,
    ⟨(some 5), .mv (.k (.c (.d (.int .i64 0)))), none⟩])
  (.ret))))),
  [(4, none), (5, none)]⟩
theorem cf_drat : compFn Try.prog { own := [], comp := [], frz := [], nils := [] } Try.f20 = some sf_drat := by kernel_rfl
theorem drat_c (G : Glob) (e d : Int) : Den Try.prog G 20 [.int .i64 e, .int .i64 d] (.tup [.c (.d (.int .i64 (ratV e d))), .c (.d (.int .i64 (ratE e d)))]) := by
  refine den_walk Try.func20 cf_drat rfl rfl ?_
  have c1 := dup_c G e 576460752303423488
  have c2 := dup_c G d 576460752303423488
  have r1 : upB e 576460752303423488 = inD e 0 := by unfold upB inD; apply decide_eq_decide.2; omega
  have r2 : upB d 576460752303423488 = inD d 0 := by unfold upB inD; apply decide_eq_decide.2; omega
  have cs := srh_c G 57 [.ref [.int .i64 e], .ref [.int .i64 d]] (ratP e d) 1000001 (by decide) (by decide) (ratP_mono e d) (fun t _ _ => drt1_f G e d t)
  rw [show bisV (ratP e d) 0 1000001 = ratN e d from rfl] at cs
  rw [r1] at c1
  rw [r2] at c2
  have rk := rat_ok e d
  obtain ⟨k1, k2, _, _⟩ := rk
  unfold ratV ratE ratR
  generalize ratN e d = N at *
  cases h1 : inD e 0
  · rw [h1] at c1
    simp only [Bool.false_and, Bool.false_eq_true, if_false]
    simp only [sf_drat, putAll, wx, wy, wz, stV, seval, IntWalk.iteOmega, IntWalk.toNatUp, reduceCtorEq]
    refine st_call (c1) rfl (.inl rfl) ?_
    simp only [wx, wy, wz, stV, seval, IntWalk.iteOmega, IntWalk.toNatUp, reduceCtorEq]
    exact ret_d2 (by simp only [wx, wy, wz, stV, seval, IntWalk.iteOmega, IntWalk.toNatUp, reduceCtorEq]) (by simp only [wx, wy, wz, stV, seval, IntWalk.iteOmega, IntWalk.toNatUp, reduceCtorEq])
  · rw [h1] at c1
    cases h2 : inD d 0
    · rw [h2] at c2
      simp only [Bool.and_false, Bool.false_eq_true, if_false]
      simp only [sf_drat, putAll, wx, wy, wz, stV, seval, IntWalk.iteOmega, IntWalk.toNatUp, reduceCtorEq]
      refine st_call (c1) rfl (.inl rfl) ?_
      simp only [wx, wy, wz, stV, seval, IntWalk.iteOmega, IntWalk.toNatUp, reduceCtorEq]
      refine st_call (c2) rfl (.inl rfl) ?_
      simp only [wx, wy, wz, stV, seval, IntWalk.iteOmega, IntWalk.toNatUp, reduceCtorEq]
      exact ret_d2 (by simp only [wx, wy, wz, stV, seval, IntWalk.iteOmega, IntWalk.toNatUp, reduceCtorEq]) (by simp only [wx, wy, wz, stV, seval, IntWalk.iteOmega, IntWalk.toNatUp, reduceCtorEq])
    · rw [h2] at c2
      simp only [Bool.and_self, if_true]
      by_cases hn : N ≤ 1000000
      · have hg : (N > 1000000) = False := eq_false (by omega)
        rw [if_pos hn, if_pos hn]
        simp only [sf_drat, putAll, wx, wy, wz, stV, seval, IntWalk.iteOmega, IntWalk.toNatUp, reduceCtorEq]
        refine st_call (c1) rfl (.inl rfl) ?_
        simp only [wx, wy, wz, stV, seval, IntWalk.iteOmega, IntWalk.toNatUp, reduceCtorEq]
        refine st_call (c2) rfl (.inl rfl) ?_
        simp only [wx, wy, wz, stV, seval, IntWalk.iteOmega, IntWalk.toNatUp, reduceCtorEq]
        refine st_call cs (by simp only [wx, wy, wz, stV, seval, IntWalk.iteOmega, IntWalk.toNatUp, reduceCtorEq]) (.inl rfl) ?_
        simp only [wx, wy, wz, stV, seval, IntWalk.iteOmega, IntWalk.toNatUp, reduceCtorEq, hg]
        exact ret_d2 (by simp only [wx, wy, wz, stV, seval, IntWalk.iteOmega, IntWalk.toNatUp, reduceCtorEq]) (by simp only [wx, wy, wz, stV, seval, IntWalk.iteOmega, IntWalk.toNatUp, reduceCtorEq])
      · have hg : (N > 1000000) = True := eq_true (by omega)
        rw [if_neg hn, if_neg hn]
        simp only [sf_drat, putAll, wx, wy, wz, stV, seval, IntWalk.iteOmega, IntWalk.toNatUp, reduceCtorEq]
        refine st_call (c1) rfl (.inl rfl) ?_
        simp only [wx, wy, wz, stV, seval, IntWalk.iteOmega, IntWalk.toNatUp, reduceCtorEq]
        refine st_call (c2) rfl (.inl rfl) ?_
        simp only [wx, wy, wz, stV, seval, IntWalk.iteOmega, IntWalk.toNatUp, reduceCtorEq]
        refine st_call cs (by simp only [wx, wy, wz, stV, seval, IntWalk.iteOmega, IntWalk.toNatUp, reduceCtorEq]) (.inl rfl) ?_
        simp only [wx, wy, wz, stV, seval, IntWalk.iteOmega, IntWalk.toNatUp, reduceCtorEq, hg]
        exact ret_d2 (by simp only [wx, wy, wz, stV, seval, IntWalk.iteOmega, IntWalk.toNatUp, reduceCtorEq]) (by simp only [wx, wy, wz, stV, seval, IntWalk.iteOmega, IntWalk.toNatUp, reduceCtorEq])
end Go.Proofs.Ytjebhdadegfbdaa
set_option linter.unusedVariables false
set_option linter.unusedSimpArgs false
namespace Go.Proofs.Ytjebhdadegfbdaa
open Go.RowKit

theorem i64_and31 (n : Int) : bits .and .i64 n 2147483647 = n % 2147483648 := i64_andM 31 2147483647 (by decide) n (by decide)
/-- The upper bits, and the 31 below. -/
theorem i64_orW (s p : Int) (h1 : 0 ≤ s) (h2 : s < 2147483648) (h3 : 0 ≤ p) (h4 : p < 2147483648) : bits .or .i64 (s * 2147483648) p = s * 2147483648 + p := by
  obtain ⟨S, rfl⟩ := Int.eq_ofNat_of_zero_le h1
  obtain ⟨Q, rfl⟩ := Int.eq_ofNat_of_zero_le h3
  have e1 : (BitVec.ofInt 64 ((S : Int) * 2147483648)).toNat = S * 2147483648 := by rw [BitVec.toNat_ofInt]; omega
  have e2 : (BitVec.ofInt 64 (Q : Int)).toNat = Q := by rw [BitVec.toNat_ofInt]; omega
  have e : S * 2147483648 ||| Q = S * 2147483648 + Q := by
    have := Nat.two_pow_add_eq_or_of_lt (i := 31) (b := Q) (by omega) S
    rw [Nat.mul_comm] at this
    exact this.symm
  show IntKind.i64.wrap ((BitVec.ofInt 64 ((S : Int) * 2147483648) ||| BitVec.ofInt 64 (Q : Int)).toNat : Nat) = _
  rw [BitVec.toNat_or, e1, e2, e, IntKind.wrap_i64]
  omega
theorem mulN {a b A B : Int} (h1 : 0 ≤ a) (h2 : a ≤ A) (h3 : 0 ≤ b) (h4 : b ≤ B) : 0 ≤ a * b ∧ a * b ≤ A * B :=
  ⟨Int.mul_nonneg h1 h3, Int.mul_le_mul h2 h4 h3 (Int.le_trans h1 h2)⟩
def sf_rprd : SFn := ⟨2, 51,
  .seq (.reg [⟨(some 4), .mv (.k (.c (.d (.int .i64 0)))), none⟩,
    ⟨(some 5), .mv (.k (.c (.d (.int .i64 0)))), none⟩])
  (.seq (.reg [⟨(some 13), .mv (.t 0), none⟩,
    ⟨(some 14), .bin .shr (.t 13) (.k (.c (.d (.int .u64 31)))), none⟩,
    ⟨(some 15), .mv (.t 0), none⟩,
    ⟨(some 16), .bin .and (.t 15) (.k (.c (.d (.int .i64 2147483647)))), none⟩,
    ⟨(some 17), .mv (.t 1), none⟩,
    ⟨(some 18), .bin .shr (.t 17) (.k (.c (.d (.int .u64 31)))), none⟩,
    ⟨(some 19), .mv (.t 1), none⟩,
    ⟨(some 20), .bin .and (.t 19) (.k (.c (.d (.int .i64 2147483647)))), none⟩,
    ⟨(some 6), .mv (.t 14), none⟩,
    ⟨(some 7), .mv (.t 16), none⟩,
    ⟨(some 8), .mv (.t 18), none⟩,
    ⟨(some 9), .mv (.t 20), none⟩])
  (.seq (.reg [⟨(some 21), .mv (.t 7), none⟩,
    ⟨(some 22), .mv (.t 9), none⟩,
    ⟨(some 23), .bin .mul (.t 21) (.t 22), none⟩,
    ⟨(some 10), .mv (.t 23), none⟩])
  (.seq (.reg [⟨(some 24), .mv (.t 6), none⟩,
    ⟨(some 25), .mv (.t 9), none⟩,
    ⟨(some 26), .bin .mul (.t 24) (.t 25), none⟩,
    ⟨(some 27), .mv (.t 10), none⟩,
    ⟨(some 28), .bin .shr (.t 27) (.k (.c (.d (.int .u64 31)))), none⟩,
    ⟨(some 29), .bin .add (.t 26) (.t 28), none⟩,
    ⟨(some 11), .mv (.t 29), none⟩])
  (.seq (.reg [⟨(some 30), .mv (.t 7), none⟩,
    ⟨(some 31), .mv (.t 8), none⟩,
    ⟨(some 32), .bin .mul (.t 30) (.t 31), none⟩,
    ⟨(some 33), .mv (.t 11), none⟩,
    ⟨(some 34), .bin .and (.t 33) (.k (.c (.d (.int .i64 2147483647)))), none⟩,
    ⟨(some 35), .bin .add (.t 32) (.t 34), none⟩,
    ⟨(some 12), .mv (.t 35), none⟩])
  (.seq (.reg [⟨(some 36), .mv (.t 6), none⟩,
    ⟨(some 37), .mv (.t 8), none⟩,
    ⟨(some 38), .bin .mul (.t 36) (.t 37), none⟩,
    ⟨(some 39), .mv (.t 11), none⟩,
    ⟨(some 40), .bin .shr (.t 39) (.k (.c (.d (.int .u64 31)))), none⟩,
    ⟨(some 41), .bin .add (.t 38) (.t 40), none⟩,
    ⟨(some 42), .mv (.t 12), none⟩,
    ⟨(some 43), .bin .shr (.t 42) (.k (.c (.d (.int .u64 31)))), none⟩,
    ⟨(some 44), .bin .add (.t 41) (.t 43), none⟩,
    ⟨(some 45), .mv (.t 12), none⟩,
    ⟨(some 46), .bin .and (.t 45) (.k (.c (.d (.int .i64 2147483647)))), none⟩,
    ⟨(some 47), .bin .shl (.t 46) (.k (.c (.d (.int .u64 31)))), none⟩,
    ⟨(some 48), .mv (.t 10), none⟩,
    ⟨(some 49), .bin .and (.t 48) (.k (.c (.d (.int .i64 2147483647)))), none⟩,
    ⟨(some 50), .bin .or (.t 47) (.t 49), none⟩,
    ⟨(some 4), .mv (.t 44), none⟩,
    ⟨(some 5), .mv (.t 50), none⟩])
  (.ret)))))),
  [(4, none), (5, none)]⟩
theorem cf_rprd : compFn Try.prog { own := [], comp := [], frz := [], nils := [] } Try.f83 = some sf_rprd := by kernel_rfl
set_option maxHeartbeats 800000 in
theorem rprd_c (G : Glob) (a b : Int) (h1 : 0 ≤ a) (h2 : a ≤ 2305843009213693952) (h3 : 0 ≤ b) (h4 : b ≤ 2305843009213693952) : Den Try.prog G 83 [.int .i64 a, .int .i64 b] (.tup [.c (.d (.int .i64 (prodA a b))), .c (.d (.int .i64 (prodB a b)))]) := by
  refine den_walk Try.func83 cf_rprd rfl rfl ?_
  have a1 : 0 ≤ a / 2147483648 ∧ a / 2147483648 ≤ 1073741824 := by omega
  have a0 : 0 ≤ a % 2147483648 ∧ a % 2147483648 ≤ 2147483647 := by omega
  have b1 : 0 ≤ b / 2147483648 ∧ b / 2147483648 ≤ 1073741824 := by omega
  have b0 : 0 ≤ b % 2147483648 ∧ b % 2147483648 ≤ 2147483647 := by omega
  unfold prodA prodB
  simp only [sf_rprd, putAll, wx, wy, wz, stV, seval, IntWalk.iteOmega, IntWalk.toNatUp, reduceCtorEq, bI64, i64_and31]
  generalize a / 2147483648 = x at *
  generalize a % 2147483648 = y at *
  generalize b / 2147483648 = z at *
  generalize b % 2147483648 = w at *
  have p1 := mulN a0.1 a0.2 b0.1 b0.2
  have p2 := mulN a1.1 a1.2 b0.1 b0.2
  have p3 := mulN a0.1 a0.2 b1.1 b1.2
  have p4 := mulN a1.1 a1.2 b1.1 b1.2
  generalize y * w = P at *
  generalize x * w = Q at *
  generalize y * z = R at *
  generalize x * z = T at *
  have o := i64_orW ((R + (Q + P / 2147483648) % 2147483648) % 2147483648) (P % 2147483648) (by omega) (by omega) (by omega) (by omega)
  simp only [wx, wy, wz, stV, seval, IntWalk.iteOmega, IntWalk.toNatUp, reduceCtorEq, bI64, i64_and31, o]
  exact ret_d2 (by simp only [wx, wy, wz, stV, seval, IntWalk.iteOmega, IntWalk.toNatUp, reduceCtorEq]) (by simp only [wx, wy, wz, stV, seval, IntWalk.iteOmega, IntWalk.toNatUp, reduceCtorEq])
def sf_rmst : SFn := ⟨4, 38,
  .seq (.reg [⟨(some 8), .mv (.k (.c (.d (.bool false)))), none⟩])
  (.seq (.reg [⟨(some 14), .mv (.t 0), none⟩,
    ⟨(some 15), .mv (.t 1), none⟩,
    ⟨(some 16), .call 83 [(.t 14), (.t 15)] none, none⟩,
    ⟨(some 13), .mv (.t 16), none⟩,
    ⟨(some 17), .extract (.t 13) 0, none⟩,
    ⟨(some 18), .extract (.t 13) 1, none⟩,
    ⟨(some 9), .mv (.t 17), none⟩,
    ⟨(some 10), .mv (.t 18), none⟩])
  (.seq (.reg [⟨(some 20), .mv (.t 2), none⟩,
    ⟨(some 21), .mv (.t 3), none⟩,
    ⟨(some 22), .call 83 [(.t 20), (.t 21)] none, none⟩,
    ⟨(some 19), .mv (.t 22), none⟩,
    ⟨(some 23), .extract (.t 19) 0, none⟩,
    ⟨(some 24), .extract (.t 19) 1, none⟩,
    ⟨(some 11), .mv (.t 23), none⟩,
    ⟨(some 12), .mv (.t 24), none⟩])
  (.seq (.reg [⟨(some 25), .mv (.t 9), none⟩,
    ⟨(some 26), .mv (.t 11), none⟩,
    ⟨(some 27), .bin .lss (.t 25) (.t 26), none⟩,
    ⟨(some 28), .mv (.t 27), none⟩,
    ⟨(some 29), .mv (.t 9), (some (28, false))⟩,
    ⟨(some 30), .mv (.t 11), (some (28, false))⟩,
    ⟨(some 31), .bin .eql (.t 29) (.t 30), (some (28, false))⟩,
    ⟨(some 32), .mv (.t 31), (some (28, false))⟩,
    ⟨(some 33), .mv (.t 10), (some (32, true))⟩,
    ⟨(some 34), .mv (.t 12), (some (32, true))⟩,
    ⟨(some 35), .bin .leq (.t 33) (.t 34), (some (32, true))⟩,
    ⟨(some 36), .pick (.t 32) (.t 35) (.k (.c (.d (.bool false)))), (some (28, false))⟩,
    ⟨(some 37), .pick (.t 28) (.k (.c (.d (.bool true)))) (.t 36), none⟩,
    ⟨(some 8), .mv (.t 37), none⟩])
  (.ret)))),
  [(8, none)]⟩
theorem cf_rmst : compFn Try.prog { own := [], comp := [], frz := [], nils := [] } Try.f58 = some sf_rmst := by kernel_rfl
theorem rmst_c (G : Glob) (a b c d : Int) (a1 : 0 ≤ a) (a2 : a ≤ 2305843009213693952) (b1 : 0 ≤ b) (b2 : b ≤ 2305843009213693952) (c1 : 0 ≤ c) (c2 : c ≤ 2305843009213693952) (d1 : 0 ≤ d) (d2 : d ≤ 2305843009213693952) : Den Try.prog G 58 [.int .i64 a, .int .i64 b, .int .i64 c, .int .i64 d] (.w (.c (.d (.bool (decide (a * b ≤ c * d)))))) := by
  refine den_walk Try.func58 cf_rmst rfl rfl ?_
  have k1 := rprd_c G a b a1 a2 b1 b2
  have k2 := rprd_c G c d c1 c2 d1 d2
  have hl := prod_le a b c d
  generalize prodA a b = A at *
  generalize prodB a b = B at *
  generalize prodA c d = C at *
  generalize prodB c d = E at *
  by_cases h : A < C
  · rw [decide_eq_true (hl.1 (.inl h))]
    simp only [sf_rmst, putAll, wx, wy, wz, stV, seval, IntWalk.iteOmega, IntWalk.toNatUp, reduceCtorEq]
    refine st_call (k1) rfl (.inl rfl) ?_
    simp only [wx, wy, wz, stV, seval, IntWalk.iteOmega, IntWalk.toNatUp, reduceCtorEq]
    refine st_call (k2) rfl (.inl rfl) ?_
    simp only [wx, wy, wz, stV, seval, IntWalk.iteOmega, IntWalk.toNatUp, reduceCtorEq]
    exact ret_d1 (by simp only [wx, wy, wz, stV, seval, IntWalk.iteOmega, IntWalk.toNatUp, reduceCtorEq])
  · by_cases h2 : A = C
    · by_cases h3 : B ≤ E
      · rw [decide_eq_true (hl.1 (.inr ⟨h2, h3⟩))]
        simp only [sf_rmst, putAll, wx, wy, wz, stV, seval, IntWalk.iteOmega, IntWalk.toNatUp, reduceCtorEq]
        refine st_call (k1) rfl (.inl rfl) ?_
        simp only [wx, wy, wz, stV, seval, IntWalk.iteOmega, IntWalk.toNatUp, reduceCtorEq]
        refine st_call (k2) rfl (.inl rfl) ?_
        simp only [h, h2, h3, wx, wy, wz, stV, seval, IntWalk.iteOmega, IntWalk.toNatUp, reduceCtorEq]
        exact ret_d1 (by simp only [wx, wy, wz, stV, seval, IntWalk.iteOmega, IntWalk.toNatUp, reduceCtorEq])
      · rw [decide_eq_false (fun k => by have := hl.2 k; omega)]
        simp only [sf_rmst, putAll, wx, wy, wz, stV, seval, IntWalk.iteOmega, IntWalk.toNatUp, reduceCtorEq]
        refine st_call (k1) rfl (.inl rfl) ?_
        simp only [wx, wy, wz, stV, seval, IntWalk.iteOmega, IntWalk.toNatUp, reduceCtorEq]
        refine st_call (k2) rfl (.inl rfl) ?_
        simp only [h, h2, h3, wx, wy, wz, stV, seval, IntWalk.iteOmega, IntWalk.toNatUp, reduceCtorEq]
        exact ret_d1 (by simp only [wx, wy, wz, stV, seval, IntWalk.iteOmega, IntWalk.toNatUp, reduceCtorEq])
    · rw [decide_eq_false (fun k => by have := hl.2 k; omega)]
      simp only [sf_rmst, putAll, wx, wy, wz, stV, seval, IntWalk.iteOmega, IntWalk.toNatUp, reduceCtorEq]
      refine st_call (k1) rfl (.inl rfl) ?_
      simp only [wx, wy, wz, stV, seval, IntWalk.iteOmega, IntWalk.toNatUp, reduceCtorEq]
      refine st_call (k2) rfl (.inl rfl) ?_
      simp only [h, h2, wx, wy, wz, stV, seval, IntWalk.iteOmega, IntWalk.toNatUp, reduceCtorEq]
      exact ret_d1 (by simp only [wx, wy, wz, stV, seval, IntWalk.iteOmega, IntWalk.toNatUp, reduceCtorEq])
def sf_rfit : SFn := ⟨3, 41,
  .seq (.reg [⟨(some 6), .mv (.k (.c (.d (.bool false)))), none⟩])
  (.seq (.seq (.reg [⟨(some 7), .mv (.t 0), none⟩,
    ⟨(some 8), .bin .lss (.t 7) (.k (.c (.d (.int .i64 0)))), none⟩,
    ⟨(some 9), .mv (.t 8), none⟩,
    ⟨(some 10), .mv (.t 0), (some (9, false))⟩,
    ⟨(some 11), .bin .gtr (.t 10) (.k (.c (.d (.int .i64 1152921504606846976)))), (some (9, false))⟩,
    ⟨(some 12), .pick (.t 9) (.k (.c (.d (.bool true)))) (.t 11), none⟩,
    ⟨(some 13), .mv (.t 12), none⟩,
    ⟨(some 14), .mv (.t 1), (some (13, false))⟩,
    ⟨(some 15), .bin .lss (.t 14) (.k (.c (.d (.int .i64 0)))), (some (13, false))⟩,
    ⟨(some 16), .pick (.t 13) (.k (.c (.d (.bool true)))) (.t 15), none⟩,
    ⟨(some 17), .mv (.t 16), none⟩,
    ⟨(some 18), .mv (.t 1), (some (17, false))⟩,
    ⟨(some 19), .bin .gtr (.t 18) (.k (.c (.d (.int .i64 1152921504606846976)))), (some (17, false))⟩,
    ⟨(some 20), .pick (.t 17) (.k (.c (.d (.bool true)))) (.t 19), none⟩,
    ⟨(some 21), .mv (.t 20), none⟩,
    ⟨(some 22), .mv (.t 2), (some (21, false))⟩,
    ⟨(some 23), .bin .lss (.t 22) (.k (.c (.d (.int .i64 0)))), (some (21, false))⟩,
    ⟨(some 24), .pick (.t 21) (.k (.c (.d (.bool true)))) (.t 23), none⟩,
    ⟨(some 25), .mv (.t 24), none⟩,
    ⟨(some 26), .mv (.t 2), (some (25, false))⟩,
    ⟨(some 27), .bin .gtr (.t 26) (.k (.c (.d (.int .i64 1000000)))), (some (25, false))⟩,
    ⟨(some 28), .pick (.t 25) (.k (.c (.d (.bool true)))) (.t 27), none⟩])
  (.cond (.t 28) (.seq (.reg [⟨(some 6), .mv (.k (.c (.d (.bool false)))), none⟩])
   (.ret))
   (.skip)))
  (.seq (.reg [⟨(some 29), .mv (.t 0), none⟩,
    ⟨(some 30), .mv (.t 2), none⟩,
    ⟨(some 31), .bin .sub (.k (.c (.d (.int .i64 1000000000)))) (.t 30), none⟩,
    ⟨(some 32), .mv (.t 1), none⟩,
    ⟨(some 33), .call 58 [(.t 29), (.t 31), (.t 32), (.k (.c (.d (.int .i64 1000000000))))] none, none⟩,
    ⟨(some 34), .mv (.t 33), none⟩,
    ⟨(some 35), .mv (.t 1), (some (34, true))⟩,
    ⟨(some 36), .mv (.t 0), (some (34, true))⟩,
    ⟨(some 37), .mv (.t 2), (some (34, true))⟩,
    ⟨(some 38), .bin .add (.k (.c (.d (.int .i64 1000000000)))) (.t 37), (some (34, true))⟩,
    ⟨(some 39), .call 58 [(.t 35), (.k (.c (.d (.int .i64 1000000000)))), (.t 36), (.t 38)] none, (some (34, true))⟩,
    ⟨(some 40), .pick (.t 34) (.t 39) (.k (.c (.d (.bool false)))), none⟩,
    ⟨(some 6), .mv (.t 40), none⟩])
  (.ret))),
  [(6, none)]⟩
theorem cf_rfit : compFn Try.prog { own := [], comp := [], frz := [], nils := [] } Try.f24 = some sf_rfit := by kernel_rfl
set_option maxHeartbeats 800000 in
theorem rfit_c (G : Glob) (e d p : Int) : Den Try.prog G 24 [.int .i64 e, .int .i64 d, .int .i64 p] (.w (.c (.d (.bool (fitB e d p))))) := by
  refine den_walk Try.func24 cf_rfit rfl rfl ?_
  by_cases h1 : e < 0
  · rw [fitB_f (fun h => by have := h.1; omega)]
    simp only [sf_rfit, putAll, wx, wy, wz, stV, seval, IntWalk.iteOmega, IntWalk.toNatUp, reduceCtorEq]
    exact ret_d1 (by simp only [wx, wy, wz, stV, seval, IntWalk.iteOmega, IntWalk.toNatUp, reduceCtorEq])
  by_cases h2 : e > 1152921504606846976
  · rw [fitB_f (fun h => by have := h.2.1; omega)]
    simp only [sf_rfit, putAll, wx, wy, wz, stV, seval, IntWalk.iteOmega, IntWalk.toNatUp, reduceCtorEq, eq_true h2]
    exact ret_d1 (by simp only [wx, wy, wz, stV, seval, IntWalk.iteOmega, IntWalk.toNatUp, reduceCtorEq])
  have g2 := eq_false h2
  by_cases h3 : d < 0
  · rw [fitB_f (fun h => by have := h.2.2.1; omega)]
    simp only [sf_rfit, putAll, wx, wy, wz, stV, seval, IntWalk.iteOmega, IntWalk.toNatUp, reduceCtorEq, g2]
    exact ret_d1 (by simp only [wx, wy, wz, stV, seval, IntWalk.iteOmega, IntWalk.toNatUp, reduceCtorEq])
  by_cases h4 : d > 1152921504606846976
  · rw [fitB_f (fun h => by have := h.2.2.2.1; omega)]
    simp only [sf_rfit, putAll, wx, wy, wz, stV, seval, IntWalk.iteOmega, IntWalk.toNatUp, reduceCtorEq, g2, eq_true h4]
    exact ret_d1 (by simp only [wx, wy, wz, stV, seval, IntWalk.iteOmega, IntWalk.toNatUp, reduceCtorEq])
  have g4 := eq_false h4
  by_cases h5 : p < 0
  · rw [fitB_f (fun h => by have := h.2.2.2.2.1; omega)]
    simp only [sf_rfit, putAll, wx, wy, wz, stV, seval, IntWalk.iteOmega, IntWalk.toNatUp, reduceCtorEq, g2, g4]
    exact ret_d1 (by simp only [wx, wy, wz, stV, seval, IntWalk.iteOmega, IntWalk.toNatUp, reduceCtorEq])
  by_cases h6 : p > 1000000
  · rw [fitB_f (fun h => by have := h.2.2.2.2.2; omega)]
    simp only [sf_rfit, putAll, wx, wy, wz, stV, seval, IntWalk.iteOmega, IntWalk.toNatUp, reduceCtorEq, g2, g4, eq_true h6]
    exact ret_d1 (by simp only [wx, wy, wz, stV, seval, IntWalk.iteOmega, IntWalk.toNatUp, reduceCtorEq])
  have g6 := eq_false h6
  have c1 := rmst_c G e (1000000000 - p) d 1000000000 (by omega) (by omega) (by omega) (by omega) (by omega) (by omega) (by omega) (by omega)
  have c2 := rmst_c G d 1000000000 e (1000000000 + p) (by omega) (by omega) (by omega) (by omega) (by omega) (by omega) (by omega) (by omega)
  have hb : fitB e d p = (decide (e * (1000000000 - p) ≤ d * 1000000000) && decide (d * 1000000000 ≤ e * (1000000000 + p))) := by
    have key : ∀ (A B : Prop) [Decidable A] [Decidable B] (i : Decidable (A ∧ B)), @decide (A ∧ B) i = (decide A && decide B) := fun A B _ _ i => by
      by_cases a : A <;> by_cases b : B <;> simp [a, b]
    unfold fitB
    rw [decide_eq_true (show fitR e d p from ⟨by omega, by omega, by omega, by omega, by omega, by omega⟩), Bool.true_and]
    exact key _ _ _
  rw [hb]
  clear hb
  generalize decide (e * (1000000000 - p) ≤ d * 1000000000) = A at *
  generalize decide (d * 1000000000 ≤ e * (1000000000 + p)) = B at *
  cases A
  · simp only [sf_rfit, putAll, wx, wy, wz, stV, seval, IntWalk.iteOmega, IntWalk.toNatUp, reduceCtorEq, g2, g4, g6]
    refine st_call (c1) rfl (.inl rfl) ?_
    simp only [wx, wy, wz, stV, seval, IntWalk.iteOmega, IntWalk.toNatUp, reduceCtorEq]
    exact ret_d1 (by simp only [wx, wy, wz, stV, seval, IntWalk.iteOmega, IntWalk.toNatUp, reduceCtorEq])
  · simp only [sf_rfit, putAll, wx, wy, wz, stV, seval, IntWalk.iteOmega, IntWalk.toNatUp, reduceCtorEq, g2, g4, g6]
    refine st_call (c1) rfl (.inl rfl) ?_
    simp only [wx, wy, wz, stV, seval, IntWalk.iteOmega, IntWalk.toNatUp, reduceCtorEq]
    refine st_call (c2) rfl (.inl rfl) ?_
    simp only [wx, wy, wz, stV, seval, IntWalk.iteOmega, IntWalk.toNatUp, reduceCtorEq]
    exact ret_d1 (by simp only [wx, wy, wz, stV, seval, IntWalk.iteOmega, IntWalk.toNatUp, reduceCtorEq])
def sf_rrat : SFn := ⟨4, 27,
  .seq (.reg [⟨(some 8), .mv (.k (.c (.d (.int .i64 0)))), none⟩])
  (.seq (.reg [⟨(some 10), .mv (.t 0), none⟩,
    ⟨(some 11), .mv (.t 2), none⟩,
    ⟨(some 12), .bin .quo (.t 10) (.t 11), none⟩,
    ⟨(some 9), .mv (.t 12), none⟩])
  (.seq (.reg [⟨(some 13), .mv (.t 9), none⟩,
    ⟨(some 14), .mv (.t 1), none⟩,
    ⟨(some 15), .bin .mul (.t 13) (.t 14), none⟩,
    ⟨(some 16), .mv (.t 0), none⟩,
    ⟨(some 17), .mv (.t 9), none⟩,
    ⟨(some 18), .mv (.t 2), none⟩,
    ⟨(some 19), .bin .mul (.t 17) (.t 18), none⟩,
    ⟨(some 20), .bin .sub (.t 16) (.t 19), none⟩,
    ⟨(some 21), .mv (.t 1), none⟩,
    ⟨(some 22), .bin .mul (.t 20) (.t 21), none⟩,
    ⟨(some 23), .mv (.t 2), none⟩,
    ⟨(some 24), .mv (.t 3), none⟩,
    ⟨(some 25), .call 78 [(.t 22), (.t 23), (.t 24)] none, none⟩,
    ⟨(some 26), .bin .add (.t 15) (.t 25), none⟩,
    ⟨(some 8), .mv (.t 26), none⟩])
  (.ret))),
  [(8, none)]⟩
theorem cf_rrat : compFn Try.prog { own := [], comp := [], frz := [], nils := [] } Try.f46 = some sf_rrat := by kernel_rfl
theorem rrat_c (G : Glob) (a b c : Int) (up : Bool) (a1 : 0 ≤ a) (a2 : a ≤ 576460752303423488) (b1 : 998000000 ≤ b) (b2 : b ≤ 1002000000) (c1 : 998000000 ≤ c) (c2 : c ≤ 1002000000) : Den Try.prog G 46 [.int .i64 a, .int .i64 b, .int .i64 c, .bool up] (.w (.c (.d (.int .i64 (if up = true then upQ (a * b) c else a * b / c))))) := by
  refine den_walk Try.func46 cf_rrat rfl rfl ?_
  have ck := ratio_I a b (c := c) (by omega) up
  have q1 : 0 ≤ a / c := Int.ediv_nonneg a1 (by omega)
  have q2 : a / c ≤ 577615984 := by
    have : a / c ≤ a / 998000000 := by
      rw [Int.le_ediv_iff_mul_le (by decide)]
      have x := Int.mul_le_mul_of_nonneg_left c1 q1
      have y := Int.ediv_mul_le a (show c ≠ 0 by omega)
      omega
    omega
  have e3 := Int.emod_nonneg a (show c ≠ 0 by omega)
  have e4 := Int.emod_lt_of_pos a (show 0 < c by omega)
  have e5 := mulN e3 (show a % c ≤ 1002000000 by omega) (show 0 ≤ b by omega) b2
  have e6 := mulN q1 q2 (show 0 ≤ b by omega) b2
  have qr : a / c * c ≤ a := Int.ediv_mul_le a (by omega)
  have qr0 : 0 ≤ a / c * c := Int.mul_nonneg q1 (by omega)
  have es := emod_sub a c
  have hq : a.tdiv c = a / c := Int.tdiv_eq_ediv_of_nonneg a1
  have cr := rquo_c G ((a - a / c * c) * b) c up (by rw [es]; omega) (by rw [es]; omega) (by omega)
  have q3 := (round_in ((a - a / c * c) * b) (show 1 ≤ c by omega) up).1 (by rw [es]; omega)
  rw [es] at q3
  rw [← ck]
  rw [es] at cr ⊢
  clear ck
  generalize roundI (a % c * b) c up = R at *
  generalize hX : a / c * c = X at *
  generalize hY : a / c * b = Y at *
  generalize hM : a % c = M at *
  have hZ : (a - X) * b = M * b := by rw [es]
  generalize hQ : a / c = Q at *
  generalize hZ2 : M * b = Z at *
  have hc0 : ¬ c = 0 := by omega
  simp only [sf_rrat, putAll, wx, wy, wz, stV, seval, IntWalk.iteOmega, IntWalk.toNatUp, reduceCtorEq, hq, hQ, hX, hY, es, hZ2, hc0]
  refine st_call (cr) rfl (.inl rfl) ?_
  simp only [wx, wy, wz, stV, seval, IntWalk.iteOmega, IntWalk.toNatUp, reduceCtorEq]
  exact ret_d1 (by simp only [wx, wy, wz, stV, seval, IntWalk.iteOmega, IntWalk.toNatUp, reduceCtorEq])
def sf_rind : SFn := ⟨2, 19,
  .seq (.reg [⟨(some 4), .mv (.k (.c (.d (.bool false)))), none⟩])
  (.seq (.reg [⟨(some 5), .mv (.t 0), none⟩,
    ⟨(some 6), .bin .geq (.t 5) (.k (.c (.d (.int .i64 0)))), none⟩,
    ⟨(some 7), .mv (.t 6), none⟩,
    ⟨(some 8), .mv (.t 0), (some (7, true))⟩,
    ⟨(some 9), .bin .leq (.t 8) (.k (.c (.d (.int .i64 576460752303423488)))), (some (7, true))⟩,
    ⟨(some 10), .pick (.t 7) (.t 9) (.k (.c (.d (.bool false)))), none⟩,
    ⟨(some 11), .mv (.t 10), none⟩,
    ⟨(some 12), .mv (.t 1), (some (11, true))⟩,
    ⟨(some 13), .bin .geq (.t 12) (.k (.c (.d (.int .i64 0)))), (some (11, true))⟩,
    ⟨(some 14), .pick (.t 11) (.t 13) (.k (.c (.d (.bool false)))), none⟩,
    ⟨(some 15), .mv (.t 14), none⟩,
    ⟨(some 16), .mv (.t 1), (some (15, true))⟩,
    ⟨(some 17), .bin .leq (.t 16) (.k (.c (.d (.int .i64 1000000)))), (some (15, true))⟩,
    ⟨(some 18), .pick (.t 15) (.t 17) (.k (.c (.d (.bool false)))), none⟩,
    ⟨(some 4), .mv (.t 18), none⟩])
  (.ret)),
  [(4, none)]⟩
theorem cf_rind : compFn Try.prog { own := [], comp := [], frz := [], nils := [] } Try.f45 = some sf_rind := by kernel_rfl
theorem rind_c (G : Glob) (d p : Int) : Den Try.prog G 45 [.int .i64 d, .int .i64 p] (.w (.c (.d (.bool (inD d p))))) := by
  refine den_walk Try.func45 cf_rind rfl rfl ?_
  by_cases h1 : d ≥ 0
  · by_cases h2 : d ≤ 576460752303423488
    · by_cases h3 : p ≥ 0
      · by_cases h4 : p ≤ 1000000
        · rw [inD_d ⟨h1, h2, h3, h4⟩]
          simp only [sf_rind, putAll, wx, wy, wz, stV, seval, IntWalk.iteOmega, IntWalk.toNatUp, reduceCtorEq, eq_true h1, eq_true h2, eq_true h3, eq_true h4]
          exact ret_d1 (by simp only [wx, wy, wz, stV, seval, IntWalk.iteOmega, IntWalk.toNatUp, reduceCtorEq])
        · rw [inD_f (by omega)]
          simp only [sf_rind, putAll, wx, wy, wz, stV, seval, IntWalk.iteOmega, IntWalk.toNatUp, reduceCtorEq, eq_true h1, eq_true h2, eq_true h3, eq_false h4]
          exact ret_d1 (by simp only [wx, wy, wz, stV, seval, IntWalk.iteOmega, IntWalk.toNatUp, reduceCtorEq])
      · rw [inD_f (by omega)]
        simp only [sf_rind, putAll, wx, wy, wz, stV, seval, IntWalk.iteOmega, IntWalk.toNatUp, reduceCtorEq, eq_true h1, eq_true h2, eq_false h3]
        exact ret_d1 (by simp only [wx, wy, wz, stV, seval, IntWalk.iteOmega, IntWalk.toNatUp, reduceCtorEq])
    · rw [inD_f (by omega)]
      simp only [sf_rind, putAll, wx, wy, wz, stV, seval, IntWalk.iteOmega, IntWalk.toNatUp, reduceCtorEq, eq_true h1, eq_false h2]
      exact ret_d1 (by simp only [wx, wy, wz, stV, seval, IntWalk.iteOmega, IntWalk.toNatUp, reduceCtorEq])
  · rw [inD_f (by omega)]
    simp only [sf_rind, putAll, wx, wy, wz, stV, seval, IntWalk.iteOmega, IntWalk.toNatUp, reduceCtorEq, eq_false h1]
    exact ret_d1 (by simp only [wx, wy, wz, stV, seval, IntWalk.iteOmega, IntWalk.toNatUp, reduceCtorEq])
def sf_rela : SFn := ⟨2, 20,
  .seq (.reg [⟨(some 4), .alloc [(.d (.int .i64 0)), (.d (.int .i64 0))], none⟩,
    ⟨(some 5), .mv (.k (.c (.d (.int .i64 0)))), none⟩])
  (.seq (.seq (.reg [⟨(some 6), .mv (.t 0), none⟩,
    ⟨(some 7), .mv (.t 1), none⟩,
    ⟨(some 8), .call 45 [(.t 6), (.t 7)] none, none⟩,
    ⟨(some 9), .un .not (.t 8), none⟩])
  (.cond (.t 9) (.seq (.reg [⟨(some 10), .build [(.d (.int .i64 0)), (.d (.int .i64 0))] [], none⟩,
     ⟨none, .store (.ag 2) (.t 4) (.t 10), none⟩,
     ⟨(some 5), .mv (.k (.c (.d (.int .i64 4)))), none⟩])
   (.ret))
   (.skip)))
  (.seq (.reg [⟨(some 11), .mv (.t 0), none⟩,
    ⟨(some 12), .mv (.t 1), none⟩,
    ⟨(some 13), .bin .add (.k (.c (.d (.int .i64 1000000000)))) (.t 12), none⟩,
    ⟨(some 14), .call 46 [(.t 11), (.k (.c (.d (.int .i64 1000000000)))), (.t 13), (.k (.c (.d (.bool false))))] none, none⟩,
    ⟨(some 15), .mv (.t 0), none⟩,
    ⟨(some 16), .mv (.t 1), none⟩,
    ⟨(some 17), .bin .sub (.k (.c (.d (.int .i64 1000000000)))) (.t 16), none⟩,
    ⟨(some 18), .call 46 [(.t 15), (.k (.c (.d (.int .i64 1000000000)))), (.t 17), (.k (.c (.d (.bool true))))] none, none⟩,
    ⟨(some 19), .build [(.d (.int .i64 0)), (.d (.int .i64 0))] [(0, 1, (.t 14)), (1, 1, (.t 18))], none⟩,
    ⟨none, .store (.ag 2) (.t 4) (.t 19), none⟩,
    ⟨(some 5), .mv (.k (.c (.d (.int .i64 0)))), none⟩])
  (.ret))),
  [(4, (some (.ag 2))), (5, none)]⟩
theorem cf_rela : compFn Try.prog { own := [], comp := [], frz := [], nils := [] } Try.f13 = some sf_rela := by kernel_rfl
theorem rela_c (G : Glob) (d p : Int) : Den Try.prog G 13 [.int .i64 d, .int .i64 p] (.tup [.c (.d (spA (inD d p) (elA d p) (elB d p))), .c (.d (.int .i64 (elaE d p)))]) := by
  refine den_walk Try.func13 cf_rela rfl rfl ?_
  have c1 := rind_c G d p
  unfold spA elaE
  cases hv : inD d p
  · rw [hv] at c1
    simp only [sf_rela, putAll, wx, wy, wz, stV, seval, IntWalk.iteOmega, IntWalk.toNatUp, reduceCtorEq]
    refine st_call (c1) rfl (.inl rfl) ?_
    simp only [wx, wy, wz, stV, seval, IntWalk.iteOmega, IntWalk.toNatUp, reduceCtorEq]
    exact ret_d2 (by simp only [wx, wy, wz, stV, seval, IntWalk.iteOmega, IntWalk.toNatUp, reduceCtorEq]) (by simp only [wx, wy, wz, stV, seval, IntWalk.iteOmega, IntWalk.toNatUp, reduceCtorEq])
  · rw [hv] at c1
    obtain ⟨h1, h2, h3, h4⟩ := inD_t hv
    have c2 := rrat_c G d 1000000000 (1000000000 + p) false h1 h2 (by decide) (by decide) (by omega) (by omega)
    have c3 := rrat_c G d 1000000000 (1000000000 - p) true h1 h2 (by decide) (by decide) (by omega) (by omega)
    rw [if_pos rfl] at c3
    rw [if_neg (by decide)] at c2
    rw [if_pos rfl, if_pos rfl, if_pos rfl]
    unfold elA elB
    generalize d * 1000000000 / (1000000000 + p) = A at *
    generalize upQ (d * 1000000000) (1000000000 - p) = B at *
    simp only [sf_rela, putAll, wx, wy, wz, stV, seval, IntWalk.iteOmega, IntWalk.toNatUp, reduceCtorEq]
    refine st_call (c1) rfl (.inl rfl) ?_
    simp only [wx, wy, wz, stV, seval, IntWalk.iteOmega, IntWalk.toNatUp, reduceCtorEq]
    refine st_call (c2) rfl (.inl rfl) ?_
    simp only [wx, wy, wz, stV, seval, IntWalk.iteOmega, IntWalk.toNatUp, reduceCtorEq]
    refine st_call (c3) rfl (.inl rfl) ?_
    simp only [wx, wy, wz, stV, seval, IntWalk.iteOmega, IntWalk.toNatUp, reduceCtorEq]
    exact ret_d2 (by simp only [wx, wy, wz, stV, seval, IntWalk.iteOmega, IntWalk.toNatUp, reduceCtorEq]) (by simp only [wx, wy, wz, stV, seval, IntWalk.iteOmega, IntWalk.toNatUp, reduceCtorEq])
def sf_radv : SFn := ⟨2, 20,
  .seq (.reg [⟨(some 4), .alloc [(.d (.int .i64 0)), (.d (.int .i64 0))], none⟩,
    ⟨(some 5), .mv (.k (.c (.d (.int .i64 0)))), none⟩])
  (.seq (.seq (.reg [⟨(some 6), .mv (.t 0), none⟩,
    ⟨(some 7), .mv (.t 1), none⟩,
    ⟨(some 8), .call 45 [(.t 6), (.t 7)] none, none⟩,
    ⟨(some 9), .un .not (.t 8), none⟩])
  (.cond (.t 9) (.seq (.reg [⟨(some 10), .build [(.d (.int .i64 0)), (.d (.int .i64 0))] [], none⟩,
     ⟨none, .store (.ag 2) (.t 4) (.t 10), none⟩,
     ⟨(some 5), .mv (.k (.c (.d (.int .i64 4)))), none⟩])
   (.ret))
   (.skip)))
  (.seq (.reg [⟨(some 11), .mv (.t 0), none⟩,
    ⟨(some 12), .mv (.t 1), none⟩,
    ⟨(some 13), .bin .sub (.k (.c (.d (.int .i64 1000000000)))) (.t 12), none⟩,
    ⟨(some 14), .call 46 [(.t 11), (.t 13), (.k (.c (.d (.int .i64 1000000000)))), (.k (.c (.d (.bool false))))] none, none⟩,
    ⟨(some 15), .mv (.t 0), none⟩,
    ⟨(some 16), .mv (.t 1), none⟩,
    ⟨(some 17), .bin .add (.k (.c (.d (.int .i64 1000000000)))) (.t 16), none⟩,
    ⟨(some 18), .call 46 [(.t 15), (.t 17), (.k (.c (.d (.int .i64 1000000000)))), (.k (.c (.d (.bool true))))] none, none⟩,
    ⟨(some 19), .build [(.d (.int .i64 0)), (.d (.int .i64 0))] [(0, 1, (.t 14)), (1, 1, (.t 18))], none⟩,
    ⟨none, .store (.ag 2) (.t 4) (.t 19), none⟩,
    ⟨(some 5), .mv (.k (.c (.d (.int .i64 0)))), none⟩])
  (.ret))),
  [(4, (some (.ag 2))), (5, none)]⟩
theorem cf_radv : compFn Try.prog { own := [], comp := [], frz := [], nils := [] } Try.f15 = some sf_radv := by kernel_rfl
theorem radv_c (G : Glob) (e p : Int) : Den Try.prog G 15 [.int .i64 e, .int .i64 p] (.tup [.c (.d (spA (inD e p) (adA e p) (adB e p))), .c (.d (.int .i64 (elaE e p)))]) := by
  refine den_walk Try.func15 cf_radv rfl rfl ?_
  have c1 := rind_c G e p
  unfold spA elaE
  cases hv : inD e p
  · rw [hv] at c1
    simp only [sf_radv, putAll, wx, wy, wz, stV, seval, IntWalk.iteOmega, IntWalk.toNatUp, reduceCtorEq]
    refine st_call (c1) rfl (.inl rfl) ?_
    simp only [wx, wy, wz, stV, seval, IntWalk.iteOmega, IntWalk.toNatUp, reduceCtorEq]
    exact ret_d2 (by simp only [wx, wy, wz, stV, seval, IntWalk.iteOmega, IntWalk.toNatUp, reduceCtorEq]) (by simp only [wx, wy, wz, stV, seval, IntWalk.iteOmega, IntWalk.toNatUp, reduceCtorEq])
  · rw [hv] at c1
    obtain ⟨h1, h2, h3, h4⟩ := inD_t hv
    have c2 := rrat_c G e (1000000000 - p) 1000000000 false h1 h2 (by omega) (by omega) (by decide) (by decide)
    have c3 := rrat_c G e (1000000000 + p) 1000000000 true h1 h2 (by omega) (by omega) (by decide) (by decide)
    rw [if_pos rfl] at c3
    rw [if_neg (by decide)] at c2
    rw [if_pos rfl, if_pos rfl, if_pos rfl]
    unfold adA adB
    generalize e * (1000000000 - p) / 1000000000 = A at *
    generalize upQ (e * (1000000000 + p)) 1000000000 = B at *
    simp only [sf_radv, putAll, wx, wy, wz, stV, seval, IntWalk.iteOmega, IntWalk.toNatUp, reduceCtorEq]
    refine st_call (c1) rfl (.inl rfl) ?_
    simp only [wx, wy, wz, stV, seval, IntWalk.iteOmega, IntWalk.toNatUp, reduceCtorEq]
    refine st_call (c2) rfl (.inl rfl) ?_
    simp only [wx, wy, wz, stV, seval, IntWalk.iteOmega, IntWalk.toNatUp, reduceCtorEq]
    refine st_call (c3) rfl (.inl rfl) ?_
    simp only [wx, wy, wz, stV, seval, IntWalk.iteOmega, IntWalk.toNatUp, reduceCtorEq]
    exact ret_d2 (by simp only [wx, wy, wz, stV, seval, IntWalk.iteOmega, IntWalk.toNatUp, reduceCtorEq]) (by simp only [wx, wy, wz, stV, seval, IntWalk.iteOmega, IntWalk.toNatUp, reduceCtorEq])
def sf_rprj : SFn := ⟨3, 29,
  .seq (.reg [⟨(some 3), .box .roBox (.t 0), none⟩,
    ⟨(some 6), .alloc [(.d (.int .i64 0)), (.d (.int .i64 0))], none⟩,
    ⟨(some 7), .mv (.k (.c (.d (.int .i64 0)))), none⟩])
  (.seq (.seq (.reg [⟨(some 10), .load (.ag 2) (.t 3), none⟩,
    ⟨(some 11), .call 51 [(.t 10)] none, none⟩,
    ⟨(some 12), .un .not (.t 11), none⟩])
  (.cond (.t 12) (.seq (.reg [⟨(some 13), .build [(.d (.int .i64 0)), (.d (.int .i64 0))] [], none⟩,
     ⟨none, .store (.ag 2) (.t 6) (.t 13), none⟩,
     ⟨(some 7), .mv (.k (.c (.d (.int .i64 3)))), none⟩])
   (.ret))
   (.skip)))
  (.seq (.reg [⟨(some 15), .mv (.t 1), none⟩,
    ⟨(some 16), .mv (.t 2), none⟩,
    ⟨(some 17), .call 13 [(.t 15), (.t 16)] none, none⟩,
    ⟨(some 14), .mv (.t 17), none⟩,
    ⟨(some 18), .extract (.t 14) 0, none⟩,
    ⟨(some 19), .extract (.t 14) 1, none⟩,
    ⟨(some 8), .alloc [(.d (.int .i64 0)), (.d (.int .i64 0))], none⟩,
    ⟨none, .store (.ag 2) (.t 8) (.t 18), none⟩,
    ⟨(some 9), .mv (.t 19), none⟩])
  (.seq (.seq (.reg [⟨(some 20), .mv (.t 9), none⟩,
    ⟨(some 21), .bin .neq (.t 20) (.k (.c (.d (.int .i64 0)))), none⟩])
  (.cond (.t 21) (.seq (.reg [⟨(some 22), .build [(.d (.int .i64 0)), (.d (.int .i64 0))] [], none⟩,
     ⟨(some 23), .mv (.t 9), none⟩,
     ⟨none, .store (.ag 2) (.t 6) (.t 22), none⟩,
     ⟨(some 7), .mv (.t 23), none⟩])
   (.ret))
   (.skip)))
  (.seq (.reg [⟨(some 24), .load (.ag 2) (.t 3), none⟩,
    ⟨(some 25), .load (.ag 2) (.t 8), none⟩,
    ⟨(some 26), .call 52 [(.t 24), (.t 25)] none, none⟩,
    ⟨(some 27), .extract (.t 26) 0, none⟩,
    ⟨(some 28), .extract (.t 26) 1, none⟩,
    ⟨none, .store (.ag 2) (.t 6) (.t 27), none⟩,
    ⟨(some 7), .mv (.t 28), none⟩])
  (.ret))))),
  [(6, (some (.ag 2))), (7, none)]⟩
theorem cf_rprj : compFn Try.prog { own := [], comp := [], frz := [], nils := [] } Try.f17 = some sf_rprj := by kernel_rfl
theorem rprj_c (G : Glob) (a b d p : Int) : Den Try.prog G 17 [.agg [.int .i64 a, .int .i64 b], .int .i64 d, .int .i64 p] (.tup [.c (.d (spA (carB a b d p (a + elA d p) (b + elB d p)) (a + elA d p) (b + elB d p))), .c (.d (.int .i64 (carE a b d p (a + elA d p) (b + elB d p))))]) := by
  refine den_walk Try.func17 cf_rprj rfl rfl ?_
  have c1 := rsv_c G a b
  have c2 := rela_c G d p
  have c3 := radd_c G a b (elA d p) (elB d p)
  cases h1 : okP (a, b)
  · rw [h1] at c1
    have e1 : carB a b d p (a + elA d p) (b + elB d p) = false := by unfold carB; rw [h1]; rfl
    have e2 : carE a b d p (a + elA d p) (b + elB d p) = 3 := by unfold carE; rw [h1]; rfl
    rw [e1, e2]
    simp only [sf_rprj, putAll, wx, wy, wz, stV, seval, IntWalk.iteOmega, IntWalk.toNatUp, reduceCtorEq]
    refine st_call (c1) rfl (.inl rfl) ?_
    simp only [wx, wy, wz, stV, seval, IntWalk.iteOmega, IntWalk.toNatUp, reduceCtorEq]
    unfold spA
    exact ret_d2 (by simp only [wx, wy, wz, stV, seval, IntWalk.iteOmega, IntWalk.toNatUp, reduceCtorEq]) (by simp only [wx, wy, wz, stV, seval, IntWalk.iteOmega, IntWalk.toNatUp, reduceCtorEq])
  · rw [h1] at c1
    unfold elaE at c2
    cases h2 : inD d p
    · have e1 : carB a b d p (a + elA d p) (b + elB d p) = false := by unfold carB; rw [h1, h2]; rfl
      have e2 : carE a b d p (a + elA d p) (b + elB d p) = 4 := by unfold carE; rw [h1, h2]; rfl
      rw [e1, e2]
      rw [h2] at c2
      simp only [sf_rprj, putAll, wx, wy, wz, stV, seval, IntWalk.iteOmega, IntWalk.toNatUp, reduceCtorEq]
      refine st_call (c1) rfl (.inl rfl) ?_
      simp only [wx, wy, wz, stV, seval, IntWalk.iteOmega, IntWalk.toNatUp, reduceCtorEq]
      refine st_call (c2) rfl (.inl rfl) ?_
      simp only [spA, wx, wy, wz, stV, seval, IntWalk.iteOmega, IntWalk.toNatUp, reduceCtorEq]
      exact ret_d2 (by simp only [wx, wy, wz, stV, seval, IntWalk.iteOmega, IntWalk.toNatUp, reduceCtorEq]) (by simp only [wx, wy, wz, stV, seval, IntWalk.iteOmega, IntWalk.toNatUp, reduceCtorEq])
    · obtain ⟨e1, e2⟩ := car_sum h1 h2 (a + elA d p) (b + elB d p)
      rw [e1, e2] at c3
      rw [h2] at c2
      unfold spA at c2 c3
      simp only [if_true] at c2
      generalize carB a b d p (a + elA d p) (b + elB d p) = B at *
      generalize carE a b d p (a + elA d p) (b + elB d p) = E at *
      generalize (a + elA d p) = x at *
      generalize (b + elB d p) = y at *
      generalize elA d p = u at *
      generalize elB d p = v at *
      simp only [sf_rprj, putAll, wx, wy, wz, stV, seval, IntWalk.iteOmega, IntWalk.toNatUp, reduceCtorEq]
      refine st_call (c1) rfl (.inl rfl) ?_
      simp only [wx, wy, wz, stV, seval, IntWalk.iteOmega, IntWalk.toNatUp, reduceCtorEq]
      refine st_call (c2) rfl (.inl rfl) ?_
      simp only [wx, wy, wz, stV, seval, IntWalk.iteOmega, IntWalk.toNatUp, reduceCtorEq]
      refine st_call (c3) rfl (.inl rfl) ?_
      simp only [wx, wy, wz, stV, seval, IntWalk.iteOmega, IntWalk.toNatUp, reduceCtorEq]
      unfold spA
      exact ret_d2 (by simp only [wx, wy, wz, stV, seval, IntWalk.iteOmega, IntWalk.toNatUp, reduceCtorEq]) (by simp only [wx, wy, wz, stV, seval, IntWalk.iteOmega, IntWalk.toNatUp, reduceCtorEq])
def sf_rbck : SFn := ⟨3, 29,
  .seq (.reg [⟨(some 3), .box .roBox (.t 0), none⟩,
    ⟨(some 6), .alloc [(.d (.int .i64 0)), (.d (.int .i64 0))], none⟩,
    ⟨(some 7), .mv (.k (.c (.d (.int .i64 0)))), none⟩])
  (.seq (.seq (.reg [⟨(some 10), .load (.ag 2) (.t 3), none⟩,
    ⟨(some 11), .call 51 [(.t 10)] none, none⟩,
    ⟨(some 12), .un .not (.t 11), none⟩])
  (.cond (.t 12) (.seq (.reg [⟨(some 13), .build [(.d (.int .i64 0)), (.d (.int .i64 0))] [], none⟩,
     ⟨none, .store (.ag 2) (.t 6) (.t 13), none⟩,
     ⟨(some 7), .mv (.k (.c (.d (.int .i64 3)))), none⟩])
   (.ret))
   (.skip)))
  (.seq (.reg [⟨(some 15), .mv (.t 1), none⟩,
    ⟨(some 16), .mv (.t 2), none⟩,
    ⟨(some 17), .call 13 [(.t 15), (.t 16)] none, none⟩,
    ⟨(some 14), .mv (.t 17), none⟩,
    ⟨(some 18), .extract (.t 14) 0, none⟩,
    ⟨(some 19), .extract (.t 14) 1, none⟩,
    ⟨(some 8), .alloc [(.d (.int .i64 0)), (.d (.int .i64 0))], none⟩,
    ⟨none, .store (.ag 2) (.t 8) (.t 18), none⟩,
    ⟨(some 9), .mv (.t 19), none⟩])
  (.seq (.seq (.reg [⟨(some 20), .mv (.t 9), none⟩,
    ⟨(some 21), .bin .neq (.t 20) (.k (.c (.d (.int .i64 0)))), none⟩])
  (.cond (.t 21) (.seq (.reg [⟨(some 22), .build [(.d (.int .i64 0)), (.d (.int .i64 0))] [], none⟩,
     ⟨(some 23), .mv (.t 9), none⟩,
     ⟨none, .store (.ag 2) (.t 6) (.t 22), none⟩,
     ⟨(some 7), .mv (.t 23), none⟩])
   (.ret))
   (.skip)))
  (.seq (.reg [⟨(some 24), .load (.ag 2) (.t 3), none⟩,
    ⟨(some 25), .load (.ag 2) (.t 8), none⟩,
    ⟨(some 26), .call 54 [(.t 24), (.t 25)] none, none⟩,
    ⟨(some 27), .extract (.t 26) 0, none⟩,
    ⟨(some 28), .extract (.t 26) 1, none⟩,
    ⟨none, .store (.ag 2) (.t 6) (.t 27), none⟩,
    ⟨(some 7), .mv (.t 28), none⟩])
  (.ret))))),
  [(6, (some (.ag 2))), (7, none)]⟩
theorem cf_rbck : compFn Try.prog { own := [], comp := [], frz := [], nils := [] } Try.f19 = some sf_rbck := by kernel_rfl
theorem rbck_c (G : Glob) (a b d p : Int) : Den Try.prog G 19 [.agg [.int .i64 a, .int .i64 b], .int .i64 d, .int .i64 p] (.tup [.c (.d (spA (carB a b d p (a - elB d p) (b - elA d p)) (a - elB d p) (b - elA d p))), .c (.d (.int .i64 (carE a b d p (a - elB d p) (b - elA d p))))]) := by
  refine den_walk Try.func19 cf_rbck rfl rfl ?_
  have c1 := rsv_c G a b
  have c2 := rela_c G d p
  have c3 := rsbs_c G a b (elA d p) (elB d p)
  cases h1 : okP (a, b)
  · rw [h1] at c1
    have e1 : carB a b d p (a - elB d p) (b - elA d p) = false := by unfold carB; rw [h1]; rfl
    have e2 : carE a b d p (a - elB d p) (b - elA d p) = 3 := by unfold carE; rw [h1]; rfl
    rw [e1, e2]
    simp only [sf_rbck, putAll, wx, wy, wz, stV, seval, IntWalk.iteOmega, IntWalk.toNatUp, reduceCtorEq]
    refine st_call (c1) rfl (.inl rfl) ?_
    simp only [wx, wy, wz, stV, seval, IntWalk.iteOmega, IntWalk.toNatUp, reduceCtorEq]
    unfold spA
    exact ret_d2 (by simp only [wx, wy, wz, stV, seval, IntWalk.iteOmega, IntWalk.toNatUp, reduceCtorEq]) (by simp only [wx, wy, wz, stV, seval, IntWalk.iteOmega, IntWalk.toNatUp, reduceCtorEq])
  · rw [h1] at c1
    unfold elaE at c2
    cases h2 : inD d p
    · have e1 : carB a b d p (a - elB d p) (b - elA d p) = false := by unfold carB; rw [h1, h2]; rfl
      have e2 : carE a b d p (a - elB d p) (b - elA d p) = 4 := by unfold carE; rw [h1, h2]; rfl
      rw [e1, e2]
      rw [h2] at c2
      simp only [sf_rbck, putAll, wx, wy, wz, stV, seval, IntWalk.iteOmega, IntWalk.toNatUp, reduceCtorEq]
      refine st_call (c1) rfl (.inl rfl) ?_
      simp only [wx, wy, wz, stV, seval, IntWalk.iteOmega, IntWalk.toNatUp, reduceCtorEq]
      refine st_call (c2) rfl (.inl rfl) ?_
      simp only [spA, wx, wy, wz, stV, seval, IntWalk.iteOmega, IntWalk.toNatUp, reduceCtorEq]
      exact ret_d2 (by simp only [wx, wy, wz, stV, seval, IntWalk.iteOmega, IntWalk.toNatUp, reduceCtorEq]) (by simp only [wx, wy, wz, stV, seval, IntWalk.iteOmega, IntWalk.toNatUp, reduceCtorEq])
    · obtain ⟨e1, e2⟩ := car_sum h1 h2 (a - elB d p) (b - elA d p)
      rw [e1, e2] at c3
      rw [h2] at c2
      unfold spA at c2 c3
      simp only [if_true] at c2
      generalize carB a b d p (a - elB d p) (b - elA d p) = B at *
      generalize carE a b d p (a - elB d p) (b - elA d p) = E at *
      generalize (a - elB d p) = x at *
      generalize (b - elA d p) = y at *
      generalize elA d p = u at *
      generalize elB d p = v at *
      simp only [sf_rbck, putAll, wx, wy, wz, stV, seval, IntWalk.iteOmega, IntWalk.toNatUp, reduceCtorEq]
      refine st_call (c1) rfl (.inl rfl) ?_
      simp only [wx, wy, wz, stV, seval, IntWalk.iteOmega, IntWalk.toNatUp, reduceCtorEq]
      refine st_call (c2) rfl (.inl rfl) ?_
      simp only [wx, wy, wz, stV, seval, IntWalk.iteOmega, IntWalk.toNatUp, reduceCtorEq]
      refine st_call (c3) rfl (.inl rfl) ?_
      simp only [wx, wy, wz, stV, seval, IntWalk.iteOmega, IntWalk.toNatUp, reduceCtorEq]
      unfold spA
      exact ret_d2 (by simp only [wx, wy, wz, stV, seval, IntWalk.iteOmega, IntWalk.toNatUp, reduceCtorEq]) (by simp only [wx, wy, wz, stV, seval, IntWalk.iteOmega, IntWalk.toNatUp, reduceCtorEq])
def rrtSt (e d : Int) (k : Nat) : St := ⟨ofL [(0, .w (.c (.d (.int .i64 e)))), (1, .w (.c (.d (.int .i64 d)))), (6, .w (.c (.d (.int .i64 (bisK (ratP e d) 0 1000000 k).1)))), (7, .w (.c (.d (.int .i64 (bisK (ratP e d) 0 1000000 k).2))))], hL [], uL []⟩
def lp_rrte_0 : SCode :=
  .seq (.seq (.reg [⟨(some 21), .mv (.t 6), none⟩,
    ⟨(some 22), .mv (.t 7), none⟩,
    ⟨(some 23), .bin .lss (.t 21) (.t 22), none⟩])
  (.cond (.t 23) (.skip)
   (.exit 0)))
  (.block 1 (.seq (.reg [⟨(some 24), .mv (.t 6), none⟩,
     ⟨(some 25), .mv (.t 7), none⟩,
     ⟨(some 26), .bin .add (.t 24) (.t 25), none⟩,
     ⟨(some 27), .bin .quo (.t 26) (.k (.c (.d (.int .i64 2)))), none⟩,
     ⟨(some 8), .mv (.t 27), none⟩])
   (.seq (.reg [⟨(some 28), .mv (.t 0), none⟩,
     ⟨(some 29), .mv (.t 1), none⟩,
     ⟨(some 30), .mv (.t 8), none⟩,
     ⟨(some 31), .call 24 [(.t 28), (.t 29), (.t 30)] none, none⟩])
   (.cond (.t 31) (.reg [⟨(some 32), .mv (.t 8), none⟩,
      ⟨(some 7), .mv (.t 32), none⟩])
    (.reg [⟨(some 33), .mv (.t 8), none⟩,
      ⟨(some 34), .bin .add (.t 33) (.k (.c (.d (.int .i64 1)))), none⟩,
      ⟨(some 6), .mv (.t 34), none⟩])))))
def sf_rrte : SFn := ⟨2, 36,
  .seq (.reg [⟨(some 4), .mv (.k (.c (.d (.int .i64 0)))), none⟩,
    ⟨(some 5), .mv (.k (.c (.d (.int .i64 0)))), none⟩])
  (.seq (.seq (.reg [⟨(some 9), .mv (.t 0), none⟩,
    ⟨(some 10), .call 45 [(.t 9), (.k (.c (.d (.int .i64 0))))] none, none⟩,
    ⟨(some 11), .un .not (.t 10), none⟩,
    ⟨(some 12), .mv (.t 11), none⟩,
    ⟨(some 13), .mv (.t 1), (some (12, false))⟩,
    ⟨(some 14), .call 45 [(.t 13), (.k (.c (.d (.int .i64 0))))] none, (some (12, false))⟩,
    ⟨(some 15), .un .not (.t 14), (some (12, false))⟩,
    ⟨(some 16), .pick (.t 12) (.k (.c (.d (.bool true)))) (.t 15), none⟩])
  (.cond (.t 16) (.seq (.reg [⟨(some 4), .mv (.k (.c (.d (.int .i64 0)))), none⟩,
     ⟨(some 5), .mv (.k (.c (.d (.int .i64 4)))), none⟩])
   (.ret))
   (.skip)))
  (.seq (.seq (.reg [⟨(some 17), .mv (.t 0), none⟩,
    ⟨(some 18), .mv (.t 1), none⟩,
    ⟨(some 19), .call 24 [(.t 17), (.t 18), (.k (.c (.d (.int .i64 1000000))))] none, none⟩,
    ⟨(some 20), .un .not (.t 19), none⟩])
  (.cond (.t 20) (.seq (.reg [⟨(some 4), .mv (.k (.c (.d (.int .i64 0)))), none⟩,
     ⟨(some 5), .mv (.k (.c (.d (.int .i64 10)))), none⟩])
   (.ret))
   (.skip)))
  (.seq (.reg [⟨(some 6), .mv (.k (.c (.d (.int .i64 0)))), none⟩,
    ⟨(some 7), .mv (.k (.c (.d (.int .i64 1000000)))), none⟩])
  (.seq (.block 0 (.loop lp_rrte_0))
  (.seq (.reg [⟨(some 35), .mv (.t 6), none⟩,
    ⟨(some 4), .mv (.t 35), none⟩,
    ⟨(some 5), .mv (.k (.c (.d (.int .i64 0)))), none⟩])
  (.ret)))))),
  [(4, none), (5, none)]⟩
theorem cf_rrte : compFn Try.prog { own := [], comp := [], frz := [], nils := [] } Try.f21 = some sf_rrte := by kernel_rfl
set_option maxHeartbeats 800000 in
theorem rrte_c (G : Glob) (e d : Int) : Den Try.prog G 21 [.int .i64 e, .int .i64 d] (.tup [.c (.d (.int .i64 (ratV e d))), .c (.d (.int .i64 (ratE e d)))]) := by
  refine den_walk Try.func21 cf_rrte rfl rfl ?_
  have c1 := rind_c G e 0
  have c2 := rind_c G d 0
  have c3 := rfit_c G e d 1000000
  have rt := rat_top e d
  unfold ratV ratE ratR
  cases h1 : inD e 0
  · rw [h1] at c1
    simp only [Bool.false_and, Bool.false_eq_true, if_false]
    simp only [sf_rrte, putAll, wx, wy, wz, stV, seval, IntWalk.iteOmega, IntWalk.toNatUp, reduceCtorEq]
    refine st_call (c1) rfl (.inl rfl) ?_
    simp only [wx, wy, wz, stV, seval, IntWalk.iteOmega, IntWalk.toNatUp, reduceCtorEq]
    exact ret_d2 (by simp only [wx, wy, wz, stV, seval, IntWalk.iteOmega, IntWalk.toNatUp, reduceCtorEq]) (by simp only [wx, wy, wz, stV, seval, IntWalk.iteOmega, IntWalk.toNatUp, reduceCtorEq])
  · rw [h1] at c1
    cases h2 : inD d 0
    · rw [h2] at c2
      simp only [Bool.and_false, Bool.false_eq_true, if_false]
      simp only [sf_rrte, putAll, wx, wy, wz, stV, seval, IntWalk.iteOmega, IntWalk.toNatUp, reduceCtorEq]
      refine st_call (c1) rfl (.inl rfl) ?_
      simp only [wx, wy, wz, stV, seval, IntWalk.iteOmega, IntWalk.toNatUp, reduceCtorEq]
      refine st_call (c2) rfl (.inl rfl) ?_
      simp only [wx, wy, wz, stV, seval, IntWalk.iteOmega, IntWalk.toNatUp, reduceCtorEq]
      exact ret_d2 (by simp only [wx, wy, wz, stV, seval, IntWalk.iteOmega, IntWalk.toNatUp, reduceCtorEq]) (by simp only [wx, wy, wz, stV, seval, IntWalk.iteOmega, IntWalk.toNatUp, reduceCtorEq])
    · rw [h2] at c2
      simp only [Bool.and_self, if_true]
      cases hp : fitB e d 1000000
      · rw [hp] at c3
        have hn : ¬ ratN e d ≤ 1000000 := fun h => by have := rt.1 h; unfold ratP at this; rw [hp] at this; cases this
        rw [if_neg hn, if_neg hn]
        simp only [sf_rrte, putAll, wx, wy, wz, stV, seval, IntWalk.iteOmega, IntWalk.toNatUp, reduceCtorEq]
        refine st_call (c1) rfl (.inl rfl) ?_
        simp only [wx, wy, wz, stV, seval, IntWalk.iteOmega, IntWalk.toNatUp, reduceCtorEq]
        refine st_call (c2) rfl (.inl rfl) ?_
        simp only [wx, wy, wz, stV, seval, IntWalk.iteOmega, IntWalk.toNatUp, reduceCtorEq]
        refine st_call (c3) rfl (.inl rfl) ?_
        simp only [wx, wy, wz, stV, seval, IntWalk.iteOmega, IntWalk.toNatUp, reduceCtorEq]
        exact ret_d2 (by simp only [wx, wy, wz, stV, seval, IntWalk.iteOmega, IntWalk.toNatUp, reduceCtorEq]) (by simp only [wx, wy, wz, stV, seval, IntWalk.iteOmega, IntWalk.toNatUp, reduceCtorEq])
      · rw [hp] at c3
        have hn : ratN e d ≤ 1000000 := rt.2 hp
        rw [if_pos hn, if_pos hn, ← rat_ref hp]
        obtain ⟨_, hv, hend, hgo⟩ := bis_ok (P := ratP e d) (lo := 0) (hi := 1000000) (by decide) (fun a b h0 h1 h2 => ratP_mono e d a b h0 h1 (by omega))
        simp only [sf_rrte, putAll, wx, wy, wz, stV, seval, IntWalk.iteOmega, IntWalk.toNatUp, reduceCtorEq]
        refine st_call (c1) rfl (.inl rfl) ?_
        simp only [wx, wy, wz, stV, seval, IntWalk.iteOmega, IntWalk.toNatUp, reduceCtorEq]
        refine st_call (c2) rfl (.inl rfl) ?_
        simp only [wx, wy, wz, stV, seval, IntWalk.iteOmega, IntWalk.toNatUp, reduceCtorEq]
        refine st_call (c3) rfl (.inl rfl) ?_
        simp only [wx, wy, wz, stV, seval, IntWalk.iteOmega, IntWalk.toNatUp, reduceCtorEq]
        refine loop_st (rrtSt e d) (fun k => bisE (ratP e d) 0 1000000 - k) (fun k => k ≤ bisE (ratP e d) 0 1000000) 0 (Nat.zero_le _) ?_ ?_
        · have e1 : (bisK (ratP e d) 0 1000000 0).1 = 0 := rfl
          have e2 : (bisK (ratP e d) 0 1000000 0).2 = 1000000 := rfl
          refine ent_l (fun i => i) ?_ ?_ rfl rfl <;> simp only [wx, wex, wez, stV, seval, IntWalk.iteOmega, IntWalk.toNatUp, reduceCtorEq, e1, e2]
        · intro k hk
          by_cases hlt : k < bisE (ratP e d) 0 1000000
          · obtain ⟨g1, g2, g3⟩ := hgo k hlt
            have es : bisK (ratP e d) 0 1000000 (k + 1) = bisS (ratP e d) (bisK (ratP e d) 0 1000000 k) := rfl
            obtain ⟨x, hx⟩ : ∃ x, (bisK (ratP e d) 0 1000000 k).1 = x := ⟨_, rfl⟩
            obtain ⟨y, hy⟩ : ∃ y, (bisK (ratP e d) 0 1000000 k).2 = y := ⟨_, rfl⟩
            unfold bisS at es
            rw [hx, hy, show ratP e d ((x + y) / 2) = fitB e d ((x + y) / 2) from rfl] at es
            rw [hx] at g1 g2
            rw [hy] at g1 g3
            have hq : (x + y).tdiv 2 = (x + y) / 2 := Int.tdiv_eq_ediv_of_nonneg (by omega)
            have cs := rfit_c G e d ((x + y) / 2)
            have m1 : x ≤ (x + y) / 2 := by omega
            have m2 : (x + y) / 2 < y := by omega
            generalize hM : (x + y) / 2 = m at *
            cases c : fitB e d m
            · rw [c] at cs
              rw [c, if_neg (by simp)] at es
              simp only [lp_rrte_0, rrtSt, hx, hy, wx, wy, wz, stV, seval, IntWalk.iteOmega, IntWalk.toNatUp, reduceCtorEq, hq]
              refine st_call (cs) rfl (.inl rfl) ?_
              simp only [wx, wy, wz, stV, seval, IntWalk.iteOmega, IntWalk.toNatUp, reduceCtorEq]
              refine lop_next (k + 1) (by omega) (by omega) (ent_l (fun i => i) ?_ ?_ rfl rfl) <;> simp only [wx, wex, wez, stV, seval, IntWalk.iteOmega, IntWalk.toNatUp, reduceCtorEq, es]
            · rw [c] at cs
              rw [c, if_pos rfl] at es
              simp only [lp_rrte_0, rrtSt, hx, hy, wx, wy, wz, stV, seval, IntWalk.iteOmega, IntWalk.toNatUp, reduceCtorEq, hq]
              refine st_call (cs) rfl (.inl rfl) ?_
              simp only [wx, wy, wz, stV, seval, IntWalk.iteOmega, IntWalk.toNatUp, reduceCtorEq]
              refine lop_next (k + 1) (by omega) (by omega) (ent_l (fun i => i) ?_ ?_ rfl rfl) <;> simp only [wx, wex, wez, stV, seval, IntWalk.iteOmega, IntWalk.toNatUp, reduceCtorEq, es]
          · obtain rfl : k = bisE (ratP e d) 0 1000000 := by omega
            generalize bisE (ratP e d) 0 1000000 = k at *
            rw [← hv]
            obtain ⟨x, hx⟩ : ∃ x, (bisK (ratP e d) 0 1000000 k).1 = x := ⟨_, rfl⟩
            obtain ⟨y, hy⟩ : ∃ y, (bisK (ratP e d) 0 1000000 k).2 = y := ⟨_, rfl⟩
            rw [hx] at hend ⊢
            rw [hy] at hend
            simp only [lp_rrte_0, rrtSt, hx, hy, wx, wy, wz, stV, seval, IntWalk.iteOmega, IntWalk.toNatUp, reduceCtorEq]
            exact ret_d2 (by simp only [wx, wy, wz, stV, seval, IntWalk.iteOmega, IntWalk.toNatUp, reduceCtorEq]) (by simp only [wx, wy, wz, stV, seval, IntWalk.iteOmega, IntWalk.toNatUp, reduceCtorEq])
end Go.Proofs.Ytjebhdadegfbdaa
set_option linter.unusedVariables false
set_option linter.unusedSimpArgs false
namespace Go.Proofs.Ytjebhdadegfbdaa
open Go.RowKit

def sf_known15 : SFn := ⟨0, 40,
  .seq (.reg [⟨(some 0), .mv (.k (.c (.d (.bool false)))), none⟩])
  (.seq (.reg [⟨(some 6), .call 12 [(.k (.c (.d (.int .i64 1099511627776)))), (.k (.c (.d (.int .i64 1000))))] none, none⟩,
    ⟨(some 5), .mv (.t 6), none⟩,
    ⟨(some 7), .extract (.t 5) 0, none⟩,
    ⟨(some 8), .extract (.t 5) 1, none⟩,
    ⟨(some 1), .alloc [(.d (.int .i64 0)), (.d (.int .i64 0))], none⟩,
    ⟨none, .store (.ag 2) (.t 1) (.t 7), none⟩,
    ⟨(some 2), .mv (.t 8), none⟩])
  (.seq (.reg [⟨(some 10), .call 20 [(.k (.c (.d (.int .i64 1000000)))), (.k (.c (.d (.int .i64 1000001))))] none, none⟩,
    ⟨(some 9), .mv (.t 10), none⟩,
    ⟨(some 11), .extract (.t 9) 0, none⟩,
    ⟨(some 12), .extract (.t 9) 1, none⟩,
    ⟨(some 3), .mv (.t 11), none⟩,
    ⟨(some 4), .mv (.t 12), none⟩])
  (.seq (.reg [⟨(some 13), .mv (.t 2), none⟩,
    ⟨(some 14), .bin .eql (.t 13) (.k (.c (.d (.int .i64 0)))), none⟩,
    ⟨(some 15), .mv (.t 14), none⟩,
    ⟨(some 16), .mv (.t 4), (some (15, true))⟩,
    ⟨(some 17), .bin .eql (.t 16) (.k (.c (.d (.int .i64 0)))), (some (15, true))⟩,
    ⟨(some 18), .pick (.t 15) (.t 17) (.k (.c (.d (.bool false)))), none⟩,
    ⟨(some 19), .mv (.t 18), none⟩,
    ⟨(some 20), .fieldAddr 0 (.t 1), (some (19, true))⟩,
    ⟨(some 21), .load .sc (.t 20), (some (19, true))⟩,
    ⟨(some 22), .bin .eql (.t 21) (.k (.c (.d (.int .i64 1099510528265)))), (some (19, true))⟩,
    ⟨(some 23), .pick (.t 19) (.t 22) (.k (.c (.d (.bool false)))), none⟩,
    ⟨(some 24), .mv (.t 23), none⟩,
    ⟨(some 25), .fieldAddr 1 (.t 1), (some (24, true))⟩,
    ⟨(some 26), .load .sc (.t 25), (some (24, true))⟩,
    ⟨(some 27), .bin .eql (.t 26) (.k (.c (.d (.int .i64 1099512727289)))), (some (24, true))⟩,
    ⟨(some 28), .pick (.t 24) (.t 27) (.k (.c (.d (.bool false)))), none⟩,
    ⟨(some 29), .mv (.t 28), none⟩,
    ⟨(some 30), .mv (.t 3), (some (29, true))⟩,
    ⟨(some 31), .bin .eql (.t 30) (.k (.c (.d (.int .i64 1000)))), (some (29, true))⟩,
    ⟨(some 32), .pick (.t 29) (.t 31) (.k (.c (.d (.bool false)))), none⟩,
    ⟨(some 33), .mv (.t 32), none⟩,
    ⟨(some 34), .call 23 [(.k (.c (.d (.int .i64 0)))), (.k (.c (.d (.int .i64 0)))), (.k (.c (.d (.int .i64 0))))] none, (some (33, true))⟩,
    ⟨(some 35), .pick (.t 33) (.t 34) (.k (.c (.d (.bool false)))), none⟩,
    ⟨(some 36), .mv (.t 35), none⟩,
    ⟨(some 37), .call 23 [(.k (.c (.d (.int .i64 0)))), (.k (.c (.d (.int .i64 1)))), (.k (.c (.d (.int .i64 1000000))))] none, (some (36, true))⟩,
    ⟨(some 38), .un .not (.t 37), (some (36, true))⟩,
    ⟨(some 39), .pick (.t 36) (.t 38) (.k (.c (.d (.bool false)))), none⟩,
    ⟨(some 0), .mv (.t 39), none⟩])
  (.ret)))),
  [(0, none)]⟩
theorem cf_known15 : compFn Try.prog { own := [], comp := [], frz := [], nils := [] } Try.f22 = some sf_known15 := by kernel_rfl
theorem known15_c (G : Glob) : Den Try.prog G 22 [] (.w (.c (.d (.bool true)))) := by
  refine den_walk Try.func22 cf_known15 rfl rfl ?_
  have c1 := dela_c G 1099511627776 1000
  rw [show inD 1099511627776 1000 = true by decide, show elA 1099511627776 1000 = 1099510528265 by decide +kernel, show elB 1099511627776 1000 = 1099512727289 by decide +kernel, show elaE 1099511627776 1000 = 0 by decide +kernel] at c1
  have c2 := drat_c G 1000000 1000001
  have hn : ratN 1000000 1000001 = 1000 := by
    obtain ⟨b1, b2, b3, b4⟩ := rat_ok 1000000 1000001
    have t1 : ratP 1000000 1000001 1000 = true := by decide +kernel
    have t2 : ratP 1000000 1000001 999 = false := by decide +kernel
    have l1 : ratN 1000000 1000001 ≤ 1000 := by
      rcases Int.lt_or_le 1000 (ratN 1000000 1000001) with k | k
      · rw [b3 1000 (by decide) k] at t1; cases t1
      · exact k
    rcases Int.lt_or_le (ratN 1000000 1000001) 1000 with k | k
    · have := ratP_mono 1000000 1000001 _ 999 b1 (by omega) (by decide) (b4 (by omega))
      rw [t2] at this; cases this
    · omega
  rw [show ratV 1000000 1000001 = 1000 by unfold ratV; rw [hn, show ratR 1000000 1000001 = true by decide]; rfl, show ratE 1000000 1000001 = 0 by unfold ratE; rw [hn, show ratR 1000000 1000001 = true by decide]; rfl] at c2
  have c3 := dfit_c G 0 0 0
  rw [show fitB 0 0 0 = true by decide] at c3
  have c4 := dfit_c G 0 1 1000000
  rw [show fitB 0 1 1000000 = false by decide] at c4
  simp only [sf_known15, putAll, wx, wy, wz, stV, seval, IntWalk.iteOmega, IntWalk.toNatUp, reduceCtorEq]
  refine st_call (c1) rfl (.inl rfl) ?_
  simp only [spA, wx, wy, wz, stV, seval, IntWalk.iteOmega, IntWalk.toNatUp, reduceCtorEq]
  refine st_call (c2) rfl (.inl rfl) ?_
  simp only [wx, wy, wz, stV, seval, IntWalk.iteOmega, IntWalk.toNatUp, reduceCtorEq]
  refine st_call (c3) rfl (.inl rfl) ?_
  simp only [wx, wy, wz, stV, seval, IntWalk.iteOmega, IntWalk.toNatUp, reduceCtorEq]
  refine st_call (c4) rfl (.inl rfl) ?_
  simp only [wx, wy, wz, stV, seval, IntWalk.iteOmega, IntWalk.toNatUp, reduceCtorEq]
  exact ret_d1 (by simp only [wx, wy, wz, stV, seval, IntWalk.iteOmega, IntWalk.toNatUp, reduceCtorEq])
/-! ### An advance that fits -/
def advN (e p c : Int) : Int := adA e p + withinN c (adB e p - adA e p + 1)
def advV (e p c : Int) : Int := if fitB e (advN e p c) p = true then advN e p c else e
theorem adv_in {e p : Int} (h : inD e p = true) (c : Int) : adA e p ≤ advN e p c ∧ advN e p c ≤ adB e p := by
  obtain ⟨h1, h2, h3, h4⟩ := inD_t h
  have o := ad_order e p h1 h3 h4
  have w := withinN_range c (adB e p - adA e p + 1) (by omega)
  unfold advN
  omega
theorem adv_ok {e p : Int} (h : inD e p = true) (c : Int) : fitB e (advV e p c) p = true ∧ fitP e (advV e p c) p ∧ 0 ≤ advV e p c ∧ advV e p c ≤ adB e p := by
  obtain ⟨h1, h2, h3, h4⟩ := inD_t h
  have o := ad_order e p h1 h3 h4
  have k := adv_in h c
  unfold advV
  by_cases hf : fitB e (advN e p c) p = true
  · rw [if_pos hf]
    exact ⟨hf, (fitB_t hf).2, by omega, by omega⟩
  · rw [if_neg hf]
    have hs := fit_same (e := e) (p := p) h1 h3
    exact ⟨fitB_d ⟨h1, by omega, h1, by omega, h3, h4⟩ hs, hs, h1, by omega⟩
theorem adB_le (e p : Int) (he : 0 ≤ e) (h0 : 0 ≤ p) (hp : p ≤ 1000000) : 1000 * adB e p ≤ 1001 * e + 1000 := by
  have h2 : e * p ≤ e * 1000000 := Int.mul_le_mul_of_nonneg_left hp he
  have : adB e p ≤ (1001 * e + 1000) / 1000 := by
    unfold adB
    rw [upQ_le (by decide), Int.mul_add]
    omega
  omega
theorem ela_0 {d p : Int} (h : inD d p = true) : elaE d p = 0 := if_pos h
theorem car_at {a b d p x y : Int} (h : okP (a, b) = true) (h2 : inD d p = true) (h3 : okP (x, y) = true) : carB a b d p x y = true ∧ carE a b d p x y = 0 := by
  unfold carB carE
  rw [h, h2, h3]; exact ⟨rfl, rfl⟩
theorem hld_t {a b t : Int} (h : okP (a, b) = true) (h1 : a ≤ t) (h2 : t ≤ b) : hldB a b t = true := by
  unfold hldB
  rw [h, decide_eq_true ⟨h1, h2⟩]; rfl
theorem ins_t {a b c d : Int} (h : okP (a, b) = true) (h2 : okP (c, d) = true) (h3 : c ≤ a) (h4 : b ≤ d) : insB a b c d = true := by
  unfold insB
  rw [h, h2, decide_eq_true ⟨h3, h4⟩]; rfl
theorem spA_t (x y : Int) : spA true x y = .agg [.int .i64 x, .int .i64 y] := rfl
def sf_adv15 : SFn := ⟨3, 34,
  .seq (.reg [⟨(some 6), .mv (.k (.c (.d (.int .i64 0)))), none⟩])
  (.seq (.reg [⟨(some 11), .mv (.t 0), none⟩,
    ⟨(some 12), .mv (.t 1), none⟩,
    ⟨(some 13), .call 15 [(.t 11), (.t 12)] none, none⟩,
    ⟨(some 10), .mv (.t 13), none⟩,
    ⟨(some 14), .extract (.t 10) 0, none⟩,
    ⟨(some 15), .extract (.t 10) 1, none⟩,
    ⟨(some 7), .alloc [(.d (.int .i64 0)), (.d (.int .i64 0))], none⟩,
    ⟨none, .store (.ag 2) (.t 7) (.t 14), none⟩,
    ⟨(some 8), .mv (.t 15), none⟩])
  (.seq (.reg [⟨(some 16), .fieldAddr 0 (.t 7), none⟩,
    ⟨(some 17), .load .sc (.t 16), none⟩,
    ⟨(some 18), .mv (.t 2), none⟩,
    ⟨(some 19), .fieldAddr 1 (.t 7), none⟩,
    ⟨(some 20), .load .sc (.t 19), none⟩,
    ⟨(some 21), .fieldAddr 0 (.t 7), none⟩,
    ⟨(some 22), .load .sc (.t 21), none⟩,
    ⟨(some 23), .bin .sub (.t 20) (.t 22), none⟩,
    ⟨(some 24), .bin .add (.t 23) (.k (.c (.d (.int .i64 1)))), none⟩,
    ⟨(some 25), .call 25 [(.t 18), (.t 24)] none, none⟩,
    ⟨(some 26), .bin .add (.t 17) (.t 25), none⟩,
    ⟨(some 9), .mv (.t 26), none⟩])
  (.seq (.seq (.reg [⟨(some 27), .mv (.t 0), none⟩,
    ⟨(some 28), .mv (.t 9), none⟩,
    ⟨(some 29), .mv (.t 1), none⟩,
    ⟨(some 30), .call 24 [(.t 27), (.t 28), (.t 29)] none, none⟩,
    ⟨(some 31), .un .not (.t 30), none⟩])
  (.cond (.t 31) (.seq (.reg [⟨(some 32), .mv (.t 0), none⟩,
     ⟨(some 6), .mv (.t 32), none⟩])
   (.ret))
   (.skip)))
  (.seq (.reg [⟨(some 33), .mv (.t 9), none⟩,
    ⟨(some 6), .mv (.t 33), none⟩])
  (.ret))))),
  [(6, none)]⟩
theorem cf_adv15 : compFn Try.prog { own := [], comp := [], frz := [], nils := [] } Try.f26 = some sf_adv15 := by kernel_rfl
theorem adv15_c (G : Glob) (e p c : Int) (h : inD e p = true) : Den Try.prog G 26 [.int .i64 e, .int .i64 p, .int .i64 c] (.w (.c (.d (.int .i64 (advV e p c))))) := by
  refine den_walk Try.func26 cf_adv15 rfl rfl ?_
  obtain ⟨h1, h2, h3, h4⟩ := inD_t h
  have o := ad_order e p h1 h3 h4
  have k := adv_in h c
  have c1 := radv_c G e p
  rw [h] at c1
  have c2 := within_c G c (adB e p - adA e p + 1) (by omega)
  have c3 := rfit_c G e (advN e p c) p
  have hN : adA e p + withinN c (adB e p - adA e p + 1) = advN e p c := rfl
  unfold advV
  generalize advN e p c = N at *
  generalize withinN c (adB e p - adA e p + 1) = W at *
  generalize adA e p = A at *
  generalize adB e p = B at *
  have w1 : 0 ≤ W := by omega
  cases hf : fitB e N p
  · rw [hf] at c3
    simp only [Bool.false_eq_true, if_false]
    simp only [sf_adv15, putAll, wx, wy, wz, stV, seval, IntWalk.iteOmega, IntWalk.toNatUp, reduceCtorEq]
    refine st_call (c1) rfl (.inl rfl) ?_
    simp only [spA, wx, wy, wz, stV, seval, IntWalk.iteOmega, IntWalk.toNatUp, reduceCtorEq]
    refine st_call (c2) rfl (.inl rfl) ?_
    simp only [hN, wx, wy, wz, stV, seval, IntWalk.iteOmega, IntWalk.toNatUp, reduceCtorEq]
    refine st_call (c3) rfl (.inl rfl) ?_
    simp only [wx, wy, wz, stV, seval, IntWalk.iteOmega, IntWalk.toNatUp, reduceCtorEq]
    exact ret_d1 (by simp only [wx, wy, wz, stV, seval, IntWalk.iteOmega, IntWalk.toNatUp, reduceCtorEq])
  · rw [hf] at c3
    rw [if_pos rfl]
    simp only [sf_adv15, putAll, wx, wy, wz, stV, seval, IntWalk.iteOmega, IntWalk.toNatUp, reduceCtorEq]
    refine st_call (c1) rfl (.inl rfl) ?_
    simp only [spA, wx, wy, wz, stV, seval, IntWalk.iteOmega, IntWalk.toNatUp, reduceCtorEq]
    refine st_call (c2) rfl (.inl rfl) ?_
    simp only [hN, wx, wy, wz, stV, seval, IntWalk.iteOmega, IntWalk.toNatUp, reduceCtorEq]
    refine st_call (c3) rfl (.inl rfl) ?_
    simp only [wx, wy, wz, stV, seval, IntWalk.iteOmega, IntWalk.toNatUp, reduceCtorEq]
    exact ret_d1 (by simp only [wx, wy, wz, stV, seval, IntWalk.iteOmega, IntWalk.toNatUp, reduceCtorEq])
end Go.Proofs.Ytjebhdadegfbdaa
set_option linter.unusedVariables false
set_option linter.unusedSimpArgs false
namespace Go.Proofs.Ytjebhdadegfbdaa
open Go.RowKit

def sf_roused15 : SFn := ⟨0, 51,
  .seq (.reg [⟨(some 0), .mv (.k (.c (.d (.bool false)))), none⟩])
  (.seq (.reg [⟨(some 8), .call 36 [(.k (.c (.d (.int .i64 5242880))))] none, none⟩,
    ⟨(some 7), .mv (.t 8), none⟩,
    ⟨(some 9), .extract (.t 7) 0, none⟩,
    ⟨(some 10), .extract (.t 7) 1, none⟩,
    ⟨(some 1), .mv (.t 9), none⟩,
    ⟨(some 2), .mv (.t 10), none⟩])
  (.seq (.reg [⟨(some 12), .build [(.d (.int .i64 0)), (.d (.int .i64 0))] [(0, 1, (.k (.c (.d (.int .i64 0))))), (1, 1, (.k (.c (.d (.int .i64 9437184)))))], none⟩,
    ⟨(some 13), .mv (.t 1), none⟩,
    ⟨(some 14), .call 37 [(.t 12), (.t 13)] none, none⟩,
    ⟨(some 11), .mv (.t 14), none⟩,
    ⟨(some 15), .extract (.t 11) 0, none⟩,
    ⟨(some 16), .extract (.t 11) 1, none⟩,
    ⟨(some 3), .alloc [(.d (.int .i64 0)), (.d (.int .i64 0))], none⟩,
    ⟨none, .store (.ag 2) (.t 3) (.t 15), none⟩,
    ⟨(some 4), .mv (.t 16), none⟩])
  (.seq (.reg [⟨(some 18), .load (.ag 2) (.t 3), none⟩,
    ⟨(some 19), .call 16 [(.t 18), (.k (.c (.d (.int .i64 1048576)))), (.k (.c (.d (.int .i64 1000))))] none, none⟩,
    ⟨(some 17), .mv (.t 19), none⟩,
    ⟨(some 20), .extract (.t 17) 0, none⟩,
    ⟨(some 21), .extract (.t 17) 1, none⟩,
    ⟨(some 5), .alloc [(.d (.int .i64 0)), (.d (.int .i64 0))], none⟩,
    ⟨none, .store (.ag 2) (.t 5) (.t 20), none⟩,
    ⟨(some 6), .mv (.t 21), none⟩])
  (.seq (.reg [⟨(some 22), .mv (.t 2), none⟩,
    ⟨(some 23), .bin .eql (.t 22) (.k (.c (.d (.int .i64 0)))), none⟩,
    ⟨(some 24), .mv (.t 23), none⟩,
    ⟨(some 25), .mv (.t 4), (some (24, true))⟩,
    ⟨(some 26), .bin .eql (.t 25) (.k (.c (.d (.int .i64 0)))), (some (24, true))⟩,
    ⟨(some 27), .pick (.t 24) (.t 26) (.k (.c (.d (.bool false)))), none⟩,
    ⟨(some 28), .mv (.t 27), none⟩,
    ⟨(some 29), .mv (.t 6), (some (28, true))⟩,
    ⟨(some 30), .bin .eql (.t 29) (.k (.c (.d (.int .i64 0)))), (some (28, true))⟩,
    ⟨(some 31), .pick (.t 28) (.t 30) (.k (.c (.d (.bool false)))), none⟩,
    ⟨(some 32), .mv (.t 31), none⟩,
    ⟨(some 33), .load (.ag 2) (.t 3), (some (32, true))⟩,
    ⟨(some 34), .build [(.d (.int .i64 0)), (.d (.int .i64 0))] [(0, 1, (.k (.c (.d (.int .i64 5242880))))), (1, 1, (.k (.c (.d (.int .i64 5242880)))))], (some (32, true))⟩,
    ⟨(some 35), .eqA false [0, 0] (.t 33) (.t 34), (some (32, true))⟩,
    ⟨(some 36), .pick (.t 32) (.t 35) (.k (.c (.d (.bool false)))), none⟩,
    ⟨(some 37), .mv (.t 36), none⟩,
    ⟨(some 38), .load (.ag 2) (.t 5), (some (37, true))⟩,
    ⟨(some 39), .call 41 [(.t 38), (.k (.c (.d (.int .i64 6291456))))] none, (some (37, true))⟩,
    ⟨(some 40), .pick (.t 37) (.t 39) (.k (.c (.d (.bool false)))), none⟩,
    ⟨(some 41), .mv (.t 40), none⟩,
    ⟨(some 42), .fieldAddr 0 (.t 5), (some (41, true))⟩,
    ⟨(some 43), .load .sc (.t 42), (some (41, true))⟩,
    ⟨(some 44), .bin .eql (.t 43) (.k (.c (.d (.int .i64 6291454)))), (some (41, true))⟩,
    ⟨(some 45), .pick (.t 41) (.t 44) (.k (.c (.d (.bool false)))), none⟩,
    ⟨(some 46), .mv (.t 45), none⟩,
    ⟨(some 47), .fieldAddr 1 (.t 5), (some (46, true))⟩,
    ⟨(some 48), .load .sc (.t 47), (some (46, true))⟩,
    ⟨(some 49), .bin .eql (.t 48) (.k (.c (.d (.int .i64 6291458)))), (some (46, true))⟩,
    ⟨(some 50), .pick (.t 46) (.t 49) (.k (.c (.d (.bool false)))), none⟩,
    ⟨(some 0), .mv (.t 50), none⟩])
  (.ret))))),
  [(0, none)]⟩
theorem cf_roused15 : compFn Try.prog { own := [], comp := [], frz := [], nils := [] } Try.f39 = some sf_roused15 := by kernel_rfl
theorem roused15_c (G : Glob) : Den Try.prog G 39 [] (.w (.c (.d (.bool true)))) := by
  refine den_walk Try.func39 cf_roused15 rfl rfl ?_
  have c1 := wir_c G 5242880 (by decide) (by decide)
  rw [show wirV 5242880 = 21474836480 by decide +kernel, show wirE 5242880 = 0 by decide +kernel] at c1
  have c2 := gonl_c G 0 9437184 21474836480 (by decide) (by decide)
  rw [show onlB (21474836480 / 4096) (upV 21474836480) 0 9437184 = true by decide +kernel, show onlE (21474836480 / 4096) (upV 21474836480) 0 9437184 = 0 by decide +kernel, show eraA 0 (upV 21474836480) * 4503599627370496 + 21474836480 / 4096 = 5242880 by decide +kernel, show eraA 0 (upV 21474836480) * 4503599627370496 + upV 21474836480 = 5242880 by decide +kernel, spA_t] at c2
  have c3 := dprj_c G 5242880 5242880 1048576 1000
  rw [show 5242880 + elA 1048576 1000 = 6291454 by decide +kernel, show 5242880 + elB 1048576 1000 = 6291458 by decide +kernel, show carB 5242880 5242880 1048576 1000 6291454 6291458 = true by decide +kernel, show carE 5242880 5242880 1048576 1000 6291454 6291458 = 0 by decide +kernel, spA_t] at c3
  have c4 := ihld_c G 6291454 6291458 6291456
  rw [show hldB 6291454 6291458 6291456 = true by decide +kernel] at c4
  simp only [sf_roused15, putAll, wx, wy, wz, stV, seval, IntWalk.iteOmega, IntWalk.toNatUp, reduceCtorEq]
  refine st_call (c1) rfl (.inl rfl) ?_
  simp only [wx, wy, wz, stV, seval, IntWalk.iteOmega, IntWalk.toNatUp, reduceCtorEq]
  refine st_call (c2) rfl (.inl rfl) ?_
  simp only [wx, wy, wz, stV, seval, IntWalk.iteOmega, IntWalk.toNatUp, reduceCtorEq]
  refine st_call (c3) rfl (.inl rfl) ?_
  simp only [wx, wy, wz, stV, seval, IntWalk.iteOmega, IntWalk.toNatUp, reduceCtorEq]
  refine st_call (c4) rfl (.inl rfl) ?_
  simp only [wx, wy, wz, stV, seval, IntWalk.iteOmega, IntWalk.toNatUp, reduceCtorEq]
  exact ret_d1 (by simp only [wx, wy, wz, stV, seval, IntWalk.iteOmega, IntWalk.toNatUp, reduceCtorEq])
/-! ### Readings one after the other -/
theorem getZ {l : List Int} {i : Nat} (h : i < l.length) : l[i]? = some (l.getD i 0) := by
  rw [List.getD_eq_getElem?_getD, List.getElem?_eq_getElem h]; rfl
def hoE (l : List Int) (i : Nat) : Int := withinN (l.getD i 0) 281474976710656
def hoC (e p : Int) (c : List Int) (i : Nat) : Int := if i < c.length then advN e p (c.getD i 0) else e
def hoD (e p : Int) (c : List Int) (i : Nat) : Int := if fitB e (hoC e p c i) p = true then hoC e p c i else e
def hoN (p : Int) (l c : List Int) (S T N : Int) : Nat → Int × Int × Int
  | 0 => (S, T, N)
  | i + 1 => ((hoN p l c S T N i).1 + elA (hoD (hoE l i) p c i) p, (hoN p l c S T N i).2.1 + elB (hoD (hoE l i) p c i) p, (hoN p l c S T N i).2.2 + hoE l i)
theorem hoE_in (l : List Int) (i : Nat) : 0 ≤ hoE l i ∧ hoE l i < 281474976710656 := withinN_range _ _ (by decide)
theorem hoC_in {e p : Int} (h : inD e p = true) (c : List Int) (i : Nat) : 0 ≤ hoC e p c i ∧ hoC e p c i ≤ 2 * e := by
  obtain ⟨h1, h2, h3, h4⟩ := inD_t h
  have o := ad_order e p h1 h3 h4
  have k := adv_in h (c.getD i 0)
  unfold hoC
  split <;> omega
theorem hoD_in {e p : Int} (h : inD e p = true) (c : List Int) (i : Nat) : 0 ≤ hoD e p c i ∧ hoD e p c i ≤ 2 * e ∧ fitP e (hoD e p c i) p := by
  obtain ⟨h1, h2, h3, h4⟩ := inD_t h
  have k := hoC_in h c i
  unfold hoD
  split
  · rename_i hf
    exact ⟨k.1, k.2, (fitB_t hf).2⟩
  · exact ⟨h1, by omega, fit_same h1 h3⟩
structure HoI (p : Int) (x : Int × Int × Int) (i : Nat) : Prop where
  lo : -1000 ≤ x.1
  a : x.1 ≤ x.2.2
  b : x.2.2 ≤ x.2.1
  hi : x.2.1 ≤ 1500 + (i : Int) * 1125899906842624
theorem ho_ok {p : Int} (h0 : 0 ≤ p) (hp : p ≤ 1000000) (l c : List Int) {S T N : Int} (h : HoI p (S, T, N) 0) : ∀ i, HoI p (hoN p l c S T N i) i
  | 0 => h
  | i + 1 => by
    obtain ⟨k1, k2, k3, k4⟩ := ho_ok h0 hp l c h i
    have e := hoE_in l i
    have hd : inD (hoE l i) p = true := inD_d ⟨by omega, by omega, h0, hp⟩
    obtain ⟨d1, d2, d3⟩ := hoD_in hd c i
    have f := el_fit hp h0 d3
    have o := el_order (hoD (hoE l i) p c i) p d1 h0 hp
    have m := elB_le (hoD (hoE l i) p c i) p d1 h0 hp
    refine ⟨?_, ?_, ?_, ?_⟩ <;> simp only [hoN] <;> omega
def hoSt (p : Int) (l c : List Int) (S T N : Int) (i : Nat) : St := ⟨ofL [(3, .w (.c (.d (.int .i64 p)))), (4, .w (.c (.d (.sl (l.map zD))))), (5, .w (.c (.d (.sl (c.map zD))))), (13, .w (.c (.ptr 1 1 0 0))), (14, .w (.c (.d (.int .i64 (hoN p l c S T N i).2.2)))), (15, .w (.c (.d (.int .i64 (i : Int)))))],
  hL [(1, .box [.d (.int .i64 (hoN p l c S T N i).1), .d (.int .i64 (hoN p l c S T N i).2.1)])], uL [1]⟩
def lp_khol15_0 : SCode :=
  .seq (.seq (.reg [⟨(some 51), .mv (.t 15), none⟩,
    ⟨(some 52), .mv (.t 4), none⟩,
    ⟨(some 53), .len (.t 52), none⟩,
    ⟨(some 54), .bin .lss (.t 51) (.t 53), none⟩])
  (.cond (.t 54) (.skip)
   (.exit 0)))
  (.seq (.block 1 (.seq (.reg [⟨(some 57), .mv (.t 4), none⟩,
     ⟨(some 58), .mv (.t 15), none⟩,
     ⟨(some 59), .idxSl 1 (.t 57) (.t 58), none⟩,
     ⟨(some 60), .load .sc (.t 59), none⟩,
     ⟨(some 61), .call 25 [(.t 60), (.k (.c (.d (.int .i64 281474976710656))))] none, none⟩,
     ⟨(some 16), .mv (.t 61), none⟩])
   (.seq (.reg [⟨(some 63), .mv (.t 16), none⟩,
     ⟨(some 64), .mv (.t 3), none⟩,
     ⟨(some 65), .call 14 [(.t 63), (.t 64)] none, none⟩,
     ⟨(some 62), .mv (.t 65), none⟩,
     ⟨(some 66), .extract (.t 62) 0, none⟩,
     ⟨(some 67), .extract (.t 62) 1, none⟩,
     ⟨(some 17), .alloc [(.d (.int .i64 0)), (.d (.int .i64 0))], none⟩,
     ⟨none, .store (.ag 2) (.t 17) (.t 66), none⟩,
     ⟨(some 18), .mv (.t 67), none⟩])
   (.seq (.seq (.reg [⟨(some 68), .mv (.t 18), none⟩,
     ⟨(some 69), .bin .neq (.t 68) (.k (.c (.d (.int .i64 0)))), none⟩,
     ⟨(some 70), .mv (.t 69), none⟩,
     ⟨(some 71), .fieldAddr 0 (.t 17), (some (70, false))⟩,
     ⟨(some 72), .load .sc (.t 71), (some (70, false))⟩,
     ⟨(some 73), .fieldAddr 1 (.t 17), (some (70, false))⟩,
     ⟨(some 74), .load .sc (.t 73), (some (70, false))⟩,
     ⟨(some 75), .bin .gtr (.t 72) (.t 74), (some (70, false))⟩,
     ⟨(some 76), .pick (.t 70) (.k (.c (.d (.bool true)))) (.t 75), none⟩])
   (.cond (.t 76) (.seq (.reg [⟨(some 12), .mv (.k (.c (.d (.bool false)))), none⟩])
    (.ret))
    (.skip)))
   (.seq (.reg [⟨(some 77), .mv (.t 16), none⟩,
     ⟨(some 19), .mv (.t 77), none⟩])
   (.seq (.seq (.reg [⟨(some 78), .mv (.t 15), none⟩,
     ⟨(some 79), .mv (.t 5), none⟩,
     ⟨(some 80), .len (.t 79), none⟩,
     ⟨(some 81), .bin .lss (.t 78) (.t 80), none⟩])
   (.cond (.t 81) (.reg [⟨(some 82), .fieldAddr 0 (.t 17), none⟩,
      ⟨(some 83), .load .sc (.t 82), none⟩,
      ⟨(some 84), .mv (.t 5), none⟩,
      ⟨(some 85), .mv (.t 15), none⟩,
      ⟨(some 86), .idxSl 1 (.t 84) (.t 85), none⟩,
      ⟨(some 87), .load .sc (.t 86), none⟩,
      ⟨(some 88), .fieldAddr 1 (.t 17), none⟩,
      ⟨(some 89), .load .sc (.t 88), none⟩,
      ⟨(some 90), .fieldAddr 0 (.t 17), none⟩,
      ⟨(some 91), .load .sc (.t 90), none⟩,
      ⟨(some 92), .bin .sub (.t 89) (.t 91), none⟩,
      ⟨(some 93), .bin .add (.t 92) (.k (.c (.d (.int .i64 1)))), none⟩,
      ⟨(some 94), .call 25 [(.t 87), (.t 93)] none, none⟩,
      ⟨(some 95), .bin .add (.t 83) (.t 94), none⟩,
      ⟨(some 19), .mv (.t 95), none⟩])
    (.skip)))
   (.seq (.seq (.reg [⟨(some 96), .mv (.t 16), none⟩,
     ⟨(some 97), .mv (.t 19), none⟩,
     ⟨(some 98), .mv (.t 3), none⟩,
     ⟨(some 99), .call 23 [(.t 96), (.t 97), (.t 98)] none, none⟩,
     ⟨(some 100), .un .not (.t 99), none⟩])
   (.cond (.t 100) (.reg [⟨(some 101), .mv (.t 16), none⟩,
      ⟨(some 19), .mv (.t 101), none⟩])
    (.skip)))
   (.seq (.reg [⟨(some 103), .load (.ag 2) (.t 13), none⟩,
     ⟨(some 104), .mv (.t 19), none⟩,
     ⟨(some 105), .mv (.t 3), none⟩,
     ⟨(some 106), .call 16 [(.t 103), (.t 104), (.t 105)] none, none⟩,
     ⟨(some 102), .mv (.t 106), none⟩,
     ⟨(some 107), .extract (.t 102) 0, none⟩,
     ⟨(some 108), .extract (.t 102) 1, none⟩,
     ⟨(some 20), .alloc [(.d (.int .i64 0)), (.d (.int .i64 0))], none⟩,
     ⟨none, .store (.ag 2) (.t 20) (.t 107), none⟩,
     ⟨(some 21), .mv (.t 108), none⟩])
   (.seq (.seq (.reg [⟨(some 109), .mv (.t 21), none⟩,
     ⟨(some 110), .bin .neq (.t 109) (.k (.c (.d (.int .i64 0)))), none⟩,
     ⟨(some 111), .mv (.t 110), none⟩,
     ⟨(some 112), .load (.ag 2) (.t 20), (some (111, false))⟩,
     ⟨(some 113), .call 42 [(.t 112)] none, (some (111, false))⟩,
     ⟨(some 114), .load (.ag 2) (.t 13), (some (111, false))⟩,
     ⟨(some 115), .call 42 [(.t 114)] none, (some (111, false))⟩,
     ⟨(some 116), .bin .lss (.t 113) (.t 115), (some (111, false))⟩,
     ⟨(some 117), .pick (.t 111) (.k (.c (.d (.bool true)))) (.t 116), none⟩,
     ⟨(some 118), .mv (.t 117), none⟩,
     ⟨(some 119), .fieldAddr 0 (.t 20), (some (118, false))⟩,
     ⟨(some 120), .load .sc (.t 119), (some (118, false))⟩,
     ⟨(some 121), .fieldAddr 0 (.t 13), (some (118, false))⟩,
     ⟨(some 122), .load .sc (.t 121), (some (118, false))⟩,
     ⟨(some 123), .bin .lss (.t 120) (.t 122), (some (118, false))⟩,
     ⟨(some 124), .pick (.t 118) (.k (.c (.d (.bool true)))) (.t 123), none⟩])
   (.cond (.t 124) (.seq (.reg [⟨(some 12), .mv (.k (.c (.d (.bool false)))), none⟩])
    (.ret))
    (.skip)))
   (.seq (.reg [⟨(some 125), .load (.ag 2) (.t 20), none⟩,
     ⟨(some 126), .mv (.t 14), none⟩,
     ⟨(some 127), .mv (.t 16), none⟩,
     ⟨(some 128), .bin .add (.t 126) (.t 127), none⟩,
     ⟨none, .store (.ag 2) (.t 13) (.t 125), none⟩,
     ⟨(some 14), .mv (.t 128), none⟩])
   (.seq (.reg [⟨(some 129), .load (.ag 2) (.t 13), none⟩,
     ⟨(some 130), .mv (.t 14), none⟩,
     ⟨(some 131), .call 28 [(.t 129), (.t 130)] none, none⟩,
     ⟨(some 132), .un .not (.t 131), none⟩])
   (.cond (.t 132) (.seq (.reg [⟨(some 12), .mv (.k (.c (.d (.bool false)))), none⟩])
    (.ret))
    (.skip)))))))))))))
  (.reg [⟨(some 55), .mv (.t 15), none⟩,
    ⟨(some 56), .bin .add (.t 55) (.k (.c (.d (.int .i64 1)))), none⟩,
    ⟨(some 15), .mv (.t 56), none⟩]))
def sf_khol15 : SFn := ⟨6, 165,
  .seq (.reg [⟨(some 12), .mv (.k (.c (.d (.bool false)))), none⟩])
  (.seq (.seq (.reg [⟨(some 26), .mv (.t 4), none⟩,
    ⟨(some 27), .len (.t 26), none⟩,
    ⟨(some 28), .bin .gtr (.t 27) (.k (.c (.d (.int .i64 12)))), none⟩,
    ⟨(some 29), .mv (.t 28), none⟩,
    ⟨(some 30), .mv (.t 5), (some (29, false))⟩,
    ⟨(some 31), .len (.t 30), (some (29, false))⟩,
    ⟨(some 32), .bin .gtr (.t 31) (.k (.c (.d (.int .i64 12)))), (some (29, false))⟩,
    ⟨(some 33), .pick (.t 29) (.k (.c (.d (.bool true)))) (.t 32), none⟩])
  (.cond (.t 33) (.seq (.reg [⟨(some 34), .call 39 [] none, none⟩,
     ⟨(some 12), .mv (.t 34), none⟩])
   (.ret))
   (.skip)))
  (.seq (.reg [⟨(some 35), .mv (.t 0), none⟩,
    ⟨(some 36), .mv (.t 1), none⟩,
    ⟨(some 37), .call 27 [(.t 35), (.t 36)] none, none⟩,
    ⟨(some 13), .alloc [(.d (.int .i64 0)), (.d (.int .i64 0))], none⟩,
    ⟨none, .store (.ag 2) (.t 13) (.t 37), none⟩])
  (.seq (.reg [⟨(some 38), .fieldAddr 0 (.t 13), none⟩,
    ⟨(some 39), .load .sc (.t 38), none⟩,
    ⟨(some 40), .mv (.t 2), none⟩,
    ⟨(some 41), .fieldAddr 1 (.t 13), none⟩,
    ⟨(some 42), .load .sc (.t 41), none⟩,
    ⟨(some 43), .fieldAddr 0 (.t 13), none⟩,
    ⟨(some 44), .load .sc (.t 43), none⟩,
    ⟨(some 45), .bin .sub (.t 42) (.t 44), none⟩,
    ⟨(some 46), .bin .add (.t 45) (.k (.c (.d (.int .i64 1)))), none⟩,
    ⟨(some 47), .call 25 [(.t 40), (.t 46)] none, none⟩,
    ⟨(some 48), .bin .add (.t 39) (.t 47), none⟩,
    ⟨(some 14), .mv (.t 48), none⟩])
  (.seq (.reg [⟨(some 49), .mv (.t 3), none⟩,
    ⟨(some 50), .call 25 [(.t 49), (.k (.c (.d (.int .i64 1000001))))] none, none⟩,
    ⟨(some 3), .mv (.t 50), none⟩])
  (.seq (.seq (.reg [⟨(some 15), .mv (.k (.c (.d (.int .i64 0)))), none⟩])
  (.block 0 (.loop lp_khol15_0)))
  (.seq (.reg [⟨(some 134), .mv (.t 14), none⟩,
    ⟨(some 135), .call 36 [(.t 134)] none, none⟩,
    ⟨(some 133), .mv (.t 135), none⟩,
    ⟨(some 136), .extract (.t 133) 0, none⟩,
    ⟨(some 137), .extract (.t 133) 1, none⟩,
    ⟨(some 22), .mv (.t 136), none⟩,
    ⟨(some 23), .mv (.t 137), none⟩])
  (.seq (.reg [⟨(some 139), .load (.ag 2) (.t 13), none⟩,
    ⟨(some 140), .mv (.t 22), none⟩,
    ⟨(some 141), .call 37 [(.t 139), (.t 140)] none, none⟩,
    ⟨(some 138), .mv (.t 141), none⟩,
    ⟨(some 142), .extract (.t 138) 0, none⟩,
    ⟨(some 143), .extract (.t 138) 1, none⟩,
    ⟨(some 24), .alloc [(.d (.int .i64 0)), (.d (.int .i64 0))], none⟩,
    ⟨none, .store (.ag 2) (.t 24) (.t 142), none⟩,
    ⟨(some 25), .mv (.t 143), none⟩])
  (.seq (.reg [⟨(some 144), .call 39 [] none, none⟩,
    ⟨(some 145), .mv (.t 144), none⟩,
    ⟨(some 146), .mv (.t 23), (some (145, true))⟩,
    ⟨(some 147), .bin .eql (.t 146) (.k (.c (.d (.int .i64 0)))), (some (145, true))⟩,
    ⟨(some 148), .pick (.t 145) (.t 147) (.k (.c (.d (.bool false)))), none⟩,
    ⟨(some 149), .mv (.t 148), none⟩,
    ⟨(some 150), .load (.ag 2) (.t 13), (some (149, true))⟩,
    ⟨(some 151), .call 42 [(.t 150)] none, (some (149, true))⟩,
    ⟨(some 152), .bin .geq (.t 151) (.k (.c (.d (.int .i64 4503599627370494)))), (some (149, true))⟩,
    ⟨(some 153), .mv (.t 152), (some (149, true))⟩,
    ⟨(some 154), .mv (.t 25), (some (153, false))⟩,
    ⟨(some 155), .bin .eql (.t 154) (.k (.c (.d (.int .i64 0)))), (some (153, false))⟩,
    ⟨(some 156), .mv (.t 155), (some (153, false))⟩,
    ⟨(some 157), .load (.ag 2) (.t 24), (some (156, true))⟩,
    ⟨(some 158), .mv (.t 14), (some (156, true))⟩,
    ⟨(some 159), .mv (.t 14), (some (156, true))⟩,
    ⟨(some 160), .build [(.d (.int .i64 0)), (.d (.int .i64 0))] [(0, 1, (.t 158)), (1, 1, (.t 159))], (some (156, true))⟩,
    ⟨(some 161), .eqA false [0, 0] (.t 157) (.t 160), (some (156, true))⟩,
    ⟨(some 162), .pick (.t 156) (.t 161) (.k (.c (.d (.bool false)))), (some (153, false))⟩,
    ⟨(some 163), .pick (.t 153) (.k (.c (.d (.bool true)))) (.t 162), (some (149, true))⟩,
    ⟨(some 164), .pick (.t 149) (.t 163) (.k (.c (.d (.bool false)))), none⟩,
    ⟨(some 12), .mv (.t 164), none⟩])
  (.ret))))))))),
  [(12, none)]⟩
theorem cf_khol15 : compFn Try.prog { own := [], comp := [], frz := [], nils := [] } Try.f11 = some sf_khol15 := by kernel_rfl
set_option maxHeartbeats 1600000 in
theorem khol15_c (G : Glob) (a : Int) (ha1 : -9223372036854775808 ≤ a) (ha2 : a ≤ 9223372036854775807) (b : Int) (hb1 : -9223372036854775808 ≤ b) (hb2 : b ≤ 9223372036854775807) (t : Int) (ht1 : -9223372036854775808 ≤ t) (ht2 : t ≤ 9223372036854775807) (ppb : Int) (hppb1 : -9223372036854775808 ≤ ppb) (hppb2 : ppb ≤ 9223372036854775807) (steps : List Int) (hsteps1 : steps.length ≤ maxLen) (hsteps2 : ∀ n ∈ steps, fitI n) (choices : List Int) (hchoices1 : choices.length ≤ maxLen) (hchoices2 : ∀ n ∈ choices, fitI n)  : Den Try.prog G 11 [.int .i64 a, .int .i64 b, .int .i64 t, .int .i64 ppb, .sl (steps.map zD), .sl (choices.map zD)] (.w (.c (.d (.bool true)))) := by
  refine den_walk Try.func11 cf_khol15 rfl rfl ?_
  have hm : maxLen ≤ 9223372036854775807 := by decide
  by_cases h12 : steps.length > 12
  · have h12' : ((steps.length : Int) > 12) = True := eq_true (by omega)
    simp only [sf_khol15, putAll, wx, wy, wz, stV, seval, IntWalk.iteOmega, IntWalk.toNatUp, reduceCtorEq, h12']
    refine st_call (roused15_c G) rfl (.inl rfl) ?_
    simp only [wx, wy, wz, stV, seval, IntWalk.iteOmega, IntWalk.toNatUp, reduceCtorEq]
    exact ret_d1 (by simp only [wx, wy, wz, stV, seval, IntWalk.iteOmega, IntWalk.toNatUp, reduceCtorEq])
  have l12 : ((steps.length : Int) > 12) = False := eq_false (by omega)
  by_cases h13 : choices.length > 12
  · have h13' : ((choices.length : Int) > 12) = True := eq_true (by omega)
    simp only [sf_khol15, putAll, wx, wy, wz, stV, seval, IntWalk.iteOmega, IntWalk.toNatUp, reduceCtorEq, l12, h13']
    refine st_call (roused15_c G) rfl (.inl rfl) ?_
    simp only [wx, wy, wz, stV, seval, IntWalk.iteOmega, IntWalk.toNatUp, reduceCtorEq]
    exact ret_d1 (by simp only [wx, wy, wz, stV, seval, IntWalk.iteOmega, IntWalk.toNatUp, reduceCtorEq])
  have l13 : ((choices.length : Int) > 12) = False := eq_false (by omega)
  have r1 := withinN_range ppb 1000001 (by decide)
  have r3 := withinN_range a 2000 (by decide)
  have r4 := withinN_range b 500 (by decide)
  have k1 := within_c G ppb 1000001 (by decide)
  have k3 := wspan_c G a b
  obtain ⟨S, hS⟩ : ∃ S, withinN a 2000 - 1000 = S := ⟨_, rfl⟩
  rw [hS] at k3
  obtain ⟨T, hT⟩ : ∃ T, S + withinN b 500 = T := ⟨_, rfl⟩
  rw [hT] at k3
  have r5 := withinN_range t (T - S + 1) (by omega)
  have k5 := within_c G t (T - S + 1) (by omega)
  generalize withinN ppb 1000001 = p at *
  generalize withinN t (T - S + 1) = U at *
  have inv := ho_ok (p := p) (by omega) (by omega) steps choices (S := S) (T := T) (N := S + U) ⟨by simp only; omega, by simp only; omega, by simp only; omega, by simp only; omega⟩
  generalize hN0 : S + U = N0 at *
  simp only [sf_khol15, putAll, wx, wy, wz, stV, seval, IntWalk.iteOmega, IntWalk.toNatUp, reduceCtorEq, l12, l13]
  refine st_call (k3) rfl (.inl rfl) ?_
  simp only [wx, wy, wz, stV, seval, IntWalk.iteOmega, IntWalk.toNatUp, reduceCtorEq]
  refine st_call (k5) rfl (.inl rfl) ?_
  simp only [hN0, wx, wy, wz, stV, seval, IntWalk.iteOmega, IntWalk.toNatUp, reduceCtorEq]
  refine st_call (k1) rfl (.inl rfl) ?_
  simp only [wx, wy, wz, stV, seval, IntWalk.iteOmega, IntWalk.toNatUp, reduceCtorEq]
  refine loop_st (hoSt p steps choices S T N0) (fun i => steps.length - i) (fun i => i ≤ steps.length) 0 (Nat.zero_le _) ?_ ?_
  · have e0 : hoN p steps choices S T N0 0 = (S, T, N0) := rfl
    refine ent_l (fun _ => 104) ?_ ?_ rfl rfl <;> simp only [wx, wex, wez, stV, seval, IntWalk.iteOmega, IntWalk.toNatUp, reduceCtorEq, e0]
  · intro i hi
    obtain ⟨q1, q2, q3, q4⟩ := inv i
    obtain ⟨x, hx⟩ : ∃ x, (hoN p steps choices S T N0 i).1 = x := ⟨_, rfl⟩
    obtain ⟨y, hy⟩ : ∃ y, (hoN p steps choices S T N0 i).2.1 = y := ⟨_, rfl⟩
    obtain ⟨z, hz⟩ : ∃ z, (hoN p steps choices S T N0 i).2.2 = z := ⟨_, rfl⟩
    rw [hx] at q1 q2
    rw [hy] at q3 q4
    rw [hz] at q2 q3
    have y60 : y ≤ 13510798882113000 := by omega
    by_cases hlt : i < steps.length
    · have gs := getZ hlt
      have c1 := within_c G (steps.getD i 0) 281474976710656 (by decide)
      rw [show withinN (steps.getD i 0) 281474976710656 = hoE steps i from rfl] at c1
      have e := hoE_in steps i
      have n1 : (hoN p steps choices S T N0 (i + 1)).1 = x + elA (hoD (hoE steps i) p choices i) p := by rw [← hx]; rfl
      have n2 : (hoN p steps choices S T N0 (i + 1)).2.1 = y + elB (hoD (hoE steps i) p choices i) p := by rw [← hy]; rfl
      have n3 : (hoN p steps choices S T N0 (i + 1)).2.2 = z + hoE steps i := by rw [← hz]; rfl
      generalize hoE steps i = E at *
      have hE : inD E p = true := inD_d ⟨by omega, by omega, by omega, by omega⟩
      obtain ⟨d1, d2, d3⟩ := hoD_in hE choices i
      have f := el_fit (p := p) (by omega) (by omega) d3
      have o := el_order (hoD E p choices i) p d1 (by omega) (by omega)
      have m := elB_le (hoD E p choices i) p d1 (by omega) (by omega)
      have ao := ad_order E p (by omega) (by omega) (by omega)
      have hD : inD (hoD E p choices i) p = true := inD_d ⟨by omega, by omega, by omega, by omega⟩
      have c2 := dadv_c G E p
      rw [hE, ela_0 hE, spA_t] at c2
      have c3 := dfit_c G E (hoC E p choices i) p
      have c4 := dprj_c G x y (hoD E p choices i) p
      obtain ⟨e1, e2⟩ := car_at (a := x) (b := y) (x := x + elA (hoD E p choices i) p) (y := y + elB (hoD E p choices i) p) (okP_d ⟨by omega, by omega, by omega⟩) hD (okP_d ⟨by omega, by omega, by omega⟩)
      rw [e1, e2, spA_t] at c4
      have c5 := iwid_c G (x + elA (hoD E p choices i) p) (y + elB (hoD E p choices i) p)
      rw [show widV (x + elA (hoD E p choices i) p) (y + elB (hoD E p choices i) p) = y + elB (hoD E p choices i) p - (x + elA (hoD E p choices i) p) from if_pos (okP_d ⟨by omega, by omega, by omega⟩)] at c5
      have c6 := iwid_c G x y
      rw [show widV x y = y - x from if_pos (okP_d ⟨by omega, by omega, by omega⟩)] at c6
      have c7 := rhld_c G (x + elA (hoD E p choices i) p) (y + elB (hoD E p choices i) p) (z + E)
      rw [hld_t (okP_d ⟨by omega, by omega, by omega⟩) (by omega) (by omega)] at c7
      have hdd : hoD E p choices i = if fitB E (hoC E p choices i) p = true then hoC E p choices i else E := rfl
      clear e1 e2 d3
      generalize elA (hoD E p choices i) p = A at *
      generalize elB (hoD E p choices i) p = B at *
      generalize hX : x + A = X at *
      generalize hY : y + B = Y at *
      generalize hZ : z + E = Z at *
      have g1 : (adA E p > adB E p) = False := eq_false (by omega)
      have wd : Y - X < y - x ↔ False := ⟨fun k => by omega, fun k => k.elim⟩
      have hw1 : y - x ≤ Y - X := by omega
      have hw2 : x ≤ X := by omega
      by_cases hc : i < choices.length
      · have gc := getZ hc
        have k9 := within_c G (choices.getD i 0) (adB E p - adA E p + 1) (by omega)
        have kw := withinN_range (choices.getD i 0) (adB E p - adA E p + 1) (by omega)
        have hC : adA E p + withinN (choices.getD i 0) (adB E p - adA E p + 1) = hoC E p choices i := by unfold hoC; rw [if_pos hc]; rfl
        have hCi := hoC_in hE choices i
        generalize withinN (choices.getD i 0) (adB E p - adA E p + 1) = W at *
        generalize choices.getD i 0 = V at *
        generalize steps.getD i 0 = V' at *
        generalize hoC E p choices i = C at *
        generalize hoD E p choices i = D at *
        generalize adA E p = A' at *
        generalize adB E p = B' at *
        cases hf : fitB E C p
        · rw [hf] at c3 hdd
          simp only [Bool.false_eq_true, if_false] at hdd
          rw [hdd] at c4
          simp only [lp_khol15_0, hoSt, hx, hy, hz, wx, wy, wz, stV, seval, IntWalk.iteOmega, IntWalk.toNatUp, reduceCtorEq, get_map, gs, zD]
          refine st_call (c1) rfl (.inl rfl) ?_
          simp only [wx, wy, wz, stV, seval, IntWalk.iteOmega, IntWalk.toNatUp, reduceCtorEq]
          refine st_call (c2) rfl (.inl rfl) ?_
          simp only [g1, get_map, gc, zD, wx, wy, wz, stV, seval, IntWalk.iteOmega, IntWalk.toNatUp, reduceCtorEq]
          refine st_call (k9) rfl (.inl rfl) ?_
          simp only [hC, wx, wy, wz, stV, seval, IntWalk.iteOmega, IntWalk.toNatUp, reduceCtorEq]
          refine st_call (c3) rfl (.inl rfl) ?_
          simp only [wx, wy, wz, stV, seval, IntWalk.iteOmega, IntWalk.toNatUp, reduceCtorEq]
          refine st_call (c4) rfl (.inl rfl) ?_
          simp only [wx, wy, wz, stV, seval, IntWalk.iteOmega, IntWalk.toNatUp, reduceCtorEq]
          refine st_call (c5) rfl (.inl rfl) ?_
          simp only [wx, wy, wz, stV, seval, IntWalk.iteOmega, IntWalk.toNatUp, reduceCtorEq]
          refine st_call (c6) rfl (.inl rfl) ?_
          simp only [hZ, wx, wy, wz, stV, seval, IntWalk.iteOmega, IntWalk.toNatUp, reduceCtorEq]
          refine st_call (c7) rfl (.inl rfl) ?_
          simp only [wx, wy, wz, stV, seval, IntWalk.iteOmega, IntWalk.toNatUp, reduceCtorEq]
          refine lop_next (i + 1) (by omega) (by omega) (ent_l (fun i => i) ?_ ?_ rfl rfl) <;> simp only [wx, wex, wez, stV, seval, IntWalk.iteOmega, IntWalk.toNatUp, reduceCtorEq, n1, n2, n3]
        · rw [hf, if_pos rfl] at hdd
          rw [hf] at c3
          rw [hdd] at c4
          simp only [lp_khol15_0, hoSt, hx, hy, hz, wx, wy, wz, stV, seval, IntWalk.iteOmega, IntWalk.toNatUp, reduceCtorEq, get_map, gs, zD]
          refine st_call (c1) rfl (.inl rfl) ?_
          simp only [wx, wy, wz, stV, seval, IntWalk.iteOmega, IntWalk.toNatUp, reduceCtorEq]
          refine st_call (c2) rfl (.inl rfl) ?_
          simp only [g1, get_map, gc, zD, wx, wy, wz, stV, seval, IntWalk.iteOmega, IntWalk.toNatUp, reduceCtorEq]
          refine st_call (k9) rfl (.inl rfl) ?_
          simp only [hC, wx, wy, wz, stV, seval, IntWalk.iteOmega, IntWalk.toNatUp, reduceCtorEq]
          refine st_call (c3) rfl (.inl rfl) ?_
          simp only [wx, wy, wz, stV, seval, IntWalk.iteOmega, IntWalk.toNatUp, reduceCtorEq]
          refine st_call (c4) rfl (.inl rfl) ?_
          simp only [wx, wy, wz, stV, seval, IntWalk.iteOmega, IntWalk.toNatUp, reduceCtorEq]
          refine st_call (c5) rfl (.inl rfl) ?_
          simp only [wx, wy, wz, stV, seval, IntWalk.iteOmega, IntWalk.toNatUp, reduceCtorEq]
          refine st_call (c6) rfl (.inl rfl) ?_
          simp only [hZ, wx, wy, wz, stV, seval, IntWalk.iteOmega, IntWalk.toNatUp, reduceCtorEq]
          refine st_call (c7) rfl (.inl rfl) ?_
          simp only [wx, wy, wz, stV, seval, IntWalk.iteOmega, IntWalk.toNatUp, reduceCtorEq]
          refine lop_next (i + 1) (by omega) (by omega) (ent_l (fun i => i) ?_ ?_ rfl rfl) <;> simp only [wx, wex, wez, stV, seval, IntWalk.iteOmega, IntWalk.toNatUp, reduceCtorEq, n1, n2, n3]
      · have hC : hoC E p choices i = E := by unfold hoC; rw [if_neg hc]
        rw [hC] at c3 hdd
        have hs : fitB E E p = true := fitB_d ⟨by omega, by omega, by omega, by omega, by omega, by omega⟩ (fit_same (by omega) (by omega))
        rw [hs, if_pos rfl] at hdd
        rw [hs] at c3
        rw [hdd] at c4
        generalize steps.getD i 0 = V' at *
        generalize hoD E p choices i = D at *
        generalize adA E p = A' at *
        generalize adB E p = B' at *
        simp only [lp_khol15_0, hoSt, hx, hy, hz, wx, wy, wz, stV, seval, IntWalk.iteOmega, IntWalk.toNatUp, reduceCtorEq, get_map, gs, zD]
        refine st_call (c1) rfl (.inl rfl) ?_
        simp only [wx, wy, wz, stV, seval, IntWalk.iteOmega, IntWalk.toNatUp, reduceCtorEq]
        refine st_call (c2) rfl (.inl rfl) ?_
        simp only [g1, wx, wy, wz, stV, seval, IntWalk.iteOmega, IntWalk.toNatUp, reduceCtorEq]
        refine st_call (c3) rfl (.inl rfl) ?_
        simp only [wx, wy, wz, stV, seval, IntWalk.iteOmega, IntWalk.toNatUp, reduceCtorEq]
        refine st_call (c4) rfl (.inl rfl) ?_
        simp only [wx, wy, wz, stV, seval, IntWalk.iteOmega, IntWalk.toNatUp, reduceCtorEq]
        refine st_call (c5) rfl (.inl rfl) ?_
        simp only [wx, wy, wz, stV, seval, IntWalk.iteOmega, IntWalk.toNatUp, reduceCtorEq]
        refine st_call (c6) rfl (.inl rfl) ?_
        simp only [hZ, wx, wy, wz, stV, seval, IntWalk.iteOmega, IntWalk.toNatUp, reduceCtorEq]
        refine st_call (c7) rfl (.inl rfl) ?_
        simp only [wx, wy, wz, stV, seval, IntWalk.iteOmega, IntWalk.toNatUp, reduceCtorEq]
        refine lop_next (i + 1) (by omega) (by omega) (ent_l (fun i => i) ?_ ?_ rfl rfl) <;> simp only [wx, wex, wez, stV, seval, IntWalk.iteOmega, IntWalk.toNatUp, reduceCtorEq, n1, n2, n3]
    · have c1 := wir_c G z (by omega) (by omega)
      obtain ⟨w1, w2⟩ := wir_at (t := z) (by omega)
      rw [w1, w2] at c1
      have c2 := gonl_c G x y (z % 4503599627370496 * 4096) (by omega) (by omega)
      rw [wir_dn, wir_up] at c2
      have c3 := iwid_c G x y
      rw [show widV x y = y - x from if_pos (okP_d ⟨by omega, by omega, by omega⟩)] at c3
      by_cases hw : y - x < 4503599627370494
      · obtain ⟨o1, o2, o3⟩ := onl_at (t := z) (lo := x) (hi := y) q2 q3 (by omega) (by omega) (by omega)
        have o4 : onlB (z % 4503599627370496) (z % 4503599627370496) x y = true := by unfold onlB; rw [o1, o2]; rfl
        have o5 : onlE (z % 4503599627370496) (z % 4503599627370496) x y = 0 := by unfold onlE; rw [o1, o2]; rfl
        rw [o3, o4, o5, spA_t] at c2
        have g1 : (y - x ≥ 4503599627370494) = False := eq_false (by omega)
        generalize z % 4503599627370496 * 4096 = W at *
        simp only [lp_khol15_0, hoSt, hx, hy, hz, wx, wy, wz, stV, seval, IntWalk.iteOmega, IntWalk.toNatUp, reduceCtorEq]
        refine st_call (c1) rfl (.inl rfl) ?_
        simp only [wx, wy, wz, stV, seval, IntWalk.iteOmega, IntWalk.toNatUp, reduceCtorEq]
        refine st_call (c2) rfl (.inl rfl) ?_
        simp only [wx, wy, wz, stV, seval, IntWalk.iteOmega, IntWalk.toNatUp, reduceCtorEq]
        refine st_call (roused15_c G) rfl (.inl rfl) ?_
        simp only [wx, wy, wz, stV, seval, IntWalk.iteOmega, IntWalk.toNatUp, reduceCtorEq]
        refine st_call (c3) rfl (.inl rfl) ?_
        simp only [g1, wx, wy, wz, stV, seval, IntWalk.iteOmega, IntWalk.toNatUp, reduceCtorEq]
        exact ret_d1 (by simp only [wx, wy, wz, stV, seval, IntWalk.iteOmega, IntWalk.toNatUp, reduceCtorEq])
      · have g1 : (y - x ≥ 4503599627370494) = True := eq_true (by omega)
        generalize onlB (z % 4503599627370496) (z % 4503599627370496) x y = OB at *
        generalize onlE (z % 4503599627370496) (z % 4503599627370496) x y = OE at *
        generalize eraA x (z % 4503599627370496) * 4503599627370496 + z % 4503599627370496 = OV at *
        generalize z % 4503599627370496 * 4096 = W at *
        simp only [lp_khol15_0, hoSt, hx, hy, hz, wx, wy, wz, stV, seval, IntWalk.iteOmega, IntWalk.toNatUp, reduceCtorEq]
        refine st_call (c1) rfl (.inl rfl) ?_
        simp only [wx, wy, wz, stV, seval, IntWalk.iteOmega, IntWalk.toNatUp, reduceCtorEq]
        refine st_call (c2) rfl (.inl rfl) ?_
        simp only [spA, wx, wy, wz, stV, seval, IntWalk.iteOmega, IntWalk.toNatUp, reduceCtorEq]
        refine st_call (roused15_c G) rfl (.inl rfl) ?_
        simp only [wx, wy, wz, stV, seval, IntWalk.iteOmega, IntWalk.toNatUp, reduceCtorEq]
        refine st_call (c3) rfl (.inl rfl) ?_
        simp only [g1, wx, wy, wz, stV, seval, IntWalk.iteOmega, IntWalk.toNatUp, reduceCtorEq]
        exact ret_d1 (by simp only [wx, wy, wz, stV, seval, IntWalk.iteOmega, IntWalk.toNatUp, reduceCtorEq])
end Go.Proofs.Ytjebhdadegfbdaa
