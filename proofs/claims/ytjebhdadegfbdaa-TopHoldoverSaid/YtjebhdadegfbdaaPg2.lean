/- Layer 14 on data: the program: eras. Own work. -/
import Derived.Test.YtjebhdadegfbdaaPi6
import Derived.Test.YtjebhdadegfbdaaPg1
set_option linter.unusedVariables false
set_option linter.unusedSimpArgs false
namespace Go.Proofs.Ytjebhdadegfbdaa
open Go.RowKit

def sf_gbeg : SFn := ⟨2, 10,
  .seq (.reg [⟨(some 4), .mv (.k (.c (.d (.int .i64 0)))), none⟩])
  (.seq (.reg [⟨(some 5), .mv (.t 0), none⟩,
    ⟨(some 6), .mv (.t 1), none⟩,
    ⟨(some 7), .call 98 [(.t 6)] none, none⟩,
    ⟨(some 8), .bin .sub (.t 5) (.t 7), none⟩,
    ⟨(some 9), .bin .shr (.t 8) (.k (.c (.d (.int .u64 52)))), none⟩,
    ⟨(some 4), .mv (.t 9), none⟩])
  (.ret)),
  [(4, none)]⟩
theorem cf_gbeg : compFn Try.prog { own := [], comp := [], frz := [], nils := [] } Try.f92 = some sf_gbeg := by kernel_rfl
theorem gbeg_c (G : Glob) (t w : Int) (h1 : -2305843009213693952 ≤ t) (h2 : t ≤ 2305843009213693952) (w1 : 0 ≤ w) (w2 : w < 18446744073709551616) : Den Try.prog G 92 [.int .i64 t, .int .u64 w] (.w (.c (.d (.int .i64 ((t - w / 4096) / 4503599627370496))))) := by
  refine den_walk Try.func92 cf_gbeg rfl rfl ?_
  simp only [sf_gbeg, putAll, wx, wy, wz, stV, seval, IntWalk.iteOmega, IntWalk.toNatUp, reduceCtorEq]
  refine st_call (dwn_c G w w1 w2) rfl (.inl rfl) ?_
  simp only [bI64, wx, wy, wz, stV, seval, IntWalk.iteOmega, IntWalk.toNatUp, reduceCtorEq]
  exact ret_d1 (by simp only [wx, wy, wz, stV, seval, IntWalk.iteOmega, IntWalk.toNatUp, reduceCtorEq])
def sf_gine : SFn := ⟨2, 17,
  .seq (.reg [⟨(some 4), .alloc [(.d (.int .i64 0)), (.d (.int .i64 0))], none⟩])
  (.seq (.reg [⟨(some 6), .mv (.t 0), none⟩,
    ⟨(some 7), .bin .shl (.t 6) (.k (.c (.d (.int .u64 52)))), none⟩,
    ⟨(some 5), .mv (.t 7), none⟩])
  (.seq (.reg [⟨(some 8), .mv (.t 5), none⟩,
    ⟨(some 9), .mv (.t 1), none⟩,
    ⟨(some 10), .call 98 [(.t 9)] none, none⟩,
    ⟨(some 11), .bin .add (.t 8) (.t 10), none⟩,
    ⟨(some 12), .mv (.t 5), none⟩,
    ⟨(some 13), .mv (.t 1), none⟩,
    ⟨(some 14), .call 91 [(.t 13)] none, none⟩,
    ⟨(some 15), .bin .add (.t 12) (.t 14), none⟩,
    ⟨(some 16), .build [(.d (.int .i64 0)), (.d (.int .i64 0))] [(0, 1, (.t 11)), (1, 1, (.t 15))], none⟩,
    ⟨none, .store (.ag 2) (.t 4) (.t 16), none⟩])
  (.ret))),
  [(4, (some (.ag 2)))]⟩
theorem cf_gine : compFn Try.prog { own := [], comp := [], frz := [], nils := [] } Try.f93 = some sf_gine := by kernel_rfl
theorem gine_c (G : Glob) (k w : Int) (h1 : -1024 ≤ k) (h2 : k ≤ 1024) (w1 : 0 ≤ w) (w2 : w < 18446744073709551616) : Den Try.prog G 93 [.int .i64 k, .int .u64 w] (.w (.c (.d (.agg [.int .i64 (k * 4503599627370496 + w / 4096), .int .i64 (k * 4503599627370496 + upV w)])))) := by
  refine den_walk Try.func93 cf_gine rfl rfl ?_
  obtain ⟨u1, u2, u3, u4, u5⟩ := upw_in w1 w2
  have cu := upp_c G w w1 w2
  generalize upV w = u at *
  simp only [sf_gine, putAll, wx, wy, wz, stV, seval, IntWalk.iteOmega, IntWalk.toNatUp, reduceCtorEq, bI64]
  refine st_call (dwn_c G w w1 w2) rfl (.inl rfl) ?_
  simp only [wx, wy, wz, stV, seval, IntWalk.iteOmega, IntWalk.toNatUp, reduceCtorEq]
  refine st_call (cu) rfl (.inl rfl) ?_
  simp only [wx, wy, wz, stV, seval, IntWalk.iteOmega, IntWalk.toNatUp, reduceCtorEq]
  exact ret_d1 (by simp only [wx, wy, wz, stV, seval, IntWalk.iteOmega, IntWalk.toNatUp, reduceCtorEq])
def unfSt (w d u A : Int) (N n : Nat) : St := ⟨ofL [(1, .w (.c (.d (.int .u64 w)))), (6, .w (.c (.d (.int .i64 (A - 1))))), (8, .w (.c (.own 1 2 0 n))), (28, .w (.c (.d (.int .i64 (N : Int))))), (29, .w (.c (.d (.int .i64 (n : Int)))))],
  hL [(1, .row 2 ((erL d u A n).map spD))], uL [1]⟩
def lp_gunf_0 : SCode :=
  .seq (.reg [⟨(some 30), .bin .lss (.t 29) (.t 28), none⟩])
  (.seq (.cond (.t 30) (.skip)
   (.exit 0))
  (.seq (.block 1 (.seq (.reg [⟨(some 31), .mv (.t 29), none⟩,
     ⟨(some 9), .mv (.t 31), none⟩])
   (.reg [⟨(some 32), .mv (.t 8), none⟩,
     ⟨(some 33), .mv (.t 6), none⟩,
     ⟨(some 34), .bin .add (.t 33) (.k (.c (.d (.int .i64 1)))), none⟩,
     ⟨(some 35), .mv (.t 9), none⟩,
     ⟨(some 36), .bin .add (.t 34) (.t 35), none⟩,
     ⟨(some 37), .mv (.t 1), none⟩,
     ⟨(some 38), .call 93 [(.t 36), (.t 37)] none, none⟩,
     ⟨(some 39), .bldSl false 1 2 (.agg [(.int .i64 0), (.int .i64 0)]) [(0, (.t 38))], none⟩,
     ⟨(some 40), .app false 2 16 (.t 32) (.t 39), none⟩,
     ⟨(some 8), .mv (.t 40), none⟩])))
  (.reg [⟨(some 41), .bin .add (.t 29) (.k (.c (.d (.int .i64 1)))), none⟩,
    ⟨(some 29), .mv (.t 41), none⟩])))
def sf_gunf : SFn := ⟨2, 43,
  .seq (.reg [⟨(some 2), .box .roBox (.t 0), none⟩,
    ⟨(some 4), .mv (.k (.c .nil)), none⟩,
    ⟨(some 5), .mv (.k (.c (.d (.int .i64 0)))), none⟩])
  (.seq (.seq (.reg [⟨(some 10), .load (.ag 2) (.t 2), none⟩,
    ⟨(some 11), .call 76 [(.t 10)] none, none⟩,
    ⟨(some 12), .un .not (.t 11), none⟩])
  (.cond (.t 12) (.seq (.reg [⟨(some 4), .mv (.k (.c .nil)), none⟩,
     ⟨(some 5), .mv (.k (.c (.d (.int .i64 3)))), none⟩])
   (.ret))
   (.skip)))
  (.seq (.reg [⟨(some 13), .fieldAddr 0 (.t 2), none⟩,
    ⟨(some 14), .load .sc (.t 13), none⟩,
    ⟨(some 15), .bin .sub (.t 14) (.k (.c (.d (.int .i64 1)))), none⟩,
    ⟨(some 16), .mv (.t 1), none⟩,
    ⟨(some 17), .call 91 [(.t 16)] none, none⟩,
    ⟨(some 18), .bin .sub (.t 15) (.t 17), none⟩,
    ⟨(some 19), .bin .shr (.t 18) (.k (.c (.d (.int .u64 52)))), none⟩,
    ⟨(some 6), .mv (.t 19), none⟩])
  (.seq (.reg [⟨(some 20), .fieldAddr 1 (.t 2), none⟩,
    ⟨(some 21), .load .sc (.t 20), none⟩,
    ⟨(some 22), .mv (.t 1), none⟩,
    ⟨(some 23), .call 92 [(.t 21), (.t 22)] none, none⟩,
    ⟨(some 24), .mv (.t 6), none⟩,
    ⟨(some 25), .bin .sub (.t 23) (.t 24), none⟩,
    ⟨(some 7), .mv (.t 25), none⟩])
  (.seq (.seq (.reg [⟨(some 26), .mv (.t 7), none⟩,
    ⟨(some 27), .bin .gtr (.t 26) (.k (.c (.d (.int .i64 64)))), none⟩])
  (.cond (.t 27) (.seq (.reg [⟨(some 4), .mv (.k (.c .nil)), none⟩,
     ⟨(some 5), .mv (.k (.c (.d (.int .i64 8)))), none⟩])
   (.ret))
   (.skip)))
  (.seq (.reg [⟨(some 8), .nilOwn 2, none⟩])
  (.seq (.seq (.reg [⟨(some 28), .mv (.t 7), none⟩,
    ⟨(some 29), .mv (.k (.c (.d (.int .i64 0)))), none⟩])
  (.block 0 (.loop lp_gunf_0)))
  (.seq (.reg [⟨(some 42), .mv (.t 8), none⟩,
    ⟨(some 4), .mv (.t 42), none⟩,
    ⟨(some 5), .mv (.k (.c (.d (.int .i64 0)))), none⟩])
  (.ret)))))))),
  [(4, none), (5, none)]⟩
theorem cf_gunf : compFn Try.prog { own := [8], comp := [], frz := [], nils := [] } Try.f72 = some sf_gunf := by kernel_rfl
set_option maxHeartbeats 1600000 in
theorem gunf_f (G : Glob) (lo hi w : Int) (w1 : 0 ≤ w) (w2 : w < 18446744073709551616) : Den Try.prog G 72 [.agg [.int .i64 lo, .int .i64 hi], .int .u64 w] (.tup [.c (.fr 2 ((unfW (w / 4096) (upV w) lo hi).map spD)), .c (.d (.int .i64 (unfE (w / 4096) (upV w) lo hi)))]) := by
  refine den_walk Try.func72 cf_gunf rfl rfl ?_
  have cv := isv_c G lo hi
  unfold unfW unfE
  cases hv : okP (lo, hi)
  · rw [hv] at cv
    simp only [Bool.false_eq_true, if_false, false_and]
    simp only [sf_gunf, putAll, wx, wy, wz, stV, seval, IntWalk.iteOmega, IntWalk.toNatUp, reduceCtorEq]
    refine st_call (cv) rfl (.inl rfl) ?_
    simp only [wx, wy, wz, stV, seval, IntWalk.iteOmega, IntWalk.toNatUp, reduceCtorEq]
    exact ret_f2 (by simp only [wx, wy, wz, stV, seval, IntWalk.iteOmega, IntWalk.toNatUp, reduceCtorEq]) (by simp only [wx, wy, wz, stV, seval, IntWalk.iteOmega, IntWalk.toNatUp, reduceCtorEq])
  · rw [hv] at cv
    obtain ⟨h1, h2, h3⟩ := okP_i hv
    obtain ⟨u1, u2, u3, u4, _⟩ := upw_in w1 w2
    obtain ⟨n1, n2, n3⟩ := unfN_i h3 u3 u4
    have cu := upp_c G w w1 w2
    have cb := gbeg_c G hi w (by omega) (by omega) w1 w2
    have hA : -300 ≤ eraA lo (upV w) ∧ eraA lo (upV w) ≤ 300 := by unfold eraA; omega
    have hB : -300 ≤ eraB hi (w / 4096) ∧ eraB hi (w / 4096) ≤ 300 := by unfold eraB; omega
    rw [n3] at cb
    have ce : ∀ k, -1024 ≤ k → k ≤ 1024 → _ := fun k k1 k2 => gine_c G k w k1 k2 w1 w2
    by_cases hb : unfN (w / 4096) (upV w) lo hi ≤ 64
    · have hb' : ((unfN (w / 4096) (upV w) lo hi : Int) > 64) = False := eq_false (by omega)
      have ec : eraB hi (w / 4096) - (eraA lo (upV w) - 1) = (unfN (w / 4096) (upV w) lo hi : Int) := by omega
      rw [if_pos rfl, if_pos hb, if_pos ⟨rfl, hb⟩]
      rw [unfL_er]
      generalize w / 4096 = d at *
      generalize upV w = u at *
      generalize eraA lo u = A at *
      generalize unfN d u lo hi = N at *
      generalize eraB hi d = B at *
      simp only [sf_gunf, putAll, wx, wy, wz, stV, seval, IntWalk.iteOmega, IntWalk.toNatUp, reduceCtorEq]
      refine st_call (cv) rfl (.inl rfl) ?_
      simp only [wx, wy, wz, stV, seval, IntWalk.iteOmega, IntWalk.toNatUp, reduceCtorEq]
      refine st_call (cu) rfl (.inl rfl) ?_
      simp only [bI64, n2, wx, wy, wz, stV, seval, IntWalk.iteOmega, IntWalk.toNatUp, reduceCtorEq]
      refine st_call (cb) rfl (.inl rfl) ?_
      simp only [ec, hb', wx, wy, wz, stV, seval, IntWalk.iteOmega, IntWalk.toNatUp, reduceCtorEq]
      refine loop_st (unfSt w d u A N) (fun i => N - i) (fun i => i ≤ N) 0 (Nat.zero_le _) ?_ ?_
      · have e0 : erL d u A 0 = [] := rfl
        refine ent_l (fun _ => 64) ?_ ?_ rfl rfl <;> simp only [wx, wex, wez, stV, seval, IntWalk.iteOmega, IntWalk.toNatUp, reduceCtorEq, e0]
      · intro i hi'
        have f2 := erL_len d u A i
        by_cases hlt : i < N
        · have f1 : (erL d u A (i + 1)).map spD = (erL d u A i).map spD ++ [.agg [.int .i64 ((A + i) * 4503599627370496 + d), .int .i64 ((A + i) * 4503599627370496 + u)]] := by
            rw [erL_add, List.map_append]
            show _ ++ [spD (eraS d u (A + (i : Int) + 0))] = _
            rw [Int.add_zero]; rfl
          have ek : A - 1 + 1 + (i : Int) = A + i := by omega
          have cei := ce (A + i) (by omega) (by omega)
          simp only [lp_gunf_0, unfSt, wx, wy, wz, stV, seval, IntWalk.iteOmega, IntWalk.toNatUp, reduceCtorEq, ek, srcV]
          refine st_call (cei) rfl (.inl rfl) ?_
          simp only [srcV, f2, wx, wy, wz, stV, seval, IntWalk.iteOmega, IntWalk.toNatUp, reduceCtorEq]
          refine lop_next (i + 1) (by omega) (by omega) (ent_l (fun _ => 320) ?_ ?_ rfl rfl) <;> simp only [wx, wex, wez, stV, seval, IntWalk.iteOmega, IntWalk.toNatUp, reduceCtorEq, f1]
        · obtain rfl : i = N := by omega
          simp only [lp_gunf_0, unfSt, wx, wy, wz, stV, seval, IntWalk.iteOmega, IntWalk.toNatUp, reduceCtorEq]
          exact ret_f2 (by simp only [wx, wy, wz, stV, seval, IntWalk.iteOmega, IntWalk.toNatUp, reduceCtorEq, f2]) (by simp only [wx, wy, wz, stV, seval, IntWalk.iteOmega, IntWalk.toNatUp, reduceCtorEq])
    · have hb' : ((unfN (w / 4096) (upV w) lo hi : Int) > 64) = True := eq_true (by omega)
      have ec : eraB hi (w / 4096) - (eraA lo (upV w) - 1) = (unfN (w / 4096) (upV w) lo hi : Int) := by omega
      rw [if_pos rfl, if_neg hb, if_neg (fun k => hb k.2)]
      generalize w / 4096 = d at *
      generalize upV w = u at *
      simp only [sf_gunf, putAll, wx, wy, wz, stV, seval, IntWalk.iteOmega, IntWalk.toNatUp, reduceCtorEq]
      refine st_call (cv) rfl (.inl rfl) ?_
      simp only [wx, wy, wz, stV, seval, IntWalk.iteOmega, IntWalk.toNatUp, reduceCtorEq]
      refine st_call (cu) rfl (.inl rfl) ?_
      simp only [bI64, n2, wx, wy, wz, stV, seval, IntWalk.iteOmega, IntWalk.toNatUp, reduceCtorEq]
      refine st_call (cb) rfl (.inl rfl) ?_
      simp only [ec, hb', wx, wy, wz, stV, seval, IntWalk.iteOmega, IntWalk.toNatUp, reduceCtorEq]
      exact ret_f2 (by simp only [wx, wy, wz, stV, seval, IntWalk.iteOmega, IntWalk.toNatUp, reduceCtorEq]) (by simp only [wx, wy, wz, stV, seval, IntWalk.iteOmega, IntWalk.toNatUp, reduceCtorEq])
theorem gunf_c (G : Glob) (lo hi w : Int) (w1 : 0 ≤ w) (w2 : w < 18446744073709551616) : Den Try.prog G 72 [.agg [.int .i64 lo, .int .i64 hi], .int .u64 w] (.tup [.c (.d (.sl ((unfW (w / 4096) (upV w) lo hi).map spD))), .c (.d (.int .i64 (unfE (w / 4096) (upV w) lo hi)))]) := den_ro2 (gunf_f G lo hi w w1 w2)
def sf_gonl : SFn := ⟨2, 35,
  .seq (.reg [⟨(some 2), .box .roBox (.t 0), none⟩,
    ⟨(some 4), .alloc [(.d (.int .i64 0)), (.d (.int .i64 0))], none⟩,
    ⟨(some 5), .mv (.k (.c (.d (.int .i64 0)))), none⟩])
  (.seq (.reg [⟨(some 9), .load (.ag 2) (.t 2), none⟩,
    ⟨(some 10), .mv (.t 1), none⟩,
    ⟨(some 11), .call 72 [(.t 9), (.t 10)] none, none⟩,
    ⟨(some 8), .mv (.t 11), none⟩,
    ⟨(some 12), .extract (.t 8) 0, none⟩,
    ⟨(some 13), .extract (.t 8) 1, none⟩,
    ⟨(some 6), .mv (.t 12), none⟩,
    ⟨(some 7), .mv (.t 13), none⟩])
  (.seq (.block 0 (.seq (.reg [⟨(some 15), .mv (.t 7), none⟩,
     ⟨(some 16), .bin .eql (.t 15) (.k (.c (.d (.int .i64 3)))), none⟩,
     ⟨(some 14), .mv (.t 16), none⟩])
   (.cond (.t 14) (.seq (.reg [⟨(some 17), .build [(.d (.int .i64 0)), (.d (.int .i64 0))] [], none⟩,
      ⟨none, .store (.ag 2) (.t 4) (.t 17), none⟩,
      ⟨(some 5), .mv (.k (.c (.d (.int .i64 3)))), none⟩])
    (.ret))
    (.seq (.reg [⟨(some 19), .mv (.t 7), none⟩,
      ⟨(some 20), .bin .eql (.t 19) (.k (.c (.d (.int .i64 8)))), none⟩,
      ⟨(some 21), .mv (.t 20), none⟩,
      ⟨(some 22), .mv (.t 6), (some (21, false))⟩,
      ⟨(some 23), .len (.t 22), (some (21, false))⟩,
      ⟨(some 24), .bin .gtr (.t 23) (.k (.c (.d (.int .i64 1)))), (some (21, false))⟩,
      ⟨(some 25), .pick (.t 21) (.k (.c (.d (.bool true)))) (.t 24), none⟩,
      ⟨(some 18), .mv (.t 25), none⟩])
    (.cond (.t 18) (.seq (.reg [⟨(some 26), .build [(.d (.int .i64 0)), (.d (.int .i64 0))] [], none⟩,
       ⟨none, .store (.ag 2) (.t 4) (.t 26), none⟩,
       ⟨(some 5), .mv (.k (.c (.d (.int .i64 9)))), none⟩])
     (.ret))
     (.seq (.reg [⟨(some 28), .mv (.t 6), none⟩,
       ⟨(some 29), .len (.t 28), none⟩,
       ⟨(some 30), .bin .eql (.t 29) (.k (.c (.d (.int .i64 0)))), none⟩,
       ⟨(some 27), .mv (.t 30), none⟩])
     (.cond (.t 27) (.seq (.reg [⟨(some 31), .build [(.d (.int .i64 0)), (.d (.int .i64 0))] [], none⟩,
        ⟨none, .store (.ag 2) (.t 4) (.t 31), none⟩,
        ⟨(some 5), .mv (.k (.c (.d (.int .i64 10)))), none⟩])
      (.ret))
      (.skip))))))))
  (.seq (.reg [⟨(some 32), .mv (.t 6), none⟩,
    ⟨(some 33), .idxSl 2 (.t 32) (.k (.c (.d (.int .i64 0)))), none⟩,
    ⟨(some 34), .load (.ag 2) (.t 33), none⟩,
    ⟨none, .store (.ag 2) (.t 4) (.t 34), none⟩,
    ⟨(some 5), .mv (.k (.c (.d (.int .i64 0)))), none⟩])
  (.ret)))),
  [(4, (some (.ag 2))), (5, none)]⟩
theorem cf_gonl : compFn Try.prog { own := [], comp := [], frz := [], nils := [] } Try.f37 = some sf_gonl := by kernel_rfl
theorem gonl_c (G : Glob) (lo hi w : Int) (w1 : 0 ≤ w) (w2 : w < 18446744073709551616) : Den Try.prog G 37 [.agg [.int .i64 lo, .int .i64 hi], .int .u64 w] (.tup [.c (.d (spA (onlB (w / 4096) (upV w) lo hi) (eraA lo (upV w) * 4503599627370496 + w / 4096) (eraA lo (upV w) * 4503599627370496 + upV w))), .c (.d (.int .i64 (onlE (w / 4096) (upV w) lo hi)))]) := by
  refine den_walk Try.func37 cf_gonl rfl rfl ?_
  have c := gunf_c G lo hi w w1 w2
  unfold spA onlB onlE
  unfold unfW unfE at c
  generalize w / 4096 = d at *
  generalize upV w = u at *
  cases hv : okP (lo, hi)
  · rw [hv] at c
    simp only [Bool.false_eq_true, if_false, false_and] at c
    simp only [sf_gonl, putAll, wx, wy, wz, stV, seval, IntWalk.iteOmega, IntWalk.toNatUp, reduceCtorEq]
    refine st_call (c) rfl (.inl rfl) ?_
    simp only [wx, wy, wz, stV, seval, IntWalk.iteOmega, IntWalk.toNatUp, reduceCtorEq]
    exact ret_d2 (by simp only [wx, wy, wz, stV, seval, IntWalk.iteOmega, IntWalk.toNatUp, reduceCtorEq]) (by simp only [wx, wy, wz, stV, seval, IntWalk.iteOmega, IntWalk.toNatUp, reduceCtorEq])
  · rw [hv] at c
    simp only [if_true, true_and] at c
    have hl : (unfL d u lo hi).length = unfN d u lo hi := unfP_len _ _ _ _
    by_cases hb : unfN d u lo hi ≤ 64
    · rw [if_pos hb, if_pos hb] at c
      by_cases h0 : unfN d u lo hi = 0
      · have e : unfL d u lo hi = [] := List.length_eq_zero_iff.1 (by omega)
        rw [e] at c
        rw [h0]
        simp only [sf_gonl, putAll, wx, wy, wz, stV, seval, IntWalk.iteOmega, IntWalk.toNatUp, reduceCtorEq]
        refine st_call (c) rfl (.inl rfl) ?_
        simp only [wx, wy, wz, stV, seval, IntWalk.iteOmega, IntWalk.toNatUp, reduceCtorEq]
        exact ret_d2 (by simp only [wx, wy, wz, stV, seval, IntWalk.iteOmega, IntWalk.toNatUp, reduceCtorEq]) (by simp only [wx, wy, wz, stV, seval, IntWalk.iteOmega, IntWalk.toNatUp, reduceCtorEq])
      · by_cases h1 : unfN d u lo hi = 1
        · have e : (unfL d u lo hi).map spD = [.agg [.int .i64 (eraA lo u * 4503599627370496 + d), .int .i64 (eraA lo u * 4503599627370496 + u)]] := by
            unfold unfL; rw [h1, unfP_succ]
            show [spD (eraS d u (eraA lo u + 0))] = _
            rw [Int.add_zero]; rfl
          rw [e] at c
          rw [h1]
          simp only [sf_gonl, putAll, wx, wy, wz, stV, seval, IntWalk.iteOmega, IntWalk.toNatUp, reduceCtorEq]
          refine st_call (c) rfl (.inl rfl) ?_
          simp only [wx, wy, wz, stV, seval, IntWalk.iteOmega, IntWalk.toNatUp, reduceCtorEq]
          exact ret_d2 (by simp only [wx, wy, wz, stV, seval, IntWalk.iteOmega, IntWalk.toNatUp, reduceCtorEq]) (by simp only [wx, wy, wz, stV, seval, IntWalk.iteOmega, IntWalk.toNatUp, reduceCtorEq])
        · have hgt : (((unfL d u lo hi).length : Int) > 1) = True := eq_true (by omega)
          rw [decide_eq_false h1, if_neg h0, if_neg h1]
          generalize unfL d u lo hi = L at *
          simp only [sf_gonl, putAll, wx, wy, wz, stV, seval, IntWalk.iteOmega, IntWalk.toNatUp, reduceCtorEq]
          refine st_call (c) rfl (.inl rfl) ?_
          simp only [hgt, wx, wy, wz, stV, seval, IntWalk.iteOmega, IntWalk.toNatUp, reduceCtorEq]
          exact ret_d2 (by simp only [wx, wy, wz, stV, seval, IntWalk.iteOmega, IntWalk.toNatUp, reduceCtorEq]) (by simp only [wx, wy, wz, stV, seval, IntWalk.iteOmega, IntWalk.toNatUp, reduceCtorEq])
    · rw [if_neg hb, if_neg hb] at c
      rw [decide_eq_false (show ¬ unfN d u lo hi = 1 by omega), if_neg (show ¬ unfN d u lo hi = 0 by omega), if_neg (show ¬ unfN d u lo hi = 1 by omega)]
      simp only [sf_gonl, putAll, wx, wy, wz, stV, seval, IntWalk.iteOmega, IntWalk.toNatUp, reduceCtorEq]
      refine st_call (c) rfl (.inl rfl) ?_
      simp only [wx, wy, wz, stV, seval, IntWalk.iteOmega, IntWalk.toNatUp, reduceCtorEq]
      exact ret_d2 (by simp only [wx, wy, wz, stV, seval, IntWalk.iteOmega, IntWalk.toNatUp, reduceCtorEq]) (by simp only [wx, wy, wz, stV, seval, IntWalk.iteOmega, IntWalk.toNatUp, reduceCtorEq])
end Go.Proofs.Ytjebhdadegfbdaa
