/- Layer 4 on data: the reference's prepared key. Own work. -/
import Derived.Test.YtnadfnnkdnakhaaPc7
set_option linter.unusedVariables false
set_option linter.unusedSimpArgs false
namespace Go.Proofs.Ytnadfnnkdnakhaa
open Go.RowKit

/-! ### A machine's cells -/
def mB (a b c : List UInt8) : List UInt8 := a ++ b ++ c
theorem mB_getA {a b c : List UInt8} (ha : a.length = 176) (_ : b.length = 256) {j : Nat} (h : j < 176) : (mB a b c)[j]? = a[j]? := by
  unfold mB; rw [List.append_assoc, List.getElem?_append_left (by omega)]
theorem mB_getB {a b c : List UInt8} (ha : a.length = 176) (hb : b.length = 256) {j : Nat} (h : j < 256) : (mB a b c)[176 + j]? = b[j]? := by
  unfold mB; rw [List.append_assoc, List.getElem?_append_right (by omega), ha, Nat.add_sub_cancel_left, List.getElem?_append_left (by omega)]
theorem mB_getC {a b c : List UInt8} (ha : a.length = 176) (hb : b.length = 256) (j : Nat) : (mB a b c)[432 + j]? = c[j]? := by
  unfold mB; rw [List.getElem?_append_right (by rw [List.length_append]; omega), List.length_append, ha, hb, Nat.add_sub_cancel_left]
theorem mB_setA {a b c : List UInt8} (ha : a.length = 176) (_ : b.length = 256) {j : Nat} (h : j < 176) (x : UInt8) : (mB a b c).set j x = mB (a.set j x) b c := by
  unfold mB; rw [List.append_assoc, List.append_assoc, List.set_append_left _ _ (by omega)]
theorem mB_setC {a b c : List UInt8} (ha : a.length = 176) (hb : b.length = 256) (j : Nat) (x : UInt8) : (mB a b c).set (432 + j) x = mB a b (c.set j x) := by
  unfold mB; rw [List.set_append_right _ _ (by rw [List.length_append]; omega), List.length_append, ha, hb, Nat.add_sub_cancel_left]
theorem mB_len {a b c : List UInt8} (ha : a.length = 176) (hb : b.length = 256) (hc : c.length = 256) : (mB a b c).length = 688 := by unfold mB; rw [List.length_append, List.length_append, ha, hb, hc]
def twF (i : Nat) : UInt8 := twB (UInt8.ofNat i)
def twL : List UInt8 := (List.range 256).map twF
theorem twL_len : twL.length = 256 := by unfold twL; rw [List.length_map, List.length_range]
theorem twL_get (x : UInt8) : twL[x.toNat]? = some (twB x) := by
  have h := byte_lt x
  unfold twL
  rw [List.getElem?_map, List.getElem?_range h]
  show some (twB (UInt8.ofNat x.toNat)) = _
  rw [UInt8.ofNat_toNat]
/-- What the reference makes of a key. -/
def macM4 (key : List UInt8) : List UInt8 := mB (rkK key) boxL twL
theorem bD_nat {i : Nat} (h : i < 256) : bD (UInt8.ofNat i) = .int .u8 (i : Int) := by
  unfold bD; rw [UInt8.toNat_ofNat_of_lt' (by simpa [UInt8.size] using h)]
/-- .. before the words, and behind n of them and k bytes. -/
def prepA (i : Nat) : List UInt8 := mB (repL 176 0) boxL (upL twF (repL 256 0) i)
theorem prepA_len {i : Nat} (h : i ≤ 256) : (prepA i).length = 688 := mB_len (repL_len _ _) boxL_len (by rw [upL_len _ _ (by rw [repL_len]; omega), repL_len])
def rkQ (key : List UInt8) (n k : Nat) : List UInt8 := rkN key n ++ (nextK (rkN key n) n).take k ++ repL (160 - 4 * n - k) 0
def prepB (key : List UInt8) (n k : Nat) : List UInt8 := mB (rkQ key n k) boxL twL
theorem rkQ_len {key : List UInt8} (h : key.length = 16) {n k : Nat} (hk : k ≤ 4) (hn : 4 * n + k ≤ 160) : (rkQ key n k).length = 176 := by
  unfold rkQ; rw [List.length_append, List.length_append, rkN_len h, List.length_take, nextK_len, repL_len]; omega
theorem rkQ_old {key : List UInt8} (h : key.length = 16) {n k j : Nat} (hj : j < 16 + 4 * n) : (rkQ key n k)[j]? = some ((rkN key n).getD j 0) := by
  unfold rkQ
  rw [List.append_assoc, List.getElem?_append_left (by rw [rkN_len h]; exact hj)]
  exact get_lt (by rw [rkN_len h]; exact hj)
theorem nextK_get (l : List UInt8) (n : Nat) {k : Nat} (hk : k < 4) : (nextK l n)[k]? = some (xorB (l.getD (4 * n + k) 0) ((turnW (l.drop (12 + 4 * n)) n).getD k 0)) := by
  unfold nextK; rw [List.getElem?_map, List.getElem?_range hk]; rfl
theorem rkQ_step {key : List UInt8} (h : key.length = 16) {n k : Nat} (hk : k < 4) (hn : 4 * n + k < 160) :
    (rkQ key n k).set (16 + 4 * n + k) (xorB ((rkN key n).getD (4 * n + k) 0) ((turnW ((rkN key n).drop (12 + 4 * n)) n).getD k 0)) = rkQ key n (k + 1) := by
  have hl : (rkN key n ++ (nextK (rkN key n) n).take k).length = 16 + 4 * n + k := by rw [List.length_append, rkN_len h, List.length_take, nextK_len]; omega
  unfold rkQ
  rw [List.set_append_right _ _ (by omega), hl, Nat.sub_self]
  obtain ⟨m, hm⟩ : ∃ m, 160 - 4 * n - k = m + 1 := ⟨160 - 4 * n - k - 1, by omega⟩
  rw [show 160 - 4 * n - (k + 1) = m by omega, hm]
  unfold repL
  rw [List.replicate_succ, List.set_cons_zero, List.take_add_one, nextK_get _ _ hk]
  simp
theorem rkQ_next (key : List UInt8) (n : Nat) : rkQ key n 4 = rkQ key (n + 1) 0 := by
  unfold rkQ
  rw [List.take_zero, List.append_nil, rkN, List.take_of_length_le (by rw [nextK_len]; omega), show 160 - 4 * n - 4 = 160 - 4 * (n + 1) - 0 by omega]
theorem rkQ_full (key : List UInt8) : rkQ key 40 0 = rkK key := by
  unfold rkQ repL rkK; rw [show 160 - 4 * 40 - 0 = 0 from rfl, List.replicate_zero, List.append_nil, List.take_zero, List.append_nil]
theorem prepB_len {key : List UInt8} (h : key.length = 16) {n k : Nat} (hk : k ≤ 4) (hn : 4 * n + k ≤ 160) : (prepB key n k).length = 688 := mB_len (rkQ_len h hk hn) boxL_len twL_len

theorem tsd {l : List UInt8} {j : Nat} (x : UInt8) (h : j < l.length) : List.take j l ++ [x] ++ List.drop (j + 1) l = l.set j x := by
  rw [List.set_eq_take_append_cons_drop, if_pos h, List.append_assoc]; rfl
theorem bC_d (x : UInt8) : bC x = C.d (bD x) := rfl
theorem cat3 (a b : List UInt8) (x : UInt8) : a.map bC ++ [C.d (bD x)] ++ b.map bC = (a ++ [x] ++ b).map bC := by rw [List.map_append, List.map_append]; rfl
def pr2St (key : List UInt8) (n : Nat) : St := ⟨ofL [(2, .w (.c (.ptr 2 1 0 0))), (3, .w (.c (.ptr 1 1 0 0))), (5, .w (.c (.d (bD (conK ((n + 3) / 4)))))), (6, .w (.c (.d (.int .i64 ((16 + 4 * n : Nat) : Int)))))], hL [(1, .box ((prepB key n 0).map bC)), (2, .box ((repL 688 (0 : UInt8)).map bC))], uL [1, 2]⟩
def turL (key : List UInt8) (n : Nat) : List UInt8 := turnW ((rkN key n).drop (12 + 4 * n)) n
theorem turL_len (key : List UInt8) (n : Nat) : (turL key n).length = 4 := by unfold turL turnW; split <;> rfl
def pr1St (key : List UInt8) (n k : Nat) : St := ⟨ofL [(2, .w (.c (.ptr 2 1 0 0))), (3, .w (.c (.ptr 1 1 0 0))), (5, .w (.c (.d (bD (conK ((n + 4) / 4)))))), (6, .w (.c (.d (.int .i64 ((16 + 4 * n : Nat) : Int))))), (7, .w (.c (.pa 3 1))), (8, .w (.c (.d (.int .i64 (k : Int)))))], hL [(1, .box ((prepB key n k).map bC)), (2, .box ((repL 688 (0 : UInt8)).map bC)), (3, .row 1 ((turL key n).map bD))], uL [1, 2, 3]⟩
def pr0St (key : List UInt8) (i : Nat) : St := ⟨ofL [(0, .w (.c (.d (.sl (key.map bD))))), (2, .w (.c (.ptr 2 1 0 0))), (3, .w (.c (.ptr 1 1 0 0))), (4, .w (.c (.d (.int .i64 (i : Int)))))], hL [(1, .box ((prepA i).map bC)), (2, .box ((repL 688 (0 : UInt8)).map bC))], uL [1, 2]⟩
def lp_prep_0 : SCode :=
  .seq (.seq (.reg [⟨(some 11), .mv (.t 4), none⟩,
    ⟨(some 12), .bin .lss (.t 11) (.k (.c (.d (.int .i64 256)))), none⟩])
  (.cond (.t 12) (.skip)
   (.exit 0)))
  (.seq (.block 1 (.reg [⟨(some 15), .mv (.t 4), none⟩,
     ⟨(some 16), .mv (.t 4), none⟩,
     ⟨(some 17), .conv .u8 (.t 16), none⟩,
     ⟨(some 18), .call 38 [(.t 17), (.k (.c (.d (.int .u8 2))))] none, none⟩,
     ⟨(some 19), .fieldAddr 432 (.t 3), none⟩,
     ⟨(some 20), .idxPa 1 256 (.t 19) (.t 15), none⟩,
     ⟨none, .store .sc (.t 20) (.t 18), none⟩]))
  (.reg [⟨(some 13), .mv (.t 4), none⟩,
    ⟨(some 14), .bin .add (.t 13) (.k (.c (.d (.int .i64 1)))), none⟩,
    ⟨(some 4), .mv (.t 14), none⟩]))
def lp_prep_1 : SCode :=
  .seq (.seq (.reg [⟨(some 78), .mv (.t 8), none⟩,
    ⟨(some 79), .bin .lss (.t 78) (.k (.c (.d (.int .i64 4)))), none⟩])
  (.cond (.t 79) (.skip)
   (.exit 4)))
  (.seq (.block 5 (.reg [⟨(some 82), .mv (.t 6), none⟩,
     ⟨(some 83), .mv (.t 8), none⟩,
     ⟨(some 84), .bin .add (.t 82) (.t 83), none⟩,
     ⟨(some 85), .mv (.t 6), none⟩,
     ⟨(some 86), .bin .sub (.t 85) (.k (.c (.d (.int .i64 16)))), none⟩,
     ⟨(some 87), .mv (.t 8), none⟩,
     ⟨(some 88), .bin .add (.t 86) (.t 87), none⟩,
     ⟨(some 89), .fieldAddr 0 (.t 3), none⟩,
     ⟨(some 90), .idxPa 1 176 (.t 89) (.t 88), none⟩,
     ⟨(some 91), .load .sc (.t 90), none⟩,
     ⟨(some 92), .mv (.t 8), none⟩,
     ⟨(some 93), .idxPa 1 4 (.t 7) (.t 92), none⟩,
     ⟨(some 94), .load .sc (.t 93), none⟩,
     ⟨(some 95), .bin .xor (.t 91) (.t 94), none⟩,
     ⟨(some 96), .fieldAddr 0 (.t 3), none⟩,
     ⟨(some 97), .idxPa 1 176 (.t 96) (.t 84), none⟩,
     ⟨none, .store .sc (.t 97) (.t 95), none⟩]))
  (.reg [⟨(some 80), .mv (.t 8), none⟩,
    ⟨(some 81), .bin .add (.t 80) (.k (.c (.d (.int .i64 1)))), none⟩,
    ⟨(some 8), .mv (.t 81), none⟩]))
def lp_prep_2 : SCode :=
  .seq (.seq (.reg [⟨(some 25), .mv (.t 6), none⟩,
    ⟨(some 26), .bin .lss (.t 25) (.k (.c (.d (.int .i64 176)))), none⟩])
  (.cond (.t 26) (.skip)
   (.exit 2)))
  (.seq (.block 3 (.seq (.reg [⟨(some 29), .mv (.t 6), none⟩,
     ⟨(some 30), .bin .sub (.t 29) (.k (.c (.d (.int .i64 4)))), none⟩,
     ⟨(some 31), .fieldAddr 0 (.t 3), none⟩,
     ⟨(some 32), .idxPa 1 176 (.t 31) (.t 30), none⟩,
     ⟨(some 33), .load .sc (.t 32), none⟩,
     ⟨(some 34), .mv (.t 6), none⟩,
     ⟨(some 35), .bin .sub (.t 34) (.k (.c (.d (.int .i64 3)))), none⟩,
     ⟨(some 36), .fieldAddr 0 (.t 3), none⟩,
     ⟨(some 37), .idxPa 1 176 (.t 36) (.t 35), none⟩,
     ⟨(some 38), .load .sc (.t 37), none⟩,
     ⟨(some 39), .mv (.t 6), none⟩,
     ⟨(some 40), .bin .sub (.t 39) (.k (.c (.d (.int .i64 2)))), none⟩,
     ⟨(some 41), .fieldAddr 0 (.t 3), none⟩,
     ⟨(some 42), .idxPa 1 176 (.t 41) (.t 40), none⟩,
     ⟨(some 43), .load .sc (.t 42), none⟩,
     ⟨(some 44), .mv (.t 6), none⟩,
     ⟨(some 45), .bin .sub (.t 44) (.k (.c (.d (.int .i64 1)))), none⟩,
     ⟨(some 46), .fieldAddr 0 (.t 3), none⟩,
     ⟨(some 47), .idxPa 1 176 (.t 46) (.t 45), none⟩,
     ⟨(some 48), .load .sc (.t 47), none⟩,
     ⟨(some 49), .build [(.d (.int .u8 0)), (.d (.int .u8 0)), (.d (.int .u8 0)), (.d (.int .u8 0))] [(0, 1, (.t 33)), (1, 1, (.t 38)), (2, 1, (.t 43)), (3, 1, (.t 48))], none⟩,
     ⟨(some 7), .allocArr [(.int .u8 0), (.int .u8 0), (.int .u8 0), (.int .u8 0)], none⟩,
     ⟨none, .store (.ag 4) (.t 7) (.t 49), none⟩])
   (.seq (.seq (.reg [⟨(some 50), .mv (.t 6), none⟩,
     ⟨(some 51), .bin .rem (.t 50) (.k (.c (.d (.int .i64 16)))), none⟩,
     ⟨(some 52), .bin .eql (.t 51) (.k (.c (.d (.int .i64 0)))), none⟩])
   (.cond (.t 52) (.seq (.reg [⟨(some 53), .idxPa 1 4 (.t 7) (.k (.c (.d (.int .i64 1)))), none⟩,
      ⟨(some 54), .load .sc (.t 53), none⟩,
      ⟨(some 55), .fieldAddr 176 (.t 3), none⟩,
      ⟨(some 56), .idxPa 1 256 (.t 55) (.t 54), none⟩,
      ⟨(some 57), .load .sc (.t 56), none⟩,
      ⟨(some 58), .mv (.t 5), none⟩,
      ⟨(some 59), .bin .xor (.t 57) (.t 58), none⟩,
      ⟨(some 60), .idxPa 1 4 (.t 7) (.k (.c (.d (.int .i64 2)))), none⟩,
      ⟨(some 61), .load .sc (.t 60), none⟩,
      ⟨(some 62), .fieldAddr 176 (.t 3), none⟩,
      ⟨(some 63), .idxPa 1 256 (.t 62) (.t 61), none⟩,
      ⟨(some 64), .load .sc (.t 63), none⟩,
      ⟨(some 65), .idxPa 1 4 (.t 7) (.k (.c (.d (.int .i64 3)))), none⟩,
      ⟨(some 66), .load .sc (.t 65), none⟩,
      ⟨(some 67), .fieldAddr 176 (.t 3), none⟩,
      ⟨(some 68), .idxPa 1 256 (.t 67) (.t 66), none⟩,
      ⟨(some 69), .load .sc (.t 68), none⟩,
      ⟨(some 70), .idxPa 1 4 (.t 7) (.k (.c (.d (.int .i64 0)))), none⟩,
      ⟨(some 71), .load .sc (.t 70), none⟩,
      ⟨(some 72), .fieldAddr 176 (.t 3), none⟩,
      ⟨(some 73), .idxPa 1 256 (.t 72) (.t 71), none⟩,
      ⟨(some 74), .load .sc (.t 73), none⟩,
      ⟨(some 75), .build [(.d (.int .u8 0)), (.d (.int .u8 0)), (.d (.int .u8 0)), (.d (.int .u8 0))] [(0, 1, (.t 59)), (1, 1, (.t 64)), (2, 1, (.t 69)), (3, 1, (.t 74))], none⟩,
      ⟨none, .store (.ag 4) (.t 7) (.t 75), none⟩])
    (.reg [⟨(some 76), .mv (.t 5), none⟩,
      ⟨(some 77), .call 38 [(.t 76), (.k (.c (.d (.int .u8 2))))] none, none⟩,
      ⟨(some 5), .mv (.t 77), none⟩]))
    (.skip)))
   (.seq (.reg [⟨(some 8), .mv (.k (.c (.d (.int .i64 0)))), none⟩])
   (.block 4 (.loop lp_prep_1))))))
  (.reg [⟨(some 27), .mv (.t 6), none⟩,
    ⟨(some 28), .bin .add (.t 27) (.k (.c (.d (.int .i64 4)))), none⟩,
    ⟨(some 6), .mv (.t 28), none⟩]))
def sf_prep : SFn := ⟨1, 99,
  .seq (.reg [⟨(some 2), .alloc (repL 688 (.d (.int .u8 0))), none⟩])
  (.seq (.reg [⟨(some 9), .call 37 [] none, none⟩,
    ⟨(some 10), .build (repL 688 (.d (.int .u8 0))) [(176, 256, (.t 9))], none⟩,
    ⟨(some 3), .alloc (repL 688 (.d (.int .u8 0))), none⟩,
    ⟨none, .store (.ag 688) (.t 3) (.t 10), none⟩])
  (.seq (.seq (.reg [⟨(some 4), .mv (.k (.c (.d (.int .i64 0)))), none⟩])
  (.block 0 (.loop lp_prep_0)))
  (.seq (.reg [⟨(some 21), .fieldAddr 0 (.t 3), none⟩,
    ⟨(some 22), .sliceArr 1 176 (.t 21) none none, none⟩,
    ⟨(some 23), .mv (.t 0), none⟩,
    ⟨(some 24), .copy 1 (.t 22) (.t 23), none⟩])
  (.seq (.reg [⟨(some 5), .mv (.k (.c (.d (.int .u8 1)))), none⟩])
  (.seq (.seq (.reg [⟨(some 6), .mv (.k (.c (.d (.int .i64 16)))), none⟩])
  (.block 2 (.loop lp_prep_2)))
  (.seq (.reg [⟨(some 98), .load (.ag 688) (.t 3), none⟩,
    ⟨none, .store (.ag 688) (.t 2) (.t 98), none⟩])
  (.ret))))))),
  [(2, (some (.ag 688)))]⟩
theorem cf_prep : compFn Try.prog { own := [], comp := [], frz := [], nils := [] } Try.f26 = some sf_prep := by kernel_rfl
set_option maxRecDepth 20000 in
set_option maxHeartbeats 6400000 in
theorem prep_c (G : Glob) (key : List UInt8) (h : key.length = 16) : Den Try.prog G 26 [.sl (key.map bD)] (.w (.c (.d (.agg ((macM4 key).map bD))))) := by
  refine den_walk Try.func26 cf_prep rfl rfl ?_
  simp only [sf_prep, putAll, wx, wy, wz, stV, seval, IntWalk.iteOmega, IntWalk.toNatUp, reduceCtorEq]
  have q0 : List.take 176 (repL 688 (0 : UInt8)) ++ boxL ++ List.drop 432 (repL 688 (0 : UInt8)) = prepA 0 := by
    unfold prepA mB; rw [upL_zero]; unfold repL; rw [List.take_replicate, List.drop_replicate]; rfl
  have r1 : (List.take 176 (repL 688 (0 : UInt8))).length = 176 := by rw [List.length_take, repL_len]; rfl
  have r2 : (List.drop 432 (repL 688 (0 : UInt8))).length = 256 := by rw [List.length_drop, repL_len]
  have r4 : List.drop 688 (repL 688 (0 : UInt8)) = [] := List.drop_eq_nil_of_le (by rw [repL_len]; omega)
  have q0l := prepA_len (Nat.zero_le 256)
  refine st_call (rbox_c G) rfl (.inl rfl) ?_
  simp only [repL_bC, len_map, repL_len, boxL_len, take_map, drop_map, map_C, app_map, allD_bs, r1, r2, r4, q0, q0l, List.append_nil, wx, wy, wz, stV, seval, IntWalk.iteOmega, IntWalk.toNatUp, reduceCtorEq]
  -- the table of twice
  refine loop_st (pr0St key) (fun i => 256 - i) (fun i => i ≤ 256) 0 (Nat.zero_le _) ?_ ?_
  · refine ent_l (fun i => if i = 1 then 24 else 16) ?_ ?_ rfl (by simp [V.ids, W.ids, C.ids, Ob.ids, ids_bC]) <;> simp only [wx, wex, wez, stV, seval, IntWalk.iteOmega, IntWalk.toNatUp, reduceCtorEq, ren_bC, ids_bC]
  · intro i hi
    have hl := prepA_len hi
    by_cases hlt : i < 256
    · have h1 : UInt8.ofNat i * 1 = UInt8.ofNat i := by simp
      have hc := rtim_c G (UInt8.ofNat i) 2
      rw [bD_nat hlt] at hc
      have hs : List.take (432 + i) (prepA i) ++ [timesK (UInt8.ofNat i) 2] ++ List.drop (432 + i + 1) (prepA i) = prepA (i + 1) := by
        rw [tsd _ (by omega)]
        unfold prepA
        rw [mB_setC (repL_len _ _) boxL_len]
        congr 1
        exact upL_step twF _ (by rw [repL_len]; exact hlt)
      simp only [lp_prep_0, pr0St, wx, wy, wz, stV, seval, IntWalk.iteOmega, IntWalk.toNatUp, reduceCtorEq]
      refine st_call (hc) rfl (.inl rfl) ?_
      simp only [len_map, hl, take_map, drop_map, cat3, hs, wx, wy, wz, stV, seval, IntWalk.iteOmega, IntWalk.toNatUp, reduceCtorEq]
      refine lop_next (i + 1) (by omega) (by omega) (ent_l (fun i => i) ?_ ?_ rfl (by simp [V.ids, W.ids, C.ids, Ob.ids, ids_bC])) <;> simp only [wx, wex, wez, stV, seval, IntWalk.iteOmega, IntWalk.toNatUp, reduceCtorEq, ren_bC, ids_bC]
    · obtain rfl : i = 256 := by omega
      have ht : key.take 176 = key := List.take_of_length_le (by omega)
      have e0 : key ++ List.drop 16 (prepA 256) = prepB key 0 0 := by
        unfold prepA prepB mB rkQ
        rw [upL_full _ _ (by rw [repL_len]; omega), List.append_assoc, List.drop_append_of_le_length (by rw [repL_len]; decide)]
        unfold repL
        rw [List.drop_replicate, List.take_zero, List.append_nil]
        show key ++ (_ ++ _) = key ++ _ ++ _ ++ _
        simp only [List.append_assoc]
        rfl
      simp only [lp_prep_0, pr0St, wx, wy, wz, stV, seval, IntWalk.iteOmega, IntWalk.toNatUp, reduceCtorEq, len_map, hl, h, ht, flat_bs, map_C, take_map, drop_map, app_map, e0]
      -- the words
      have hp0 := prepB_len h (n := 0) (k := 0) (by decide) (by decide)
      refine loop_st (pr2St key) (fun n => 40 - n) (fun n => n ≤ 40) 0 (Nat.zero_le _) ?_ ?_
      · refine ent_l (fun i => i) ?_ ?_ rfl (by simp [V.ids, W.ids, C.ids, Ob.ids, ids_bC]) <;> simp only [wx, wex, wez, stV, seval, IntWalk.iteOmega, IntWalk.toNatUp, reduceCtorEq, ren_bC, ids_bC, con0, bD1]
      · intro n hn
        have hl2 := prepB_len h (n := n) (k := 0) (by decide) (by omega)
        by_cases hlt2 : n < 40
        · have old : ∀ j, j < 16 + 4 * n → (prepB key n 0)[j]? = some ((rkN key n).getD j 0) := fun j hj => by
            unfold prepB
            rw [mB_getA (rkQ_len h (by decide) (by omega)) boxL_len (by omega), rkQ_old h hj]
          have o0 := old (12 + 4 * n) (by omega)
          have o1 := old (13 + 4 * n) (by omega)
          have o2 := old (14 + 4 * n) (by omega)
          have o3 := old (15 + 4 * n) (by omega)
          have e0 : 16 + 4 * n - 4 = 12 + 4 * n := by omega
          have e1 : 16 + 4 * n - 3 = 13 + 4 * n := by omega
          have e2 : 16 + 4 * n - 2 = 14 + 4 * n := by omega
          have e3 : 16 + 4 * n - 1 = 15 + 4 * n := by omega
          have htl0 := turL_len key n
          have tm : Int.tmod (16 + 4 * (n : Int)) 16 = (((16 + 4 * n) % 16 : Nat) : Int) := tmodN (16 + 4 * n) 16
          by_cases hm : n % 4 = 0
          · have m16 : (16 + 4 * n) % 16 = 0 := by omega
            rw [m16] at tm
            have ecn : (n + 3) / 4 = n / 4 := by omega
            have box : ∀ x : UInt8, (prepB key n 0)[176 + x.toNat]? = some (subK x) := fun x => by
              unfold prepB
              rw [mB_getB (rkQ_len h (by decide) (by omega)) boxL_len (byte_lt x)]; exact boxL_get x
            have hT : [bD (xorB (subK ((rkN key n).getD (13 + 4 * n) 0)) (conK (n / 4))), bD (subK ((rkN key n).getD (14 + 4 * n) 0)), bD (subK ((rkN key n).getD (15 + 4 * n) 0)), bD (subK ((rkN key n).getD (12 + 4 * n) 0))] = (turL key n).map bD := by
              unfold turL turnW
              rw [if_pos hm]
              have g : ∀ j, ((rkN key n).drop (12 + 4 * n)).getD j 0 = (rkN key n).getD (12 + 4 * n + j) 0 := fun j => by simp [List.getD_eq_getElem?_getD]
              simp only [g, List.map_cons, List.map_nil]
              rw [show 12 + 4 * n + 1 = 13 + 4 * n by omega, show 12 + 4 * n + 2 = 14 + 4 * n by omega, show 12 + 4 * n + 3 = 15 + 4 * n by omega]
              rfl
            have l0 := byte_lt ((rkN key n).getD (12 + 4 * n) 0)
            have l1 := byte_lt ((rkN key n).getD (13 + 4 * n) 0)
            have l2 := byte_lt ((rkN key n).getD (14 + 4 * n) 0)
            have l3 := byte_lt ((rkN key n).getD (15 + 4 * n) 0)
            have b0 := box ((rkN key n).getD (12 + 4 * n) 0)
            have b1 := box ((rkN key n).getD (13 + 4 * n) 0)
            have b2 := box ((rkN key n).getD (14 + 4 * n) 0)
            have b3 := box ((rkN key n).getD (15 + 4 * n) 0)
            have x0 := binV_xorB (subK ((rkN key n).getD (13 + 4 * n) 0)) (conK (n / 4))
            have cs := conK_step (n / 4)
            have ec4 : (n + 4) / 4 = n / 4 + 1 := by omega
            simp only [lp_prep_2, pr2St, ecn, wx, wy, wz, stV, seval, IntWalk.iteOmega, IntWalk.toNatUp, reduceCtorEq, len_map, hl2, get_map, e0, e1, e2, e3, o0, o1, o2, o3, bC_d, tm, b0, b1, b2, b3, x0, hT, htl0]
            refine st_call (rtim_c G (conK (n / 4)) 2) rfl (.inl rfl) ?_
            simp only [cs, wx, wy, wz, stV, seval, IntWalk.iteOmega, IntWalk.toNatUp, reduceCtorEq]
            refine loop_st (pr1St key n) (fun k => 4 - k) (fun k => k ≤ 4) 0 (Nat.zero_le _) ?_ ?_
            · refine ent_l (fun i => if i = 3 then 56 else i) ?_ ?_ rfl (by simp [V.ids, W.ids, C.ids, Ob.ids, ids_bC]) <;> simp only [wx, wex, wez, stV, seval, IntWalk.iteOmega, IntWalk.toNatUp, reduceCtorEq, ren_bC, ids_bC, ec4]
            · intro k hk
              have hl3 := prepB_len h (n := n) (k := k) hk (by omega)
              have htl := turL_len key n
              by_cases hlt3 : k < 4
              · have p1 : (prepB key n k)[4 * n + k]? = some ((rkN key n).getD (4 * n + k) 0) := by
                  unfold prepB
                  rw [mB_getA (rkQ_len h hk (by omega)) boxL_len (by omega), rkQ_old h (by omega)]
                have p2 : (turL key n)[k]? = some ((turL key n).getD k 0) := get_lt (by omega)
                have x1 := binV_xorB ((rkN key n).getD (4 * n + k) 0) ((turL key n).getD k 0)
                have e4 : 16 + 4 * n - 16 + k = 4 * n + k := by omega
                have hs : List.take (16 + 4 * n + k) (prepB key n k) ++ [xorB ((rkN key n).getD (4 * n + k) 0) ((turL key n).getD k 0)] ++ List.drop (16 + 4 * n + k + 1) (prepB key n k) = prepB key n (k + 1) := by
                  rw [tsd _ (by omega)]
                  unfold prepB
                  rw [mB_setA (rkQ_len h hk (by omega)) boxL_len (by omega)]
                  congr 1
                  exact rkQ_step h hlt3 (by omega)
                simp only [lp_prep_1, pr1St, wx, wy, wz, stV, seval, IntWalk.iteOmega, IntWalk.toNatUp, reduceCtorEq, len_map, hl3, htl, get_map, e4, p1, p2, bC_d, x1, take_map, drop_map, cat3, hs]
                refine lop_next (k + 1) (by omega) (by omega) (ent_l (fun i => i) ?_ ?_ rfl (by simp [V.ids, W.ids, C.ids, Ob.ids, ids_bC])) <;> simp only [wx, wex, wez, stV, seval, IntWalk.iteOmega, IntWalk.toNatUp, reduceCtorEq, ren_bC, ids_bC]
              · obtain rfl : k = 4 := by omega
                have e5 : prepB key n 4 = prepB key (n + 1) 0 := by unfold prepB; rw [rkQ_next]
                have e6 : (n + 4) / 4 = (n + 1 + 3) / 4 := by omega
                simp only [lp_prep_1, pr1St, e5, e6, wx, wy, wz, stV, seval, IntWalk.iteOmega, IntWalk.toNatUp, reduceCtorEq]
                refine lop_next (n + 1) (by omega) (by omega) (ent_l (fun i => i) ?_ ?_ rfl (by simp [V.ids, W.ids, C.ids, Ob.ids, ids_bC])) <;> simp only [wx, wex, wez, stV, seval, IntWalk.iteOmega, IntWalk.toNatUp, reduceCtorEq, ren_bC, ids_bC]
                all_goals rw [show (16 + 4 * (n : Int) + 4) = 16 + 4 * ((n : Int) + 1) by omega]
          · have m16 : (16 + 4 * n) % 16 ≠ 0 := by omega
            have hb16 : (16 + 4 * n) % 16 < 16 := Nat.mod_lt _ (by decide)
            generalize (16 + 4 * n) % 16 = z at *
            have hT : [bD ((rkN key n).getD (12 + 4 * n) 0), bD ((rkN key n).getD (13 + 4 * n) 0), bD ((rkN key n).getD (14 + 4 * n) 0), bD ((rkN key n).getD (15 + 4 * n) 0)] = (turL key n).map bD := by
              unfold turL turnW
              rw [if_neg hm]
              have g : ∀ j, ((rkN key n).drop (12 + 4 * n)).getD j 0 = (rkN key n).getD (12 + 4 * n + j) 0 := fun j => by simp [List.getD_eq_getElem?_getD]
              simp only [g, List.map_cons, List.map_nil]
              rw [show 12 + 4 * n + 1 = 13 + 4 * n by omega, show 12 + 4 * n + 2 = 14 + 4 * n by omega, show 12 + 4 * n + 3 = 15 + 4 * n by omega]
              rfl
            have ecn : (n + 3) / 4 = (n + 4) / 4 := by omega
            simp only [lp_prep_2, pr2St, ecn, wx, wy, wz, stV, seval, IntWalk.iteOmega, IntWalk.toNatUp, reduceCtorEq, len_map, hl2, get_map, e0, e1, e2, e3, o0, o1, o2, o3, bC_d, tm, hT, htl0]
            refine loop_st (pr1St key n) (fun k => 4 - k) (fun k => k ≤ 4) 0 (Nat.zero_le _) ?_ ?_
            · refine ent_l (fun i => if i = 3 then 56 else i) ?_ ?_ rfl (by simp [V.ids, W.ids, C.ids, Ob.ids, ids_bC]) <;> simp only [wx, wex, wez, stV, seval, IntWalk.iteOmega, IntWalk.toNatUp, reduceCtorEq, ren_bC, ids_bC]
            · intro k hk
              have hl3 := prepB_len h (n := n) (k := k) hk (by omega)
              have htl := turL_len key n
              by_cases hlt3 : k < 4
              · have p1 : (prepB key n k)[4 * n + k]? = some ((rkN key n).getD (4 * n + k) 0) := by
                  unfold prepB
                  rw [mB_getA (rkQ_len h hk (by omega)) boxL_len (by omega), rkQ_old h (by omega)]
                have p2 : (turL key n)[k]? = some ((turL key n).getD k 0) := get_lt (by omega)
                have x1 := binV_xorB ((rkN key n).getD (4 * n + k) 0) ((turL key n).getD k 0)
                have e4 : 16 + 4 * n - 16 + k = 4 * n + k := by omega
                have hs : List.take (16 + 4 * n + k) (prepB key n k) ++ [xorB ((rkN key n).getD (4 * n + k) 0) ((turL key n).getD k 0)] ++ List.drop (16 + 4 * n + k + 1) (prepB key n k) = prepB key n (k + 1) := by
                  rw [tsd _ (by omega)]
                  unfold prepB
                  rw [mB_setA (rkQ_len h hk (by omega)) boxL_len (by omega)]
                  congr 1
                  exact rkQ_step h hlt3 (by omega)
                simp only [lp_prep_1, pr1St, wx, wy, wz, stV, seval, IntWalk.iteOmega, IntWalk.toNatUp, reduceCtorEq, len_map, hl3, htl, get_map, e4, p1, p2, bC_d, x1, take_map, drop_map, cat3, hs]
                refine lop_next (k + 1) (by omega) (by omega) (ent_l (fun i => i) ?_ ?_ rfl (by simp [V.ids, W.ids, C.ids, Ob.ids, ids_bC])) <;> simp only [wx, wex, wez, stV, seval, IntWalk.iteOmega, IntWalk.toNatUp, reduceCtorEq, ren_bC, ids_bC]
              · obtain rfl : k = 4 := by omega
                have e5 : prepB key n 4 = prepB key (n + 1) 0 := by unfold prepB; rw [rkQ_next]
                have e6 : (n + 4) / 4 = (n + 1 + 3) / 4 := by omega
                simp only [lp_prep_1, pr1St, e5, e6, wx, wy, wz, stV, seval, IntWalk.iteOmega, IntWalk.toNatUp, reduceCtorEq]
                refine lop_next (n + 1) (by omega) (by omega) (ent_l (fun i => i) ?_ ?_ rfl (by simp [V.ids, W.ids, C.ids, Ob.ids, ids_bC])) <;> simp only [wx, wex, wez, stV, seval, IntWalk.iteOmega, IntWalk.toNatUp, reduceCtorEq, ren_bC, ids_bC]
                all_goals rw [show (16 + 4 * (n : Int) + 4) = 16 + 4 * ((n : Int) + 1) by omega]
        · obtain rfl : n = 40 := by omega
          have e : prepB key 40 0 = macM4 key := by unfold prepB macM4; rw [rkQ_full]
          rw [e] at hl2
          have u1 : List.take 688 (macM4 key) = macM4 key := List.take_of_length_le (by omega)
          have r4 : List.drop 688 (repL 688 (0 : UInt8)) = [] := List.drop_eq_nil_of_le (by rw [repL_len]; omega)
          have r5 : macM4 key ++ List.drop (macM4 key).length (repL 688 (0 : UInt8)) = macM4 key := by rw [hl2, r4, List.append_nil]
          simp only [lp_prep_2, pr2St, e, wx, wy, wz, stV, seval, IntWalk.iteOmega, IntWalk.toNatUp, reduceCtorEq, len_map, hl2, u1, r4, r5, allD_bs, map_C, repL_len, take_map, drop_map, app_map, List.append_nil]
          exact ret_d1 (by simp only [wx, wy, wz, stV, seval, IntWalk.iteOmega, IntWalk.toNatUp, reduceCtorEq, len_map, hl2, u1, r4, r5, allD_bs, map_C, repL_len, take_map, drop_map, app_map, List.append_nil])
end Go.Proofs.Ytnadfnnkdnakhaa
