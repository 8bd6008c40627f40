/- Texts of one's own, merged: from: Layer 2 on data: bytes that follow from a number; the sanity check. Own work. -/
import Derived.Test.YtjgkchmdhicmpaaDoorMt7
set_option linter.unusedVariables false
set_option linter.unusedSimpArgs false
namespace Go.Proofs.YtjgkchmdhicmpaaDoor
open Go.RowKit

def withinN (v m : Int) : Int := if m < 1 then 0 else v % m
theorem withinN_range (v m : Int) (h : 1 ≤ m) : 0 ≤ withinN v m ∧ withinN v m < m := by
  unfold withinN
  rw [if_neg (by omega)]
  exact ⟨Int.emod_nonneg _ (by omega), Int.emod_lt_of_pos _ (by omega)⟩
theorem tmod_neg {v m : Int} (hm : 0 < m) (h : v.tmod m < 0) : v.tmod m + m = v % m := by
  have h1 := Int.emod_add_mul_ediv v m
  have h2 := Int.tmod_add_mul_tdiv v m
  have h3 := Int.emod_nonneg v (show m ≠ 0 by omega)
  have h4 := Int.emod_lt_of_pos v hm
  have h5 := Int.lt_tmod_of_pos v hm
  have e : m * (v.tdiv m - v / m) = v % m - v.tmod m := by rw [Int.mul_sub]; omega
  have k1 : v.tdiv m - v / m = 1 := by
    rcases Int.lt_trichotomy (v.tdiv m - v / m) 1 with hlt | heq | hgt
    · exfalso
      have : v.tdiv m - v / m ≤ 0 := by omega
      have := Int.mul_le_mul_of_nonneg_left this (show 0 ≤ m by omega)
      omega
    · exact heq
    · exfalso
      have : 2 ≤ v.tdiv m - v / m := by omega
      have := Int.mul_le_mul_of_nonneg_left this (show 0 ≤ m by omega)
      omega
  rw [k1] at e
  omega
theorem tmod_pos {v m : Int} (hm : 0 < m) (h : 0 ≤ v.tmod m) : v.tmod m = v % m := by
  have h1 := Int.emod_add_mul_ediv v m
  have h2 := Int.tmod_add_mul_tdiv v m
  have h3 := Int.emod_nonneg v (show m ≠ 0 by omega)
  have h4 := Int.emod_lt_of_pos v hm
  have h5 := Int.tmod_lt_of_pos v hm
  have e : m * (v.tdiv m - v / m) = v % m - v.tmod m := by rw [Int.mul_sub]; omega
  have k1 : v.tdiv m - v / m = 0 := by
    rcases Int.lt_trichotomy (v.tdiv m - v / m) 0 with hlt | heq | hgt
    · exfalso
      have : v.tdiv m - v / m ≤ -1 := by omega
      have := Int.mul_le_mul_of_nonneg_left this (show 0 ≤ m by omega)
      omega
    · exact heq
    · exfalso
      have : 1 ≤ v.tdiv m - v / m := by omega
      have := Int.mul_le_mul_of_nonneg_left this (show 0 ≤ m by omega)
      omega
  rw [k1] at e
  omega
def sf_within : SFn := ⟨2, 16,
  .seq (.reg [⟨(some 4), .mv (.k (.c (.d (.int .i64 0)))), none⟩])
  (.seq (.seq (.reg [⟨(some 5), .mv (.t 1), none⟩,
    ⟨(some 6), .bin .lss (.t 5) (.k (.c (.d (.int .i64 1)))), none⟩])
  (.cond (.t 6) (.seq (.reg [⟨(some 4), .mv (.k (.c (.d (.int .i64 0)))), none⟩])
   (.ret))
   (.skip)))
  (.seq (.reg [⟨(some 7), .mv (.t 0), none⟩,
    ⟨(some 8), .mv (.t 1), none⟩,
    ⟨(some 9), .bin .rem (.t 7) (.t 8), none⟩,
    ⟨(some 0), .mv (.t 9), none⟩])
  (.seq (.seq (.reg [⟨(some 10), .mv (.t 0), none⟩,
    ⟨(some 11), .bin .lss (.t 10) (.k (.c (.d (.int .i64 0)))), none⟩])
  (.cond (.t 11) (.reg [⟨(some 12), .mv (.t 0), none⟩,
     ⟨(some 13), .mv (.t 1), none⟩,
     ⟨(some 14), .bin .add (.t 12) (.t 13), none⟩,
     ⟨(some 0), .mv (.t 14), none⟩])
   (.skip)))
  (.seq (.reg [⟨(some 15), .mv (.t 0), none⟩,
    ⟨(some 4), .mv (.t 15), none⟩])
  (.ret))))),
  [(4, none)]⟩
theorem cf_within : compFn Tryd.prog { own := [], comp := [], frz := [], nils := [] } Tryd.f24 = some sf_within := by kernel_rfl
theorem within_c (G : Glob) (v m : Int) (hm : m ≤ 9223372036854775807) : Den Tryd.prog G 24 [.int .i64 v, .int .i64 m] (.w (.c (.d (.int .i64 (withinN v m))))) := by
  refine den_walk Tryd.func24 cf_within rfl rfl ?_
  unfold withinN
  by_cases h : m < 1
  · rw [if_pos h]
    simp only [sf_within, putAll, wx, wy, wz, stV, seval, IntWalk.iteOmega, IntWalk.toNatUp, reduceCtorEq]
    exact ret_d1 (by simp only [wx, wy, wz, stV, seval, IntWalk.iteOmega, IntWalk.toNatUp, reduceCtorEq])
  · rw [if_neg h]
    have hne : ¬ m = 0 := by omega
    have h4 := Int.tmod_lt_of_pos v (show 0 < m by omega)
    by_cases hn : v.tmod m < 0
    · have e := tmod_neg (by omega) hn
      have h3 := Int.emod_lt_of_pos v (show 0 < m by omega)
      have h5 := Int.emod_nonneg v (show m ≠ 0 by omega)
      simp only [sf_within, putAll, wx, wy, wz, stV, seval, IntWalk.iteOmega, IntWalk.toNatUp, reduceCtorEq, hne]
      exact ret_d1 (by simp only [wx, wy, wz, stV, seval, IntWalk.iteOmega, IntWalk.toNatUp, reduceCtorEq, e])
    · have e := tmod_pos (v := v) (show 0 < m by omega) (by omega)
      simp only [sf_within, putAll, wx, wy, wz, stV, seval, IntWalk.iteOmega, IntWalk.toNatUp, reduceCtorEq, hne]
      exact ret_d1 (by simp only [wx, wy, wz, stV, seval, IntWalk.iteOmega, IntWalk.toNatUp, reduceCtorEq, e])

/-! ### Bytes of a number -/
def hashAt (s i : Nat) : List UInt8 := sumK (putL s 8 ++ putL i 4)
def bytesN (s : Nat) (k : Nat) : List UInt8 := ((List.range k).map (hashAt s)).flatten
theorem bytesN_succ (s k : Nat) : bytesN s k ++ hashAt s k = bytesN s (k + 1) := by simp [bytesN, List.range_succ]
theorem bytesN_len (s : Nat) : ∀ k, (bytesN s k).length = 32 * k
  | 0 => rfl
  | k + 1 => by rw [← bytesN_succ, List.length_append, bytesN_len s k]; unfold hashAt; rw [sumK_len]; omega
def bytesK (seed n : Int) : List UInt8 := (bytesN (seed % 18446744073709551616).toNat ((n.toNat + 31) / 32)).take n.toNat
theorem bytesK_len (seed n : Int) : (bytesK seed n).length = n.toNat := by
  unfold bytesK; rw [List.length_take, bytesN_len]; omega
def byLSt (seed n : Int) (s : Nat) (k : Nat) : St := ⟨ofL [(0, .w (.c (.d (.int .i64 seed)))), (1, .w (.c (.d (.int .i64 n)))), (5, .w (.c (.own 1 1 0 (bytesN s k).length))), (6, .w (.c (.d (.int .i64 (k : Int)))))], hL [(1, .row 1 ((bytesN s k).map bD))], uL [1]⟩
def lp_wbytes_0 : SCode :=
  .seq (.seq (.reg [⟨(some 8), .mv (.t 5), none⟩,
    ⟨(some 9), .len (.t 8), none⟩,
    ⟨(some 10), .mv (.t 1), none⟩,
    ⟨(some 11), .bin .lss (.t 9) (.t 10), none⟩])
  (.cond (.t 11) (.skip)
   (.exit 0)))
  (.seq (.block 1 (.reg [⟨(some 14), .mv (.t 5), none⟩,
     ⟨(some 15), .mv (.t 0), none⟩,
     ⟨(some 16), .conv .u64 (.t 15), none⟩,
     ⟨(some 17), .call 51 [(.t 16), (.k (.c (.d (.int .i64 8))))] none, none⟩,
     ⟨(some 18), .mv (.t 6), none⟩,
     ⟨(some 19), .conv .u64 (.t 18), none⟩,
     ⟨(some 20), .call 51 [(.t 19), (.k (.c (.d (.int .i64 4))))] none, none⟩,
     ⟨(some 21), .bldSl false 2 1 (.sl []) [(0, (.t 17)), (1, (.t 20))], none⟩,
     ⟨(some 22), .call 41 [(.t 21)] none, none⟩,
     ⟨(some 23), .call 61 [(.t 22)] none, none⟩,
     ⟨(some 24), .app false 1 1 (.t 14) (.t 23), none⟩,
     ⟨(some 5), .mv (.t 24), none⟩]))
  (.reg [⟨(some 12), .mv (.t 6), none⟩,
    ⟨(some 13), .bin .add (.t 12) (.k (.c (.d (.int .i64 1)))), none⟩,
    ⟨(some 6), .mv (.t 13), none⟩]))
def sf_wbytes : SFn := ⟨2, 29,
  .seq (.reg [⟨(some 4), .mv (.k (.c .nil)), none⟩])
  (.seq (.reg [⟨(some 7), .bldSl true 0 1 (.int .u8 0) [], none⟩,
    ⟨(some 5), .mv (.t 7), none⟩])
  (.seq (.seq (.reg [⟨(some 6), .mv (.k (.c (.d (.int .i64 0)))), none⟩])
  (.block 0 (.loop lp_wbytes_0)))
  (.seq (.reg [⟨(some 25), .mv (.t 5), none⟩,
    ⟨(some 26), .mv (.t 1), none⟩,
    ⟨(some 27), .max [(.t 26), (.k (.c (.d (.int .i64 0))))], none⟩,
    ⟨(some 28), .slice 1 (.t 25) none (some (.t 27)) none, none⟩,
    ⟨(some 4), .mv (.t 28), none⟩])
  (.ret)))),
  [(4, none)]⟩
theorem cf_wbytes : compFn Tryd.prog { own := [7], comp := [], frz := [], nils := [] } Tryd.f27 = some sf_wbytes := by kernel_rfl
set_option maxHeartbeats 1600000 in
theorem wbytes_f (G : Glob) (seed n : Int) (hn : n ≤ 1099511627776) : Den Tryd.prog G 27 [.int .i64 seed, .int .i64 n] (.w (.c (.fr 1 ((bytesK seed n).map bD)))) := by
  refine den_walk Tryd.func27 cf_wbytes rfl rfl ?_
  obtain ⟨s, hs⟩ : ∃ s : Nat, (seed % 18446744073709551616).toNat = s := ⟨_, rfl⟩
  have hw : IntKind.u64.wrap seed = (s : Int) := by rw [IntKind.wrap_u64, ← hs]; omega
  have hs2 : s < 18446744073709551616 := by omega
  have hK : bytesK seed n = (bytesN s ((n.toNat + 31) / 32)).take n.toNat := by unfold bytesK; rw [hs]
  rw [hK]
  simp only [sf_wbytes, putAll, wx, wy, wz, stV, seval, IntWalk.iteOmega, IntWalk.toNatUp, reduceCtorEq]
  refine loop_st (byLSt seed n s) (fun k => (n.toNat + 31) / 32 - k) (fun k => k ≤ (n.toNat + 31) / 32) 0 (Nat.zero_le _) ?_ ?_
  · refine ent_l (fun _ => 56) ?_ ?_ rfl rfl <;> simp only [wx, wex, wez, stV, seval, IntWalk.iteOmega, IntWalk.toNatUp, reduceCtorEq] <;> rfl
  · intro k hk
    have hl := bytesN_len s k
    by_cases hlt : k < (n.toNat + 31) / 32
    · have hc : ((bytesN s k).length : Int) < n := by omega
      have hj := rjoin_c G [putL s 8, putL k 4] (by simp) (by simp [putL_length])
      have hf : [putL s 8, putL k 4].flatten = putL s 8 ++ putL k 4 := by simp
      rw [hf] at hj
      have hb := bytesN_succ s k
      have hk2 : IntKind.u64.wrap (k : Int) = (k : Int) := u64_in _ (by omega) (by omega)
      simp only [lp_wbytes_0, byLSt, wx, wy, stV, seval, IntWalk.iteOmega, IntWalk.toNatUp, reduceCtorEq, hw, hk2]
      refine st_call (rput_in G s 8 (by decide)) rfl (.inl rfl) ?_
      simp only [wx, wy, stV, seval, IntWalk.iteOmega, IntWalk.toNatUp, reduceCtorEq, hw, hk2]
      refine st_call (rput_in G k 4 (by decide)) rfl (.inl rfl) ?_
      simp only [wx, wy, stV, seval, IntWalk.iteOmega, IntWalk.toNatUp, reduceCtorEq]
      refine st_call hj rfl (.inl rfl) ?_
      simp only [wx, wy, stV, seval, IntWalk.iteOmega, IntWalk.toNatUp, reduceCtorEq]
      refine st_call (rsum_c G (putL s 8 ++ putL k 4) (by simp [putL_length])) rfl (.inl rfl) ?_
      have hh : (sumK (putL s 8 ++ putL k 4)).length = 32 := sumK_len _
      have hb' : bytesN s k ++ sumK (putL s 8 ++ putL k 4) = bytesN s (k + 1) := hb
      simp only [wx, wy, wz, stV, seval, IntWalk.iteOmega, IntWalk.toNatUp, reduceCtorEq, srcV, app_map, hb', hh]
      refine lop_next (k + 1) (by omega) (by omega) (ent_l (fun _ => 192) ?_ ?_ rfl rfl) <;> simp only [wx, wex, wez, stV, seval, IntWalk.iteOmega, IntWalk.toNatUp, reduceCtorEq]
    · obtain rfl : k = (n.toNat + 31) / 32 := by omega
      have hc : ¬ ((bytesN s ((n.toNat + 31) / 32)).length : Int) < n := by omega
      by_cases h0 : n < 0
      · have e0 : n.toNat = 0 := by omega
        simp only [lp_wbytes_0, byLSt, wx, wy, wz, stV, seval, IntWalk.iteOmega, IntWalk.toNatUp, reduceCtorEq, hc, List.foldl_cons, List.foldl_nil]
        rw [e0, List.map_take]
        exact ret_ownN (id := 1) (s := 1) (by simp only [wx, stV, seval, IntWalk.iteOmega, IntWalk.toNatUp, reduceCtorEq]) (by simp only [wx, stV, seval, IntWalk.iteOmega, IntWalk.toNatUp, reduceCtorEq]) (Nat.zero_le _)
      · simp only [lp_wbytes_0, byLSt, wx, wy, wz, stV, seval, IntWalk.iteOmega, IntWalk.toNatUp, reduceCtorEq, hc, List.foldl_cons, List.foldl_nil]
        rw [List.map_take]
        exact ret_ownN (id := 1) (s := 1) (by simp only [wx, stV, seval, IntWalk.iteOmega, IntWalk.toNatUp, reduceCtorEq]) (by simp only [wx, stV, seval, IntWalk.iteOmega, IntWalk.toNatUp, reduceCtorEq]) (by rw [List.length_map, bytesN_len]; omega)
theorem wbytes_c (G : Glob) (seed n : Int) (hn : n ≤ 1099511627776) : Den Tryd.prog G 27 [.int .i64 seed, .int .i64 n] (.w (.c (.d (.sl ((bytesK seed n).map bD))))) := den_ro (wbytes_f G seed n hn)

/-! ### The sanity check -/
theorem abc_hex : hexL (sumK [97, 98, 99]) = [98, 97, 55, 56, 49, 54, 98, 102, 56, 102, 48, 49, 99, 102, 101, 97, 52, 49, 52, 49, 52, 48, 100, 101, 53, 100, 97, 101, 50, 50, 50, 51, 98, 48, 48, 51, 54, 49, 97, 51, 57, 54, 49, 55, 55, 97, 57, 99, 98, 52, 49, 48, 102, 102, 54, 49, 102, 50, 48, 48, 49, 53, 97, 100] := by decide +kernel
end Go.Proofs.YtjgkchmdhicmpaaDoor
set_option linter.unusedVariables false
set_option linter.unusedSimpArgs false
namespace Go.Proofs.YtjgkchmdhicmpaaDoor
open Go.RowKit

theorem word_w {p : List UInt8} {t : Nat} {w : UInt32} (h0 : (p.getD (4 * t) 0).toNat = w.toNat / 16777216 % 256) (h1 : (p.getD (4 * t + 1) 0).toNat = w.toNat / 65536 % 256) (h2 : (p.getD (4 * t + 2) 0).toNat = w.toNat / 256 % 256) (h3 : (p.getD (4 * t + 3) 0).toNat = w.toNat % 256) : wordAt p t = w := by
  have := w.toNat_lt
  rw [← UInt32.toNat_inj, wordAt_nat, h0, h1, h2, h3]
  omega
theorem word_k {p : List UInt8} {t : Nat} {w : UInt32} {a b c d : UInt8} (h0 : p.getD (4 * t) 0 = a) (h1 : p.getD (4 * t + 1) 0 = b) (h2 : p.getD (4 * t + 2) 0 = c) (h3 : p.getD (4 * t + 3) 0 = d) (hc : ((a.toNat * 256 + b.toNat) * 256 + c.toNat) * 256 + d.toNat = w.toNat) : wordAt p t = w := by
  rw [← UInt32.toNat_inj, wordAt_nat, h0, h1, h2, h3, hc]
/-! ### Bytes of a number -/
def bytP (x : UInt32) : List UInt8 := (putL x.toNat 8 ++ putL 0 4) ++ tailK 12
def bytW (x : UInt32) : List UInt32 := blockK firstK ((bytP x).take 64)
theorem putL_8 (x : UInt32) : putL x.toNat 8 = 0 :: 0 :: 0 :: 0 :: b4 x := by
  have hx := x.toNat_lt
  have z : ∀ k, 4294967296 ≤ k → UInt8.ofNat (x.toNat / k) = 0 := fun k hk => by
    rw [Nat.div_eq_of_lt (by omega)]; rfl
  have e : putL x.toNat 8 = [UInt8.ofNat (x.toNat / 72057594037927936), UInt8.ofNat (x.toNat / 281474976710656), UInt8.ofNat (x.toNat / 1099511627776), UInt8.ofNat (x.toNat / 4294967296)] ++ putL x.toNat 4 := rfl
  rw [e, putL_b4, z _ (by decide), z _ (by decide), z _ (by decide), z _ (by decide)]; rfl
theorem byt_w (x : UInt32) : hashAt x.toNat 0 = wordsB (bytW x) := by
  have h1 : (putL x.toNat 8 ++ putL 0 4).length = 12 := by simp [putL_length]
  unfold hashAt
  rw [sum_fold, h1]; rfl
set_option maxRecDepth 20000 in
theorem byt_p (x : UInt32) : (bytP x).take 64 = 0 :: 0 :: 0 :: 0 :: UInt8.ofNat (x.toNat / 16777216) :: UInt8.ofNat (x.toNat / 65536) :: UInt8.ofNat (x.toNat / 256) :: UInt8.ofNat x.toNat :: 0 :: 0 :: 0 :: 0 :: 128 :: 0 :: 0 :: 0 :: 0 :: 0 :: 0 :: 0 :: 0 :: 0 :: 0 :: 0 :: 0 :: 0 :: 0 :: 0 :: 0 :: 0 :: 0 :: 0 :: 0 :: 0 :: 0 :: 0 :: 0 :: 0 :: 0 :: 0 :: 0 :: 0 :: 0 :: 0 :: 0 :: 0 :: 0 :: 0 :: 0 :: 0 :: 0 :: 0 :: 0 :: 0 :: 0 :: 0 :: 0 :: 0 :: 0 :: 0 :: 0 :: 0 :: 0 :: 96 :: [] := by
  have ht : tailK 12 = 128 :: (List.replicate 50 0 ++ [96]) := by decide
  have hz : putL 0 4 = [0, 0, 0, 0] := by decide
  have e : bytP x = 0 :: 0 :: 0 :: 0 :: UInt8.ofNat (x.toNat / 16777216) :: UInt8.ofNat (x.toNat / 65536) :: UInt8.ofNat (x.toNat / 256) :: UInt8.ofNat x.toNat :: 0 :: 0 :: 0 :: 0 :: 128 :: 0 :: 0 :: 0 :: 0 :: 0 :: 0 :: 0 :: 0 :: 0 :: 0 :: 0 :: 0 :: 0 :: 0 :: 0 :: 0 :: 0 :: 0 :: 0 :: 0 :: 0 :: 0 :: 0 :: 0 :: 0 :: 0 :: 0 :: 0 :: 0 :: 0 :: 0 :: 0 :: 0 :: 0 :: 0 :: 0 :: 0 :: 0 :: 0 :: 0 :: 0 :: 0 :: 0 :: 0 :: 0 :: 0 :: 0 :: 0 :: 0 :: 0 :: 96 :: [] := by
    unfold bytP
    rw [putL_8, ht, hz]
    simp only [b4, List.cons_append, List.nil_append, List.replicate]
  rw [e]; rfl
set_option maxRecDepth 20000 in
theorem byt_z (x : UInt32) : ∀ t, t < 15 → t ≠ 1 → t ≠ 3 → wordAt ((bytP x).take 64) t = 0 := by
  intro t h1 h2 h3
  rw [byt_p]
  have : t = 0 ∨ t = 2 ∨ t = 4 ∨ t = 5 ∨ t = 6 ∨ t = 7 ∨ t = 8 ∨ t = 9 ∨ t = 10 ∨ t = 11 ∨ t = 12 ∨ t = 13 ∨ t = 14 := by omega
  rcases this with rfl | rfl | rfl | rfl | rfl | rfl | rfl | rfl | rfl | rfl | rfl | rfl | rfl <;> exact word_z rfl rfl rfl rfl
set_option maxRecDepth 20000 in
theorem byt_1 (x : UInt32) : wordAt ((bytP x).take 64) 1 = x := by
  rw [byt_p]; exact word_w (n3 _) (n2 _) (n1 _) (n0 _)
set_option maxRecDepth 20000 in
theorem byt_3 (x : UInt32) : wordAt ((bytP x).take 64) 3 = 2147483648 := by
  rw [byt_p]; exact word_k (a := 128) (b := 0) (c := 0) (d := 0) rfl rfl rfl rfl (by decide)
set_option maxRecDepth 20000 in
theorem byt_e (x : UInt32) : wordAt ((bytP x).take 64) 15 = 96 := by
  rw [byt_p]; exact word_c rfl rfl rfl rfl rfl
noncomputable def bytL (one m X : Nat) : E8 := blkN one m (fstL one) 0 X 0 (Nat.mul 2147483648 one) 0 0 0 0 0 0 0 0 0 0 0 (Nat.mul 96 one)
theorem bytL_pw (x : Nat → UInt32) (L : Nat) : bytL (oneL L) (mskL L) (pw x L) = e8H (fun s => bytW (x s)) L := by
  have g := blk_pw (fun _ => firstK) (fun s => (bytP (x s)).take 64) L
  have z : ∀ t, t < 15 → t ≠ 1 → t ≠ 3 → (fun s => wordAt ((bytP (x s)).take 64) t) = fun _ => 0 := fun t h1 h2 h3 => funext fun s => byt_z (x s) t h1 h2 h3
  have v1 : (fun s => wordAt ((bytP (x s)).take 64) 1) = x := funext fun s => byt_1 (x s)
  have v3 : (fun s => wordAt ((bytP (x s)).take 64) 3) = fun _ => 2147483648 := funext fun s => byt_3 (x s)
  have ve : (fun s => wordAt ((bytP (x s)).take 64) 15) = fun _ => 96 := funext fun s => byt_e (x s)
  have c2 : Nat.mul 2147483648 (oneL L) = pw (fun _ => 2147483648) L := con_pw 2147483648 L
  have c3 : Nat.mul 96 (oneL L) = pw (fun _ => 96) L := con_pw 96 L
  rw [v1, v3, ve, z 0 (by decide) (by decide) (by decide), z 2 (by decide) (by decide) (by decide), z 4 (by decide) (by decide) (by decide), z 5 (by decide) (by decide) (by decide), z 6 (by decide) (by decide) (by decide), z 7 (by decide) (by decide) (by decide), z 8 (by decide) (by decide) (by decide), z 9 (by decide) (by decide) (by decide), z 10 (by decide) (by decide) (by decide), z 11 (by decide) (by decide) (by decide), z 12 (by decide) (by decide) (by decide), z 13 (by decide) (by decide) (by decide), z 14 (by decide) (by decide) (by decide), ← zero_pw, ← fst_pw] at g
  unfold bytL
  rw [c2, c3]
  exact g
/-! ### Leaves -/
def leaP (h : List UInt32) : List UInt8 := (0 :: (wordsB h).take 20) ++ tailK 21
def leaW (h : List UInt32) : List UInt32 := blockK firstK ((leaP h).take 64)
theorem lea_w {h : List UInt32} (hh : h.length = 8) : leafM ((wordsB h).take 20) = wordsB (leaW h) := by
  have h1 : (0 :: (wordsB h).take 20).length = 21 := by simp [wordsB_len, hh]
  unfold leafM
  rw [sum_fold, h1]; rfl
set_option maxRecDepth 20000 in
theorem lea_p (h0 h1 h2 h3 h4 h5 h6 h7 : UInt32) : (leaP [h0, h1, h2, h3, h4, h5, h6, h7]).take 64 = 0 :: UInt8.ofNat (h0.toNat / 16777216) :: UInt8.ofNat (h0.toNat / 65536) :: UInt8.ofNat (h0.toNat / 256) :: UInt8.ofNat h0.toNat :: UInt8.ofNat (h1.toNat / 16777216) :: UInt8.ofNat (h1.toNat / 65536) :: UInt8.ofNat (h1.toNat / 256) :: UInt8.ofNat h1.toNat :: UInt8.ofNat (h2.toNat / 16777216) :: UInt8.ofNat (h2.toNat / 65536) :: UInt8.ofNat (h2.toNat / 256) :: UInt8.ofNat h2.toNat :: UInt8.ofNat (h3.toNat / 16777216) :: UInt8.ofNat (h3.toNat / 65536) :: UInt8.ofNat (h3.toNat / 256) :: UInt8.ofNat h3.toNat :: UInt8.ofNat (h4.toNat / 16777216) :: UInt8.ofNat (h4.toNat / 65536) :: UInt8.ofNat (h4.toNat / 256) :: UInt8.ofNat h4.toNat :: 128 :: 0 :: 0 :: 0 :: 0 :: 0 :: 0 :: 0 :: 0 :: 0 :: 0 :: 0 :: 0 :: 0 :: 0 :: 0 :: 0 :: 0 :: 0 :: 0 :: 0 :: 0 :: 0 :: 0 :: 0 :: 0 :: 0 :: 0 :: 0 :: 0 :: 0 :: 0 :: 0 :: 0 :: 0 :: 0 :: 0 :: 0 :: 0 :: 0 :: 0 :: 0 :: 168 :: [] := by
  have ht : tailK 21 = 128 :: (List.replicate 41 0 ++ [168]) := by decide
  have e : leaP [h0, h1, h2, h3, h4, h5, h6, h7] = 0 :: UInt8.ofNat (h0.toNat / 16777216) :: UInt8.ofNat (h0.toNat / 65536) :: UInt8.ofNat (h0.toNat / 256) :: UInt8.ofNat h0.toNat :: UInt8.ofNat (h1.toNat / 16777216) :: UInt8.ofNat (h1.toNat / 65536) :: UInt8.ofNat (h1.toNat / 256) :: UInt8.ofNat h1.toNat :: UInt8.ofNat (h2.toNat / 16777216) :: UInt8.ofNat (h2.toNat / 65536) :: UInt8.ofNat (h2.toNat / 256) :: UInt8.ofNat h2.toNat :: UInt8.ofNat (h3.toNat / 16777216) :: UInt8.ofNat (h3.toNat / 65536) :: UInt8.ofNat (h3.toNat / 256) :: UInt8.ofNat h3.toNat :: UInt8.ofNat (h4.toNat / 16777216) :: UInt8.ofNat (h4.toNat / 65536) :: UInt8.ofNat (h4.toNat / 256) :: UInt8.ofNat h4.toNat :: 128 :: 0 :: 0 :: 0 :: 0 :: 0 :: 0 :: 0 :: 0 :: 0 :: 0 :: 0 :: 0 :: 0 :: 0 :: 0 :: 0 :: 0 :: 0 :: 0 :: 0 :: 0 :: 0 :: 0 :: 0 :: 0 :: 0 :: 0 :: 0 :: 0 :: 0 :: 0 :: 0 :: 0 :: 0 :: 0 :: 0 :: 0 :: 0 :: 0 :: 0 :: 0 :: 168 :: [] := by
    unfold leaP
    rw [wordsB_8, ht]
    simp only [b4, List.cons_append, List.nil_append, List.replicate, List.take_succ_cons, List.take_zero]
  rw [e]; rfl
set_option maxRecDepth 20000 in
theorem lea_w1 (h0 h1 h2 h3 h4 h5 h6 h7 : UInt32) : ∀ t, t < 6 → wordAt ((leaP [h0, h1, h2, h3, h4, h5, h6, h7]).take 64) t = shW ([0, h0, h1, h2, h3, h4].getD t 0) ([h0, h1, h2, h3, h4, 2147483648].getD t 0) := by
  intro t ht
  rw [lea_p]
  have : t = 0 ∨ t = 1 ∨ t = 2 ∨ t = 3 ∨ t = 4 ∨ t = 5 := by omega
  rcases this with rfl | rfl | rfl | rfl | rfl | rfl
  · exact sh_word rfl (n3 _) (n2 _) (n1 _)
  · exact sh_word (n0 _) (n3 _) (n2 _) (n1 _)
  · exact sh_word (n0 _) (n3 _) (n2 _) (n1 _)
  · exact sh_word (n0 _) (n3 _) (n2 _) (n1 _)
  · exact sh_word (n0 _) (n3 _) (n2 _) (n1 _)
  · exact sh_word (b := 2147483648) (n0 _) (show (128 : UInt8).toNat = (2147483648 : UInt32).toNat / 16777216 % 256 by decide) (show (0 : UInt8).toNat = (2147483648 : UInt32).toNat / 65536 % 256 by decide) (show (0 : UInt8).toNat = (2147483648 : UInt32).toNat / 256 % 256 by decide)
set_option maxRecDepth 20000 in
theorem lea_z (h0 h1 h2 h3 h4 h5 h6 h7 : UInt32) : ∀ t, 6 ≤ t → t < 15 → wordAt ((leaP [h0, h1, h2, h3, h4, h5, h6, h7]).take 64) t = 0 := by
  intro t h1 h2
  rw [lea_p]
  have : t = 6 ∨ t = 7 ∨ t = 8 ∨ t = 9 ∨ t = 10 ∨ t = 11 ∨ t = 12 ∨ t = 13 ∨ t = 14 := by omega
  rcases this with rfl | rfl | rfl | rfl | rfl | rfl | rfl | rfl | rfl <;> exact word_z rfl rfl rfl rfl
set_option maxRecDepth 20000 in
theorem lea_e (h0 h1 h2 h3 h4 h5 h6 h7 : UInt32) : wordAt ((leaP [h0, h1, h2, h3, h4, h5, h6, h7]).take 64) 15 = 168 := by
  rw [lea_p]; exact word_c rfl rfl rfl rfl rfl
noncomputable def leaG (one m a0 a1 a2 a3 a4 : Nat) : E8 := blkN one m (fstL one) (shL one 0 a0) (shL one a0 a1) (shL one a1 a2) (shL one a2 a3) (shL one a3 a4) (shL one a4 (Nat.mul 2147483648 one)) 0 0 0 0 0 0 0 0 0 (Nat.mul 168 one)
noncomputable def leaL (one m : Nat) (s : E8) : E8 := E8.rec (fun a0 a1 a2 a3 a4 _ _ _ => leaG one m a0 a1 a2 a3 a4) s
theorem leaL_mk (one m a0 a1 a2 a3 a4 a5 a6 a7 : Nat) : leaL one m (E8.mk a0 a1 a2 a3 a4 a5 a6 a7) = leaG one m a0 a1 a2 a3 a4 := rfl
theorem leaL_pw (A : Nat → List UInt32) (hA : ∀ s, (A s).length = 8) (L : Nat) : leaL (oneL L) (mskL L) (e8H A L) = e8H (fun s => leaW (A s)) L := by
  have hx : ∀ X : List UInt32, X.length = 8 → X = [X.getD 0 0, X.getD 1 0, X.getD 2 0, X.getD 3 0, X.getD 4 0, X.getD 5 0, X.getD 6 0, X.getD 7 0] := fun X h => by
    match X, h with
    | [_, _, _, _, _, _, _, _], _ => rfl
  have g := blk_pw (fun _ => firstK) (fun s => (leaP (A s)).take 64) L
  have w1 : ∀ t, t < 6 → (fun s => wordAt ((leaP (A s)).take 64) t) = fun s => shW ([0, (A s).getD 0 0, (A s).getD 1 0, (A s).getD 2 0, (A s).getD 3 0, (A s).getD 4 0].getD t 0) ([(A s).getD 0 0, (A s).getD 1 0, (A s).getD 2 0, (A s).getD 3 0, (A s).getD 4 0, 2147483648].getD t 0) := fun t ht => funext fun s => by
    rw [hx _ (hA s)]
    exact lea_w1 _ _ _ _ _ _ _ _ t ht
  have z : ∀ t, 6 ≤ t → t < 15 → (fun s => wordAt ((leaP (A s)).take 64) t) = fun _ => 0 := fun t h1 h2 => funext fun s => by
    rw [hx _ (hA s)]
    exact lea_z _ _ _ _ _ _ _ _ t h1 h2
  have ve : (fun s => wordAt ((leaP (A s)).take 64) 15) = fun _ => 168 := funext fun s => by
    rw [hx _ (hA s)]
    exact lea_e _ _ _ _ _ _ _ _
  have v0 : (fun s => wordAt ((leaP (A s)).take 64) 0) = fun s => shW (0) ((A s).getD 0 0) := w1 0 (by decide)
  have v1 : (fun s => wordAt ((leaP (A s)).take 64) 1) = fun s => shW ((A s).getD 0 0) ((A s).getD 1 0) := w1 1 (by decide)
  have v2 : (fun s => wordAt ((leaP (A s)).take 64) 2) = fun s => shW ((A s).getD 1 0) ((A s).getD 2 0) := w1 2 (by decide)
  have v3 : (fun s => wordAt ((leaP (A s)).take 64) 3) = fun s => shW ((A s).getD 2 0) ((A s).getD 3 0) := w1 3 (by decide)
  have v4 : (fun s => wordAt ((leaP (A s)).take 64) 4) = fun s => shW ((A s).getD 3 0) ((A s).getD 4 0) := w1 4 (by decide)
  have v5 : (fun s => wordAt ((leaP (A s)).take 64) 5) = fun s => shW ((A s).getD 4 0) (2147483648) := w1 5 (by decide)
  rw [v0, v1, v2, v3, v4, v5, ve, z 6 (by decide) (by decide), z 7 (by decide) (by decide), z 8 (by decide) (by decide), z 9 (by decide) (by decide), z 10 (by decide) (by decide), z 11 (by decide) (by decide), z 12 (by decide) (by decide), z 13 (by decide) (by decide), z 14 (by decide) (by decide), ← zero_pw, ← fst_pw] at g
  have s0 := shL_pw (fun _ => (0 : UInt32)) (fun s => (A s).getD 0 0) L
  have s1 := shL_pw (fun s => (A s).getD 0 0) (fun s => (A s).getD 1 0) L
  have s2 := shL_pw (fun s => (A s).getD 1 0) (fun s => (A s).getD 2 0) L
  have s3 := shL_pw (fun s => (A s).getD 2 0) (fun s => (A s).getD 3 0) L
  have s4 := shL_pw (fun s => (A s).getD 3 0) (fun s => (A s).getD 4 0) L
  have s5 := shL_pw (fun s => (A s).getD 4 0) (fun _ => (2147483648 : UInt32)) L
  rw [← zero_pw] at s0
  have c2 : Nat.mul 2147483648 (oneL L) = pw (fun _ => 2147483648) L := con_pw 2147483648 L
  have c3 : Nat.mul 168 (oneL L) = pw (fun _ => 168) L := con_pw 168 L
  have m := leaL_mk (oneL L) (mskL L) (pw (fun s => (A s).getD 0 0) L) (pw (fun s => (A s).getD 1 0) L) (pw (fun s => (A s).getD 2 0) L) (pw (fun s => (A s).getD 3 0) L) (pw (fun s => (A s).getD 4 0) L) (pw (fun s => (A s).getD 5 0) L) (pw (fun s => (A s).getD 6 0) L) (pw (fun s => (A s).getD 7 0) L)
  have eA : e8H A L = E8.mk (pw (fun s => (A s).getD 0 0) L) (pw (fun s => (A s).getD 1 0) L) (pw (fun s => (A s).getD 2 0) L) (pw (fun s => (A s).getD 3 0) L) (pw (fun s => (A s).getD 4 0) L) (pw (fun s => (A s).getD 5 0) L) (pw (fun s => (A s).getD 6 0) L) (pw (fun s => (A s).getD 7 0) L) := rfl
  rw [eA, m]
  unfold leaG
  rw [c2, c3, s0, s1, s2, s3, s4, s5]
  exact g
end Go.Proofs.YtjgkchmdhicmpaaDoor
set_option linter.unusedVariables false
set_option linter.unusedSimpArgs false
namespace Go.Proofs.YtjgkchmdhicmpaaDoor
open Go.RowKit

inductive Tr where
  | lf (c : Nat)
  | nd (a b : Tr)
deriving DecidableEq
def evW (x : Nat → List UInt32) : Tr → List UInt32
  | .lf c => x c
  | .nd a b => nodW (evW x a) (evW x b)
def evM (x : Nat → List UInt8) : Tr → List UInt8
  | .lf c => leafM (x c)
  | .nd a b => nodeM (evM x a) (evM x b)
theorem evW_len {x : Nat → List UInt32} (hx : ∀ c, (x c).length = 8) : ∀ t, (evW x t).length = 8
  | .lf c => hx c
  | .nd _ _ => blockK_len _ _
theorem evM_W {x : Nat → List UInt8} {X : Nat → List UInt32} (hX : ∀ c, (X c).length = 8) (h : ∀ c, leafM (x c) = wordsB (X c)) : ∀ t, evM x t = wordsB (evW X t)
  | .lf c => h c
  | .nd a b => by rw [evM, evM_W hX h a, evM_W hX h b, node_w (evW_len hX a) (evW_len hX b)]; rfl
/-- Trees in which one leaf is another one. -/
def othL (c : Nat) : List Nat := (List.range 7).filter (fun b => b != c)
def subs : Tr → List Tr
  | .lf c => (othL c).map .lf
  | .nd a b => (subs a).map (fun u => .nd u b) ++ (subs b).map (fun u => .nd a u)
noncomputable def evL (one m : Nat) (lv : Nat → E8) (t : Tr) : E8 := @Tr.rec (fun _ => E8) lv (fun _ _ x y => nodL one m x y) t
theorem evL_nd (one m : Nat) (lv : Nat → E8) (a b : Tr) : evL one m lv (.nd a b) = nodL one m (evL one m lv a) (evL one m lv b) := rfl
noncomputable def flL (one m : Nat) (lv : Nat → E8) (t : Tr) : E8 × List E8 := @Tr.rec (fun _ => E8 × List E8) (fun c => (lv c, (othL c).map lv)) (fun _ _ x y => (nodL one m x.1 y.1, x.2.map (fun u => nodL one m u y.1) ++ y.2.map (fun u => nodL one m x.1 u))) t
theorem flL_nd (one m : Nat) (lv : Nat → E8) (a b : Tr) : flL one m lv (.nd a b) = (nodL one m (flL one m lv a).1 (flL one m lv b).1, (flL one m lv a).2.map (fun u => nodL one m u (flL one m lv b).1) ++ (flL one m lv b).2.map (fun u => nodL one m (flL one m lv a).1 u)) := rfl
theorem fl_eq (one m : Nat) (lv : Nat → E8) : ∀ t, flL one m lv t = (evL one m lv t, (subs t).map (evL one m lv))
  | .lf c => by
    show (lv c, (othL c).map lv) = (lv c, ((othL c).map Tr.lf).map (evL one m lv))
    rw [List.map_map]; rfl
  | .nd a b => by
    rw [flL_nd, fl_eq one m lv a, fl_eq one m lv b, evL_nd, subs, List.map_append, List.map_map, List.map_map, List.map_map, List.map_map]
    rfl
theorem evL_pw {L : Nat} {lv : Nat → E8} {X : Nat → Nat → List UInt32} (hX : ∀ c s, (X c s).length = 8) (h : ∀ c, lv c = e8H (X c) L) : ∀ t, evL (oneL L) (mskL L) lv t = e8H (fun s => evW (fun c => X c s) t) L
  | .lf c => h c
  | .nd a b => by
    rw [evL_nd, evL_pw hX h a, evL_pw hX h b, nodL_pw _ _ (fun s => evW_len (fun c => hX c s) a) (fun s => evW_len (fun c => hX c s) b)]
    rfl
/-! ### Different in each lane -/
theorem or_lt64 {a b : Nat} (ha : a < 2 ^ 64) (hb : b < 2 ^ 64) : Nat.lor a b < 2 ^ 64 := Nat.or_lt_two_pow ha hb
theorem pk_or {f g : Nat → Nat} (hf : ∀ s, f s < 2 ^ 64) (hg : ∀ s, g s < 2 ^ 64) (L : Nat) : Nat.lor (pk f L) (pk g L) = pk (fun s => Nat.lor (f s) (g s)) L := by
  show pk f L ||| pk g L = _
  refine Nat.eq_of_testBit_eq fun j => ?_
  rw [Nat.testBit_or, pk_bit hf, pk_bit hg, pk_bit (fun s => or_lt64 (hf s) (hg s))]
  show _ = (_ && (f (j / 64) ||| g (j / 64)).testBit _)
  rw [Nat.testBit_or]
  cases decide (j / 64 < L) <;> simp
def difG (one a0 a1 a2 a3 a4 a5 a6 a7 b0 b1 b2 b3 b4 b5 b6 b7 : Nat) : Bool :=
  Nat.beq (Nat.land (Nat.shiftRight (Nat.add (Nat.lor (Nat.xor a0 b0) (Nat.lor (Nat.xor a1 b1) (Nat.lor (Nat.xor a2 b2) (Nat.lor (Nat.xor a3 b3) (Nat.lor (Nat.xor a4 b4) (Nat.lor (Nat.xor a5 b5) (Nat.lor (Nat.xor a6 b6) (Nat.xor a7 b7)))))))) (Nat.mul 4294967295 one)) 32) one) one
noncomputable def difL (one : Nat) (s t : E8) : Bool := E8.rec (fun a0 a1 a2 a3 a4 a5 a6 a7 => E8.rec (fun b0 b1 b2 b3 b4 b5 b6 b7 => difG one a0 a1 a2 a3 a4 a5 a6 a7 b0 b1 b2 b3 b4 b5 b6 b7) t) s
theorem difL_mk (one a0 a1 a2 a3 a4 a5 a6 a7 b0 b1 b2 b3 b4 b5 b6 b7 : Nat) : difL one (E8.mk a0 a1 a2 a3 a4 a5 a6 a7) (E8.mk b0 b1 b2 b3 b4 b5 b6 b7) = difG one a0 a1 a2 a3 a4 a5 a6 a7 b0 b1 b2 b3 b4 b5 b6 b7 := rfl
theorem xor_pw (x y : Nat → UInt32) (L : Nat) : Nat.xor (pw x L) (pw y L) = pw (fun s => xorW (x s) (y s)) L := by
  unfold pw
  rw [pk_xor (fun s => w64 _) (fun s => w64 _)]
  exact pk_congr fun s _ => (UInt32.toNat_xor _ _).symm
theorem or_pw (x y : Nat → UInt32) (L : Nat) : Nat.lor (pw x L) (pw y L) = pw (fun s => orW (x s) (y s)) L := by
  unfold pw
  rw [pk_or (fun s => w64 _) (fun s => w64 _)]
  exact pk_congr fun s _ => (UInt32.toNat_or _ _).symm
/-- A lane that is nowhere zero. -/
theorem all_lanes {x : Nat → UInt32} {L s : Nat} (h : Nat.beq (Nat.land (Nat.shiftRight (Nat.add (pw x L) (Nat.mul 4294967295 (oneL L))) 32) (oneL L)) (oneL L) = true) (hs : s < L) : x s ≠ 0 := by
  intro h0
  have e := Nat.eq_of_beq_eq_true h
  have h1 : ∀ s : Nat, (fun _ : Nat => 1) s < 2 ^ 64 := fun _ => (by decide : 1 < 2 ^ 64)
  have hg : ∀ s, Nat.add (x s).toNat (Nat.mul 4294967295 1) < 2 ^ 64 := fun s => by
    have := (x s).toNat_lt
    show (x s).toNat + 4294967295 * 1 < _
    omega
  have e2 : Nat.add (pw x L) (Nat.mul 4294967295 (oneL L)) = pk (fun s => Nat.add (x s).toNat (Nat.mul 4294967295 1)) L := by
    unfold pw
    rw [pk_mul', pk_add]
  rw [e2] at e
  have e3 : ((pk (fun s => Nat.add (x s).toNat (Nat.mul 4294967295 1)) L >>> 32) &&& oneL L).testBit (64 * s) = (oneL L).testBit (64 * s) := congrArg (fun n => Nat.testBit n (64 * s)) e
  rw [Nat.testBit_and, Nat.testBit_shiftRight, pk_bit hg, pk_bit h1, show (32 + 64 * s) / 64 = s by omega, show (32 + 64 * s) % 64 = 32 by omega, show 64 * s / 64 = s by omega, show 64 * s % 64 = 0 by omega, decide_eq_true hs, h0] at e3
  revert e3
  decide
theorem dif_ne {A B : Nat → List UInt32} {L s : Nat} (h : difL (oneL L) (e8H A L) (e8H B L) = true) (hs : s < L) : A s ≠ B s := by
  intro e
  unfold e8H at h
  rw [difL_mk] at h
  unfold difG at h
  simp only [xor_pw, or_pw] at h
  refine all_lanes h hs ?_
  rw [e]
  simp [xorW, orW]
/-! ### All trees of the law -/
def t2 : Tr := .nd (.lf 0) (.lf 1)
def t23 : Tr := .nd (.lf 2) (.lf 3)
def t45 : Tr := .nd (.lf 4) (.lf 5)
def t60 : Tr := .nd (.lf 6) (.lf 0)
def t4 : Tr := .nd t2 t23
def t8 : Tr := .nd t4 (.nd t45 t60)
def trs : List Tr := [.lf 0, t2, .nd t2 (.lf 2), t4, .nd t4 (.lf 4), .nd t4 t45, .nd t4 (.nd t45 (.lf 6)), t8, .nd t8 (.lf 1)]
noncomputable def lvL (one m io s0 c : Nat) : E8 := leaL one m (bytL one m (Nat.add io (Nat.mul (Nat.add s0 (Nat.mod c 7)) one)))
noncomputable def chkT (one m : Nat) (lv : Nat → E8) (t : Tr) : Bool := (flL one m lv t).2.all fun u => difL one (flL one m lv t).1 u
noncomputable def chkA (s0 L : Nat) : Bool := seqN (oneL L) fun one => seqN (mskL L) fun m => seqN (pk (fun s => s) L) fun io => trs.all fun t => chkT one m (lvL one m io s0) t
def lfX (s0 c s : Nat) : List UInt32 := leaW (bytW (UInt32.ofNat (s0 + s + c % 7)))
theorem lvL_pw {s0 L : Nat} (h0 : s0 ≤ 100000) (hL : L ≤ 100000) (c : Nat) : lvL (oneL L) (mskL L) (pk (fun s => s) L) s0 c = e8H (lfX s0 c) L := by
  have e : Nat.add (pk (fun s => s) L) (Nat.mul (Nat.add s0 (Nat.mod c 7)) (oneL L)) = pw (fun s => UInt32.ofNat (s0 + s + c % 7)) L := by
    rw [pk_mul', pk_add]
    refine pk_congr fun s hs => ?_
    rw [UInt32.toNat_ofNat_of_lt' (by simp only [UInt32.size]; omega)]
    show s + (s0 + c % 7) * 1 = _
    omega
  unfold lvL
  rw [e, bytL_pw]
  exact leaL_pw (fun s => bytW (UInt32.ofNat (s0 + s + c % 7))) (fun s => blockK_len _ _) L
theorem chk_trees {s0 L : Nat} (h0 : s0 ≤ 100000) (hL : L ≤ 100000) (h : chkA s0 L = true) {s : Nat} (hs : s < L) {t u : Tr} (ht : t ∈ trs) (hu : u ∈ subs t) : evW (fun c => lfX s0 c s) t ≠ evW (fun c => lfX s0 c s) u := by
  unfold chkA at h
  rw [seqN_eq, seqN_eq, seqN_eq] at h
  have h1 := List.all_eq_true.1 h t ht
  unfold chkT at h1
  rw [fl_eq] at h1
  have h2 := List.all_eq_true.1 h1 _ (List.mem_map.2 ⟨u, hu, rfl⟩)
  have e := evL_pw (L := L) (lv := lvL (oneL L) (mskL L) (pk (fun s => s) L) s0) (X := fun c s => lfX s0 c s) (fun c s => blockK_len _ _) (fun c => lvL_pw h0 hL c)
  rw [e t, e u] at h2
  exact dif_ne h2 hs
end Go.Proofs.YtjgkchmdhicmpaaDoor
set_option linter.unusedVariables false
set_option linter.unusedSimpArgs false
namespace Go.Proofs.YtjgkchmdhicmpaaDoor
open Go.RowKit
set_option maxRecDepth 100000 in
theorem chk_0 : chkA 0 200 = true := by decide +kernel
set_option maxRecDepth 100000 in
theorem chk_1 : chkA 200 200 = true := by decide +kernel
set_option maxRecDepth 100000 in
theorem chk_2 : chkA 400 200 = true := by decide +kernel
set_option maxRecDepth 100000 in
theorem chk_3 : chkA 600 200 = true := by decide +kernel
set_option maxRecDepth 100000 in
theorem chk_4 : chkA 800 200 = true := by decide +kernel
end Go.Proofs.YtjgkchmdhicmpaaDoor
set_option linter.unusedVariables false
set_option linter.unusedSimpArgs false
namespace Go.Proofs.YtjgkchmdhicmpaaDoor
open Go.RowKit

def trF : Nat → List Nat → Tr
  | 0, _ => .lf 0
  | f + 1, l => if l.length ≤ 1 then .lf (l.getD 0 0) else .nd (trF f (l.take (splitN l.length))) (trF f (l.drop (splitN l.length)))
theorem trF_root (x : Nat → List UInt8) : ∀ (f : Nat) (l : List Nat), 1 ≤ l.length → l.length ≤ f → rootM (l.map x) = evM x (trF f l)
  | 0, l, h1, h2 => by omega
  | f + 1, l, h1, h2 => by
    have hm : (l.map x).length = l.length := List.length_map _
    by_cases h : l.length ≤ 1
    · rw [root_1 (by omega), trF, if_pos h, evM]
      match l, h1, h with
      | [_], _, _ => rfl
    · have h3 := split_lt (n := l.length) (by omega)
      have h4 := split_pos l.length
      rw [root_2 (by omega), trF, if_neg h, evM, hm, ← List.map_take, ← List.map_drop, trF_root x f _ (by rw [List.length_take]; omega) (by rw [List.length_take]; omega), trF_root x f _ (by rw [List.length_drop]; omega) (by rw [List.length_drop]; omega)]
def ixN (n : Nat) : List Nat := (List.range n).map (fun c => c % 7)
theorem ixN_len (n : Nat) : (ixN n).length = n := by unfold ixN; rw [List.length_map, List.length_range]
set_option maxRecDepth 100000 in
theorem tr_in : ∀ n : Fin 10, 1 ≤ n.val → trF 9 (ixN n.val) ∈ trs := by decide +kernel
set_option maxRecDepth 100000 in
theorem tr_sub : ∀ n i : Fin 10, ∀ b : Fin 7, i.val < n.val → b.val ≠ i.val % 7 → trF 9 ((ixN n.val).set i.val b.val) ∈ subs (trF 9 (ixN n.val)) := by decide +kernel
theorem wordsB_inj : ∀ {a b : List UInt32}, a.length = b.length → wordsB a = wordsB b → a = b
  | [], [], _, _ => rfl
  | [], _ :: _, h, _ => by simp at h
  | _ :: _, [], h, _ => by simp at h
  | x :: a, y :: b, h, e => by
    have e1 : putL x.toNat 4 ++ wordsB a = putL y.toNat 4 ++ wordsB b := e
    obtain ⟨h1, h2⟩ := List.append_inj e1 (by rw [putL_length, putL_length])
    have h3 := congrArg numB h1
    rw [numB_put, numB_put, Nat.mod_eq_of_lt x.toNat_lt, Nat.mod_eq_of_lt y.toNat_lt] at h3
    rw [UInt32.toNat_inj.1 h3, wordsB_inj (by simpa using h) h2]
/-- The law's leaves. -/
def xB (sd c : Nat) : List UInt8 := bytesK ((sd + c : Nat) : Int) 20
def lawL (sd n : Nat) : List (List UInt8) := (List.range n).map fun c => xB sd (c % 7)
theorem xB_len (sd c : Nat) : (xB sd c).length = 20 := by unfold xB; rw [bytesK_len]; rfl
theorem xB_lea {sd c : Nat} (h : sd + c < 4294967296) : leafM (xB sd c) = wordsB (leaW (bytW (UInt32.ofNat (sd + c)))) := by
  have hv : (UInt32.ofNat (sd + c)).toNat = sd + c := UInt32.toNat_ofNat_of_lt' h
  have hb := byt_w (UInt32.ofNat (sd + c))
  rw [hv] at hb
  have e : xB sd c = (hashAt (sd + c) 0).take 20 := by
    unfold xB bytesK
    have e1 : (((sd + c : Nat) : Int) % 18446744073709551616).toNat = sd + c := by omega
    have e2 : ((20 : Int).toNat + 31) / 32 = 1 := by decide
    have e3 : (20 : Int).toNat = 20 := rfl
    rw [e1, e2, e3]
    unfold bytesN
    simp [List.range_succ]
  rw [e, hb]
  exact lea_w (h := bytW (UInt32.ofNat (sd + c))) (blockK_len _ _)
theorem lawL_len (sd n : Nat) : (lawL sd n).length = n := by unfold lawL; rw [List.length_map, List.length_range]
theorem lawL_ix (sd n : Nat) : lawL sd n = (ixN n).map fun c => xB sd (c % 7) := by
  unfold lawL ixN
  rw [List.map_map]
  apply List.map_congr_left
  intro c _
  show _ = xB sd (c % 7 % 7)
  rw [Nat.mod_mod]
theorem chk_any {sd : Nat} (h : sd < 1000) {t u : Tr} (ht : t ∈ trs) (hu : u ∈ subs t) : evW (fun c => leaW (bytW (UInt32.ofNat (sd + c % 7)))) t ≠ evW (fun c => leaW (bytW (UInt32.ofNat (sd + c % 7)))) u := by
  have key : ∀ s0, chkA s0 200 = true → s0 ≤ 1000 → s0 ≤ sd → sd < s0 + 200 → evW (fun c => leaW (bytW (UInt32.ofNat (sd + c % 7)))) t ≠ evW (fun c => leaW (bytW (UInt32.ofNat (sd + c % 7)))) u := fun s0 hc h0 h1 h2 => by
    have := chk_trees (by omega) (by decide) hc (s := sd - s0) (by omega) ht hu
    unfold lfX at this
    rw [show s0 + (sd - s0) = sd by omega] at this
    exact this
  by_cases h1 : sd < 200
  · exact key 0 chk_0 (by omega) (by omega) (by omega)
  · by_cases h2 : sd < 400
    · exact key 200 chk_1 (by omega) (by omega) (by omega)
    · by_cases h3 : sd < 600
      · exact key 400 chk_2 (by omega) (by omega) (by omega)
      · by_cases h4 : sd < 800
        · exact key 600 chk_3 (by omega) (by omega) (by omega)
        · exact key 800 chk_4 (by omega) (by omega) (by omega)
theorem root_dif {sd n i b : Nat} (hsd : sd < 1000) (hn : n ≤ 9) (hi : i < n) (hb : b < 7) (hne : b ≠ i % 7) : rootM ((lawL sd n).set i (xB sd b)) ≠ rootM (lawL sd n) := by
  intro e
  have hx : xB sd b = (fun c => xB sd (c % 7)) b := by
    show _ = xB sd (b % 7)
    rw [Nat.mod_eq_of_lt hb]
  have h1 := tr_in ⟨n, by omega⟩ (by show 1 ≤ n; omega)
  have h2 := tr_sub ⟨n, by omega⟩ ⟨i, by omega⟩ ⟨b, hb⟩ hi hne
  have hW : ∀ t, evM (fun c => xB sd (c % 7)) t = wordsB (evW (fun c => leaW (bytW (UInt32.ofNat (sd + c % 7)))) t) :=
    evM_W (fun c => blockK_len _ _) fun c => xB_lea (by have := Nat.mod_lt c (show 0 < 7 by decide); omega)
  have hl := ixN_len n
  rw [lawL_ix, hx, ← List.map_set, trF_root _ 9 _ (by rw [List.length_set]; omega) (by rw [List.length_set]; omega), trF_root _ 9 _ (by omega) (by omega), hW, hW] at e
  have hlen : ∀ t, (evW (fun c => leaW (bytW (UInt32.ofNat (sd + c % 7)))) t).length = 8 := evW_len fun c => blockK_len _ _
  exact chk_any hsd h1 h2 (wordsB_inj (by rw [hlen, hlen]) e).symm
/-- A leaf is accepted at a place exactly if it is the leaf there. -/
theorem climb_set (leaf : List UInt8) : ∀ (n : Nat) (l : List (List UInt8)) (i : Nat), l.length = n → i < n → pathM (l.set i leaf) i = pathM l i := by
  intro n
  induction n using Nat.strongRecOn with
  | _ n ih =>
    intro l i hl hi
    subst hl
    have hs : (l.set i leaf).length = l.length := List.length_set
    by_cases h : 2 ≤ l.length
    · have h1 := split_pos l.length
      have h2 := split_lt h
      by_cases hk : i < splitN l.length
      · rw [path_lo (by omega) (by rw [hs]; exact hk), path_lo h hk, hs, List.take_set, List.drop_set_of_lt hk, ih _ h2 _ i (by rw [List.length_take]; omega) hk]
      · have e1 : (l.set i leaf).drop (splitN l.length) = (l.drop (splitN l.length)).set (i - splitN l.length) leaf := by
          rw [List.drop_set, if_neg (by omega)]
        have e2 : (l.set i leaf).take (splitN l.length) = l.take (splitN l.length) := by
          rw [List.take_set, List.set_eq_of_length_le (by rw [List.length_take]; omega)]
        rw [path_hi (by omega) (by rw [hs]; exact hk), path_hi h hk, hs, e1, e2, ih _ (by omega) _ _ List.length_drop (by omega)]
    · rw [path_1 (by omega), path_1 (by omega)]
theorem climb_other {l : List (List UInt8)} {i : Nat} (hi : i < l.length) (leaf : List UInt8) : climbM l.length i leaf (pathM l i) = rootM (l.set i leaf) := by
  have h1 := climb_path l.length (l.set i leaf) i List.length_set hi
  rw [climb_set leaf _ l i rfl hi] at h1
  have e : (l.set i leaf).getD i [] = leaf := by
    rw [List.getD_eq_getElem?_getD, List.getElem?_set_self hi]; rfl
  rw [e] at h1
  exact h1
end Go.Proofs.YtjgkchmdhicmpaaDoor
set_option linter.unusedVariables false
set_option linter.unusedSimpArgs false
namespace Go.Proofs.YtjgkchmdhicmpaaDoor
open Go.RowKit
theorem fl_by (s : Nat) (l : List UInt8) (k : IntKind) (n : Int) : V.flat (.tup [.c (.fr s (l.map bD)), .c (.d (.int k n))]) = true := by
  have := fl_b s l
  simp only [V.flat, W.flat, List.all_cons, List.all_nil, Bool.and_true] at this ⊢
  rw [this]; rfl
def sf_beq : SFn := ⟨2, 10,
  .seq (.reg [⟨(some 4), .mv (.k (.c (.d (.bool false)))), none⟩])
  (.seq (.reg [⟨(some 5), .mv (.t 0), none⟩,
    ⟨(some 6), .b2s (.t 5), none⟩,
    ⟨(some 7), .mv (.t 1), none⟩,
    ⟨(some 8), .b2s (.t 7), none⟩,
    ⟨(some 9), .bin .eql (.t 6) (.t 8), none⟩,
    ⟨(some 4), .mv (.t 9), none⟩])
  (.ret)),
  [(4, none)]⟩
theorem cf_beq : compFn Tryd.prog { own := [], comp := [], frz := [], nils := [] } Tryd.f107 = some sf_beq := by kernel_rfl
theorem beq_c (G : Glob) (l m : List UInt8) : Den Tryd.prog G 107 [.sl (l.map bD), .sl (m.map bD)] (.w (.c (.d (.bool (l == m))))) := by
  refine den_walk Tryd.func107 cf_beq rfl rfl ?_
  simp only [sf_beq, putAll, wx, stV, seval, IntWalk.iteOmega, IntWalk.toNatUp, reduceCtorEq, ofBs_map, binS_same]
  exact ret_d (by simp only [wx, stV, seval, IntWalk.iteOmega, IntWalk.toNatUp, reduceCtorEq])
def sf_same : SFn := ⟨2, 8,
  .seq (.reg [⟨(some 4), .mv (.k (.c (.d (.bool false)))), none⟩])
  (.seq (.reg [⟨(some 5), .mv (.t 0), none⟩,
    ⟨(some 6), .mv (.t 1), none⟩,
    ⟨(some 7), .call 107 [(.t 5), (.t 6)] none, none⟩,
    ⟨(some 4), .mv (.t 7), none⟩])
  (.ret)),
  [(4, none)]⟩
theorem cf_same : compFn Tryd.prog { own := [], comp := [], frz := [], nils := [] } Tryd.f67 = some sf_same := by kernel_rfl
theorem same_c (G : Glob) (l m : List UInt8) : Den Tryd.prog G 67 [.sl (l.map bD), .sl (m.map bD)] (.w (.c (.d (.bool (l == m))))) := by
  refine den_walk Tryd.func67 cf_same rfl rfl ?_
  simp only [sf_same, putAll, wx, wy, wz, stV, seval, IntWalk.iteOmega, IntWalk.toNatUp, reduceCtorEq]
  refine st_call (beq_c G l m) rfl (.inl rfl) ?_
  simp only [wx, wy, wz, stV, seval, IntWalk.iteOmega, IntWalk.toNatUp, reduceCtorEq]
  exact ret_d1 (by simp only [wx, wy, wz, stV, seval, IntWalk.iteOmega, IntWalk.toNatUp, reduceCtorEq])
end Go.Proofs.YtjgkchmdhicmpaaDoor
set_option linter.unusedVariables false
set_option linter.unusedSimpArgs false
namespace Go.Proofs.YtjgkchmdhicmpaaDoor
open Go.RowKit

abbrev iD (n : Nat) : D := .int .i64 (n : Int)
theorem allSz_i (l : List Nat) : allSz 1 (l.map iD) = true := allSz_map _ (fun _ => rfl) l
theorem fl_iy (s : Nat) (l : List Nat) (k : IntKind) (n : Int) : V.flat (.tup [.c (.fr s (l.map iD)), .c (.d (.int k n))]) = true := by
  simp only [V.flat, W.flat, C.flat, List.all_cons, List.all_nil, Bool.and_true, List.all_map, Bool.and_eq_true, List.all_eq_true]
  exact ⟨fun x _ => rfl, rfl⟩
theorem getI {l : List Nat} {j : Nat} (h : j < l.length) : (l.map iD)[j]? = some (.int .i64 ((l.getD j 0 : Nat) : Int)) := by
  rw [List.getElem?_map, List.getElem?_eq_getElem h, List.getD_eq_getElem?_getD, List.getElem?_eq_getElem h]; rfl
theorem half_i (b : List UInt8) {j : Nat} (h : j < b.length) : (halfN (b.take j)).map iD ++ [.int .i64 ((b[j].toNat / 16 : Nat) : Int), .int .i64 ((b[j].toNat % 16 : Nat) : Int)] = (halfN (b.take (j + 1))).map iD := by
  rw [List.take_succ_eq_append_getElem h, halfN_snoc, List.map_append]; rfl
theorem half_0 (b : List UInt8) (h : 0 < b.length) : [D.int .i64 ((b[0].toNat / 16 : Nat) : Int), .int .i64 ((b[0].toNat % 16 : Nat) : Int)] = (halfN (b.take 1)).map iD := by
  rw [← half_i b h]; rfl
def hvV : Nat → V
  | 0 => .w (.c .nil)
  | j + 1 => .w (.c (.own 1 1 0 (2 * (j + 1))))
def hvH (b : List UInt8) : Nat → List (Nat × Ob)
  | 0 => []
  | j + 1 => [(1, .row 1 ((halfN (b.take (j + 1))).map iD))]
def hvSt (b : List UInt8) (j : Nat) : St := ⟨ofL [(3, hvV j), (6, .w (.c (.d (.sl (b.map bD))))), (7, .w (.c (.d (.int .i64 (b.length : Int))))), (8, .w (.c (.d (.int .i64 (j : Int)))))], hL (hvH b j), uL [1]⟩
def lp_halv_0 : SCode :=
  .seq (.reg [⟨(some 9), .bin .lss (.t 8) (.t 7), none⟩])
  (.seq (.cond (.t 9) (.skip)
   (.exit 0))
  (.seq (.block 1 (.seq (.reg [⟨(some 10), .idxSl 1 (.t 6) (.t 8), none⟩,
     ⟨(some 11), .load .sc (.t 10), none⟩,
     ⟨(some 5), .mv (.t 11), none⟩])
   (.reg [⟨(some 12), .mv (.t 3), none⟩,
     ⟨(some 13), .mv (.t 5), none⟩,
     ⟨(some 14), .bin .shr (.t 13) (.k (.c (.d (.int .u64 4)))), none⟩,
     ⟨(some 15), .conv .i64 (.t 14), none⟩,
     ⟨(some 16), .mv (.t 5), none⟩,
     ⟨(some 17), .bin .and (.t 16) (.k (.c (.d (.int .u8 15)))), none⟩,
     ⟨(some 18), .conv .i64 (.t 17), none⟩,
     ⟨(some 19), .bldSl false 2 1 (.int .i64 0) [(0, (.t 15)), (1, (.t 18))], none⟩,
     ⟨(some 20), .app false 1 8 (.t 12) (.t 19), none⟩,
     ⟨(some 3), .mv (.t 20), none⟩])))
  (.reg [⟨(some 21), .bin .add (.t 8) (.k (.c (.d (.int .i64 1)))), none⟩,
    ⟨(some 8), .mv (.t 21), none⟩])))
def sf_halv : SFn := ⟨1, 23,
  .seq (.reg [⟨(some 2), .mv (.k (.c .nil)), none⟩])
  (.seq (.reg [⟨(some 3), .mv (.k (.c .nil)), none⟩])
  (.seq (.seq (.reg [⟨(some 6), .mv (.t 0), none⟩,
    ⟨(some 7), .len (.t 6), none⟩,
    ⟨(some 8), .mv (.k (.c (.d (.int .i64 0)))), none⟩])
  (.block 0 (.loop lp_halv_0)))
  (.seq (.reg [⟨(some 22), .mv (.t 3), none⟩,
    ⟨(some 2), .mv (.t 22), none⟩])
  (.ret)))),
  [(2, none)]⟩
theorem cf_halv : compFn Tryd.prog { own := [], comp := [], frz := [], nils := [] } Tryd.f118 = some sf_halv := by kernel_rfl
set_option maxHeartbeats 1600000 in
theorem halv_f (G : Glob) (b : List UInt8) (hb : b.length ≤ 1000000) : Den Tryd.prog G 118 [.sl (b.map bD)] (.w (.c (.fr 1 ((halfN b).map iD)))) := by
  refine den_walk Tryd.func118 cf_halv rfl rfl ?_
  simp only [sf_halv, putAll, wx, wy, wz, stV, seval, IntWalk.iteOmega, IntWalk.toNatUp, reduceCtorEq]
  refine loop_st (hvSt b) (fun i => b.length - i) (fun i => i ≤ b.length) 0 (Nat.zero_le _) ?_ ?_
  · refine ent_l (fun i => i) ?_ ?_ rfl rfl <;> simp only [wx, wex, wez, stV, seval, IntWalk.iteOmega, IntWalk.toNatUp, reduceCtorEq, hvV, hvH]
  · intro i hi
    by_cases hlt : i < b.length
    · have hb8 := b[i].toNat_lt
      have e2 : b[i]? = some b[i] := List.getElem?_eq_getElem hlt
      have e5 : bits .and .u8 (b[i].toNat : Int) 15 = ((b[i].toNat % 16 : Nat) : Int) := u8_and15 _ (by omega) (by omega)
      have e6 : (b[i].toNat : Int) / 16 = ((b[i].toNat / 16 : Nat) : Int) := rfl
      rcases i with _ | i
      · have h0 := half_0 b hlt
        have hl : (halfN (b.take 1)).length = 2 := by rw [halfN_len, List.length_take]; omega
        simp only [lp_halv_0, hvSt, hvV, hvH, wx, wy, wz, stV, seval, IntWalk.iteOmega, IntWalk.toNatUp, reduceCtorEq, get_map, e2, IntKind.bits, e5, e6, srcV, List.replicate, h0, allSz_i, hl]
        refine lop_next (0 + 1) (by omega) (by omega) (ent_l (fun _ => 160) ?_ ?_ rfl rfl) <;> simp only [wx, wex, wez, stV, seval, IntWalk.iteOmega, IntWalk.toNatUp, reduceCtorEq, hvV, hvH, hl]
      · have h0 := half_i b hlt
        have hl : (halfN (b.take (i + 1))).length = 2 * (i + 1) := by rw [halfN_len, List.length_take]; omega
        have hl2 : (halfN (b.take (i + 1 + 1))).length = 2 * (i + 1 + 1) := by rw [halfN_len, List.length_take]; omega
        simp only [lp_halv_0, hvSt, hvV, hvH, wx, wy, wz, stV, seval, IntWalk.iteOmega, IntWalk.toNatUp, reduceCtorEq, get_map, e2, IntKind.bits, e5, e6, srcV, List.replicate, h0, allSz_i, hl, hl2]
        refine lop_next (i + 1 + 1) (by omega) (by omega) (ent_l (fun _ => 160) ?_ ?_ rfl rfl) <;> simp only [wx, wex, wez, stV, seval, IntWalk.iteOmega, IntWalk.toNatUp, reduceCtorEq, hvV, hvH, hl2]
    · obtain rfl : i = b.length := by omega
      have ht : b.take b.length = b := List.take_length
      rcases hbl : b.length with _ | n
      · obtain rfl : b = [] := List.length_eq_zero_iff.1 hbl
        simp only [lp_halv_0, hvSt, hvV, hvH, wx, wy, wz, stV, seval, IntWalk.iteOmega, IntWalk.toNatUp, reduceCtorEq, hbl]
        exact ret_f1 (by simp only [wx, wy, wz, stV, seval, IntWalk.iteOmega, IntWalk.toNatUp, reduceCtorEq, halfN])
      · have hl := halfN_len b
        rw [hbl] at ht
        simp only [lp_halv_0, hvSt, hvV, hvH, wx, wy, wz, stV, seval, IntWalk.iteOmega, IntWalk.toNatUp, reduceCtorEq, hbl, ht]
        exact ret_f1 (by simp only [wx, wy, wz, stV, seval, IntWalk.iteOmega, IntWalk.toNatUp, reduceCtorEq, hl, hbl])
theorem half_put {s : Nat} (h : s ≤ 480) : halfN (putL s 2) = [0, s / 256, s / 16 % 16, s % 16] := by
  have e : putL s 2 = [UInt8.ofNat (s / 256), UInt8.ofNat (s / 1)] := rfl
  have e1 : (UInt8.ofNat (s / 256)).toNat = s / 256 := by rw [UInt8.toNat_ofNat']; omega
  have e2 : (UInt8.ofNat (s / 1)).toNat = s % 256 := by rw [UInt8.toNat_ofNat', Nat.div_one]
  have e3 : halfN [UInt8.ofNat (s / 256), UInt8.ofNat (s / 1)] = [(UInt8.ofNat (s / 256)).toNat / 16, (UInt8.ofNat (s / 256)).toNat % 16, (UInt8.ofNat (s / 1)).toNat / 16, (UInt8.ofNat (s / 1)).toNat % 16] := rfl
  rw [e, e3, e1, e2]
  congr 1
  · omega
  congr 1
  · omega
  congr 1
  · omega
  congr 1
  omega
def dgtE (b : List UInt8) : Int := if b.length = 16 then 0 else 3
def dgtV (b : List UInt8) : List Nat := if b.length = 16 then digN b else []
theorem dig_ok {b : List UInt8} (h : b.length = 16) : dgtE b = 0 ∧ dgtV b = digN b := ⟨if_pos h, if_pos h⟩
theorem dig_no {b : List UInt8} (h : ¬ b.length = 16) : dgtE b = 3 ∧ dgtV b = [] := ⟨if_neg h, if_neg h⟩
theorem digN_map (b : List UInt8) : (digN b).map iD = (halfN b).map iD ++ [iD (lackN (halfN b) / 256), iD (lackN (halfN b) / 16 % 16), iD (lackN (halfN b) % 16)] := by unfold digN; rw [List.map_append]; rfl
def dgSt (l : List Nat) (j : Nat) : St := ⟨ofL [(4, .w (.c (.own 1 1 0 32))), (5, .w (.c (.d (.int .i64 ((lackN (l.take j) : Nat) : Int))))), (13, .w (.c (.own 1 1 0 32))), (14, .w (.c (.d (.int .i64 32)))), (15, .w (.c (.d (.int .i64 (j : Int)))))], hL [(1, .row 1 (l.map iD))], uL [1]⟩
def lp_dgs_0 : SCode :=
  .seq (.reg [⟨(some 16), .bin .lss (.t 15) (.t 14), none⟩])
  (.seq (.cond (.t 16) (.skip)
   (.exit 0))
  (.seq (.block 1 (.seq (.reg [⟨(some 17), .idxSl 1 (.t 13) (.t 15), none⟩,
     ⟨(some 18), .load .sc (.t 17), none⟩,
     ⟨(some 7), .mv (.t 18), none⟩])
   (.reg [⟨(some 19), .mv (.t 5), none⟩,
     ⟨(some 20), .mv (.t 7), none⟩,
     ⟨(some 21), .bin .sub (.k (.c (.d (.int .i64 15)))) (.t 20), none⟩,
     ⟨(some 22), .bin .add (.t 19) (.t 21), none⟩,
     ⟨(some 5), .mv (.t 22), none⟩])))
  (.reg [⟨(some 23), .bin .add (.t 15) (.k (.c (.d (.int .i64 1)))), none⟩,
    ⟨(some 15), .mv (.t 23), none⟩])))
def sf_dgs : SFn := ⟨1, 31,
  .seq (.reg [⟨(some 2), .mv (.k (.c .nil)), none⟩,
    ⟨(some 3), .mv (.k (.c (.d (.int .i64 0)))), none⟩])
  (.seq (.seq (.reg [⟨(some 8), .mv (.t 0), none⟩,
    ⟨(some 9), .len (.t 8), none⟩,
    ⟨(some 10), .bin .neq (.t 9) (.k (.c (.d (.int .i64 16)))), none⟩])
  (.cond (.t 10) (.seq (.reg [⟨(some 2), .mv (.k (.c .nil)), none⟩,
     ⟨(some 3), .mv (.k (.c (.d (.int .i64 3)))), none⟩])
   (.ret))
   (.skip)))
  (.seq (.reg [⟨(some 11), .mv (.t 0), none⟩,
    ⟨(some 12), .call 118 [(.t 11)] (some (0, 1)), none⟩,
    ⟨(some 4), .mv (.t 12), none⟩])
  (.seq (.reg [⟨(some 5), .mv (.k (.c (.d (.int .i64 0)))), none⟩])
  (.seq (.seq (.reg [⟨(some 13), .mv (.t 4), none⟩,
    ⟨(some 14), .len (.t 13), none⟩,
    ⟨(some 15), .mv (.k (.c (.d (.int .i64 0)))), none⟩])
  (.block 0 (.loop lp_dgs_0)))
  (.seq (.reg [⟨(some 24), .mv (.t 4), none⟩,
    ⟨(some 25), .mv (.t 5), none⟩,
    ⟨(some 26), .conv .u64 (.t 25), none⟩,
    ⟨(some 27), .call 75 [(.t 26), (.k (.c (.d (.int .i64 2))))] none, none⟩,
    ⟨(some 28), .call 118 [(.t 27)] none, none⟩,
    ⟨(some 29), .slice 1 (.t 28) (some (.k (.c (.d (.int .i64 1))))) none none, none⟩,
    ⟨(some 30), .app false 1 8 (.t 24) (.t 29), none⟩,
    ⟨(some 2), .mv (.t 30), none⟩,
    ⟨(some 3), .mv (.k (.c (.d (.int .i64 0)))), none⟩])
  (.ret)))))),
  [(2, none), (3, none)]⟩
theorem cf_dgs : compFn Tryd.prog { own := [12], comp := [], frz := [], nils := [] } Tryd.f92 = some sf_dgs := by kernel_rfl
set_option maxHeartbeats 1600000 in
theorem dgs_f (G : Glob) (b : List UInt8) (hb : b.length ≤ 9223372036854775807) : Den Tryd.prog G 92 [.sl (b.map bD)] (.tup [.c (.fr 1 ((dgtV b).map iD)), .c (.d (.int .i64 (dgtE b)))]) := by
  refine den_walk Tryd.func92 cf_dgs rfl rfl ?_
  by_cases h : b.length = 16
  · obtain ⟨hE, hV⟩ := dig_ok h
    have hl : (halfN b).length = 32 := by rw [halfN_len, h]
    have hle := halfN_le (b := b)
    have hh := halv_f G b (by omega)
    have hs := lackN_le (halfN b)
    have hm := digN_map b
    rw [hE, hV]
    generalize halfN b = l at *
    simp only [sf_dgs, putAll, wx, wy, wz, stV, seval, IntWalk.iteOmega, IntWalk.toNatUp, reduceCtorEq, h]
    refine st_call (hh) rfl (.inl rfl) ?_
    simp only [hl, wx, wy, wz, stV, seval, IntWalk.iteOmega, IntWalk.toNatUp, reduceCtorEq]
    refine loop_st (dgSt l) (fun j => 32 - j) (fun j => j ≤ 32) 0 (Nat.zero_le _) ?_ ?_
    · refine ent_l (fun _ => 96) ?_ ?_ rfl rfl <;> simp only [wx, wex, wez, stV, seval, IntWalk.iteOmega, IntWalk.toNatUp, reduceCtorEq, lackN, List.sum_nil]
    · intro j hj
      have hsj : lackN (l.take j) ≤ 15 * j := by
        have := lackN_le (l.take j)
        rw [List.length_take] at this
        omega
      by_cases hlt : j < 32
      · have g1 := getI (l := l) (j := j) (by omega)
        have hx : l.getD j 0 ≤ 15 := by
          rw [List.getD_eq_getElem?_getD, List.getElem?_eq_getElem (by omega : j < l.length)]
          exact hle _ (List.getElem_mem _)
        have e : ((lackN (l.take (j + 1)) : Nat) : Int) = (lackN (l.take j) : Int) + (15 - ((l.getD j 0 : Nat) : Int)) := by
          rw [lackN_take (by omega : j < l.length)]; omega
        simp only [lp_dgs_0, dgSt, wx, wy, wz, stV, seval, IntWalk.iteOmega, IntWalk.toNatUp, reduceCtorEq, g1]
        refine lop_next (j + 1) (by omega) (by omega) (ent_l (fun i => i) ?_ ?_ rfl rfl) <;> simp only [wx, wex, wez, stV, seval, IntWalk.iteOmega, IntWalk.toNatUp, reduceCtorEq, e]
      · obtain rfl : j = 32 := by omega
        have ht : l.take 32 = l := List.take_of_length_le (by omega)
        rw [ht] at hsj
        have hp := put_in G (lackN l) 2 (by decide)
        have hq := halv_f G (putL (lackN l) 2) (by rw [putL_length]; decide)
        rw [half_put (by omega)] at hq
        have hw : IntKind.u64.wrap (lackN l : Int) = (lackN l : Int) := by rw [IntKind.wrap_u64]; omega
        simp only [lp_dgs_0, dgSt, wx, wy, wz, stV, seval, IntWalk.iteOmega, IntWalk.toNatUp, reduceCtorEq, ht, hw]
        refine st_call (hp) rfl (.inl rfl) ?_
        simp only [wx, wy, wz, stV, seval, IntWalk.iteOmega, IntWalk.toNatUp, reduceCtorEq]
        refine st_call (hq) rfl (.inl rfl) ?_
        simp only [srcV, List.map_cons, List.map_nil, hl, allSz_i, wx, wy, wz, stV, seval, IntWalk.iteOmega, IntWalk.toNatUp, reduceCtorEq]
        exact ret_f2 (by simp only [wx, wy, wz, stV, seval, IntWalk.iteOmega, IntWalk.toNatUp, reduceCtorEq, hm]) (by simp only [wx, wy, wz, stV, seval, IntWalk.iteOmega, IntWalk.toNatUp, reduceCtorEq])
  · obtain ⟨hE, hV⟩ := dig_no h
    rw [hE, hV]
    simp only [sf_dgs, putAll, wx, wy, wz, stV, seval, IntWalk.iteOmega, IntWalk.toNatUp, reduceCtorEq]
    exact ret_f2 (by simp only [wx, wy, wz, stV, seval, IntWalk.iteOmega, IntWalk.toNatUp, reduceCtorEq]) (by simp only [wx, wy, wz, stV, seval, IntWalk.iteOmega, IntWalk.toNatUp, reduceCtorEq])
theorem den_ro2N {P : Program} {G : Glob} {F : FuncId} {args : List D} {l : List Nat} {y : D} (h : Den P G F args (.tup [.c (.fr 1 (l.map iD)), .c (.d y)])) : Den P G F args (.tup [.c (.d (.sl (l.map iD))), .c (.d y)]) := den_ro2 h
/-! ### The reference's digits -/
def rdSt (b : List UInt8) (j : Nat) : St := ⟨ofL [(0, .w (.c (.d (.sl (b.map bD))))), (4, hvV j), (5, .w (.c (.d (.int .i64 ((lackN (halfN (b.take j)) : Nat) : Int))))), (6, .w (.c (.d (.int .i64 (j : Int)))))], hL (hvH b j), uL [1]⟩
theorem lack_half (b : List UInt8) {j : Nat} (h : j < b.length) : ((lackN (halfN (b.take (j + 1))) : Nat) : Int) = (lackN (halfN (b.take j)) : Int) + 15 - ((b[j].toNat / 16 : Nat) : Int) + 15 - ((b[j].toNat % 16 : Nat) : Int) := by
  have hb := b[j].toNat_lt
  rw [List.take_succ_eq_append_getElem h, halfN_snoc, lackN_app]
  have e : lackN [b[j].toNat / 16, b[j].toNat % 16] = (15 - b[j].toNat / 16) + (15 - b[j].toNat % 16) := by simp [lackN]
  rw [e]; omega
def lp_rdgs_0 : SCode :=
  .seq (.seq (.reg [⟨(some 12), .mv (.t 6), none⟩,
    ⟨(some 13), .mv (.t 0), none⟩,
    ⟨(some 14), .len (.t 13), none⟩,
    ⟨(some 15), .bin .lss (.t 12) (.t 14), none⟩])
  (.cond (.t 15) (.skip)
   (.exit 0)))
  (.seq (.block 1 (.seq (.reg [⟨(some 18), .mv (.t 0), none⟩,
     ⟨(some 19), .mv (.t 6), none⟩,
     ⟨(some 20), .idxSl 1 (.t 18) (.t 19), none⟩,
     ⟨(some 21), .load .sc (.t 20), none⟩,
     ⟨(some 22), .bin .shr (.t 21) (.k (.c (.d (.int .u64 4)))), none⟩,
     ⟨(some 23), .conv .i64 (.t 22), none⟩,
     ⟨(some 24), .mv (.t 0), none⟩,
     ⟨(some 25), .mv (.t 6), none⟩,
     ⟨(some 26), .idxSl 1 (.t 24) (.t 25), none⟩,
     ⟨(some 27), .load .sc (.t 26), none⟩,
     ⟨(some 28), .bin .and (.t 27) (.k (.c (.d (.int .u8 15)))), none⟩,
     ⟨(some 29), .conv .i64 (.t 28), none⟩,
     ⟨(some 7), .mv (.t 23), none⟩,
     ⟨(some 8), .mv (.t 29), none⟩])
   (.seq (.reg [⟨(some 30), .mv (.t 4), none⟩,
     ⟨(some 31), .mv (.t 7), none⟩,
     ⟨(some 32), .mv (.t 8), none⟩,
     ⟨(some 33), .bldSl false 2 1 (.int .i64 0) [(0, (.t 31)), (1, (.t 32))], none⟩,
     ⟨(some 34), .app false 1 8 (.t 30) (.t 33), none⟩,
     ⟨(some 4), .mv (.t 34), none⟩])
   (.reg [⟨(some 35), .mv (.t 5), none⟩,
     ⟨(some 36), .bin .add (.t 35) (.k (.c (.d (.int .i64 15)))), none⟩,
     ⟨(some 37), .mv (.t 7), none⟩,
     ⟨(some 38), .bin .sub (.t 36) (.t 37), none⟩,
     ⟨(some 39), .bin .add (.t 38) (.k (.c (.d (.int .i64 15)))), none⟩,
     ⟨(some 40), .mv (.t 8), none⟩,
     ⟨(some 41), .bin .sub (.t 39) (.t 40), none⟩,
     ⟨(some 5), .mv (.t 41), none⟩]))))
  (.reg [⟨(some 16), .mv (.t 6), none⟩,
    ⟨(some 17), .bin .add (.t 16) (.k (.c (.d (.int .i64 1)))), none⟩,
    ⟨(some 6), .mv (.t 17), none⟩]))
def sf_rdgs : SFn := ⟨1, 52,
  .seq (.reg [⟨(some 2), .mv (.k (.c .nil)), none⟩,
    ⟨(some 3), .mv (.k (.c (.d (.int .i64 0)))), none⟩])
  (.seq (.seq (.reg [⟨(some 9), .mv (.t 0), none⟩,
    ⟨(some 10), .len (.t 9), none⟩,
    ⟨(some 11), .bin .neq (.t 10) (.k (.c (.d (.int .i64 16)))), none⟩])
  (.cond (.t 11) (.seq (.reg [⟨(some 2), .mv (.k (.c .nil)), none⟩,
     ⟨(some 3), .mv (.k (.c (.d (.int .i64 3)))), none⟩])
   (.ret))
   (.skip)))
  (.seq (.reg [⟨(some 4), .mv (.k (.c .nil)), none⟩])
  (.seq (.reg [⟨(some 5), .mv (.k (.c (.d (.int .i64 0)))), none⟩])
  (.seq (.seq (.reg [⟨(some 6), .mv (.k (.c (.d (.int .i64 0)))), none⟩])
  (.block 0 (.loop lp_rdgs_0)))
  (.seq (.reg [⟨(some 42), .mv (.t 4), none⟩,
    ⟨(some 43), .mv (.t 5), none⟩,
    ⟨(some 44), .bin .quo (.t 43) (.k (.c (.d (.int .i64 256)))), none⟩,
    ⟨(some 45), .mv (.t 5), none⟩,
    ⟨(some 46), .bin .quo (.t 45) (.k (.c (.d (.int .i64 16)))), none⟩,
    ⟨(some 47), .bin .rem (.t 46) (.k (.c (.d (.int .i64 16)))), none⟩,
    ⟨(some 48), .mv (.t 5), none⟩,
    ⟨(some 49), .bin .rem (.t 48) (.k (.c (.d (.int .i64 16)))), none⟩,
    ⟨(some 50), .bldSl false 3 1 (.int .i64 0) [(0, (.t 44)), (1, (.t 47)), (2, (.t 49))], none⟩,
    ⟨(some 51), .app false 1 8 (.t 42) (.t 50), none⟩,
    ⟨(some 2), .mv (.t 51), none⟩,
    ⟨(some 3), .mv (.k (.c (.d (.int .i64 0)))), none⟩])
  (.ret)))))),
  [(2, none), (3, none)]⟩
theorem cf_rdgs : compFn Tryd.prog { own := [], comp := [], frz := [], nils := [] } Tryd.f84 = some sf_rdgs := by kernel_rfl
set_option maxHeartbeats 3200000 in
theorem rdgs_f (G : Glob) (b : List UInt8) (hb : b.length ≤ 9223372036854775807) : Den Tryd.prog G 84 [.sl (b.map bD)] (.tup [.c (.fr 1 ((dgtV b).map iD)), .c (.d (.int .i64 (dgtE b)))]) := by
  refine den_walk Tryd.func84 cf_rdgs rfl rfl ?_
  by_cases h : b.length = 16
  · obtain ⟨hE, hV⟩ := dig_ok h
    rw [hE, hV]
    simp only [sf_rdgs, putAll, wx, wy, wz, stV, seval, IntWalk.iteOmega, IntWalk.toNatUp, reduceCtorEq, h]
    refine loop_st (rdSt b) (fun j => 16 - j) (fun j => j ≤ 16) 0 (Nat.zero_le _) ?_ ?_
    · refine ent_l (fun i => i) ?_ ?_ rfl rfl <;> simp only [wx, wex, wez, stV, seval, IntWalk.iteOmega, IntWalk.toNatUp, reduceCtorEq, hvV, hvH, halfN, lackN, List.map_nil, List.sum_nil]
    · intro i hi
      have hs := lackN_le (halfN (b.take i))
      rw [halfN_len, List.length_take] at hs
      by_cases hlt : i < 16
      · have hb8 := b[i].toNat_lt
        have hlt' : i < b.length := by omega
        have e2 : b[i]? = some b[i] := List.getElem?_eq_getElem hlt'
        have e5 : bits .and .u8 (b[i].toNat : Int) 15 = ((b[i].toNat % 16 : Nat) : Int) := u8_and15 _ (by omega) (by omega)
        have e6 : (b[i].toNat : Int) / 16 = ((b[i].toNat / 16 : Nat) : Int) := rfl
        have e7 := lack_half b hlt'
        have q1 : b[i].toNat / 16 < 16 := by omega
        have q2 : b[i].toNat % 16 < 16 := by omega
        rcases i with _ | i
        · have h0 := half_0 b hlt'
          have hl : (halfN (b.take 1)).length = 2 := by rw [halfN_len, List.length_take]; omega
          have z0 : lackN (halfN []) = 0 := rfl
          have z1 : lackN (halfN (b.take 0)) = 0 := rfl
          simp only [Nat.zero_add, z1] at e7
          generalize b[0].toNat / 16 = x at *
          generalize b[0].toNat % 16 = y at *
          simp only [lp_rdgs_0, rdSt, hvV, hvH, wx, wy, wz, stV, seval, IntWalk.iteOmega, IntWalk.toNatUp, reduceCtorEq, h, get_map, e2, IntKind.bits, e5, e6, srcV, List.replicate, h0, allSz_i, hl, z0]
          refine lop_next (0 + 1) (by omega) (by omega) (ent_l (fun _ => 272) ?_ ?_ rfl rfl) <;> simp only [wx, wex, wez, stV, seval, IntWalk.iteOmega, IntWalk.toNatUp, reduceCtorEq, hvV, hvH, hl, e7]
        · have h0 := half_i b hlt'
          have hl : (halfN (b.take (i + 1))).length = 2 * (i + 1) := by rw [halfN_len, List.length_take]; omega
          have hl2 : (halfN (b.take (i + 1 + 1))).length = 2 * (i + 1 + 1) := by rw [halfN_len, List.length_take]; omega
          generalize b[i + 1].toNat / 16 = x at *
          generalize b[i + 1].toNat % 16 = y at *
          simp only [lp_rdgs_0, rdSt, hvV, hvH, wx, wy, wz, stV, seval, IntWalk.iteOmega, IntWalk.toNatUp, reduceCtorEq, h, get_map, e2, IntKind.bits, e5, e6, srcV, List.replicate, h0, allSz_i, hl, hl2]
          refine lop_next (i + 1 + 1) (by omega) (by omega) (ent_l (fun _ => 272) ?_ ?_ rfl rfl) <;> simp only [wx, wex, wez, stV, seval, IntWalk.iteOmega, IntWalk.toNatUp, reduceCtorEq, hvV, hvH, hl2, e7]
      · obtain rfl : i = 16 := by omega
        have ht : b.take 16 = b := List.take_of_length_le (by omega)
        have hl : (halfN b).length = 32 := by rw [halfN_len, h]
        have hm := digN_map b
        rw [ht] at hs
        have d1 : (lackN (halfN b) : Int).tdiv 256 = ((lackN (halfN b) / 256 : Nat) : Int) := rfl
        have d2 : (lackN (halfN b) : Int).tdiv 16 = ((lackN (halfN b) / 16 : Nat) : Int) := rfl
        have d3 : ((lackN (halfN b) / 16 : Nat) : Int).tmod 16 = ((lackN (halfN b) / 16 % 16 : Nat) : Int) := rfl
        have d4 : (lackN (halfN b) : Int).tmod 16 = ((lackN (halfN b) % 16 : Nat) : Int) := rfl
        simp only [lp_rdgs_0, rdSt, hvV, hvH, wx, wy, wz, stV, seval, IntWalk.iteOmega, IntWalk.toNatUp, reduceCtorEq, ht, h, d1, d2, d3, d4, srcV, allSz_i, hl]
        exact ret_f2 (by simp only [wx, wy, wz, stV, seval, IntWalk.iteOmega, IntWalk.toNatUp, reduceCtorEq, hm]) (by simp only [wx, wy, wz, stV, seval, IntWalk.iteOmega, IntWalk.toNatUp, reduceCtorEq])
  · obtain ⟨hE, hV⟩ := dig_no h
    rw [hE, hV]
    simp only [sf_rdgs, putAll, wx, wy, wz, stV, seval, IntWalk.iteOmega, IntWalk.toNatUp, reduceCtorEq]
    exact ret_f2 (by simp only [wx, wy, wz, stV, seval, IntWalk.iteOmega, IntWalk.toNatUp, reduceCtorEq]) (by simp only [wx, wy, wz, stV, seval, IntWalk.iteOmega, IntWalk.toNatUp, reduceCtorEq])
theorem dgs_c (G : Glob) (b : List UInt8) (hb : b.length ≤ 9223372036854775807) : Den Tryd.prog G 92 [.sl (b.map bD)] (.tup [.c (.d (.sl ((dgtV b).map iD))), .c (.d (.int .i64 (dgtE b)))]) := den_ro2N (dgs_f G b hb)
theorem rdgs_c (G : Glob) (b : List UInt8) (hb : b.length ≤ 9223372036854775807) : Den Tryd.prog G 84 [.sl (b.map bD)] (.tup [.c (.d (.sl ((dgtV b).map iD))), .c (.d (.int .i64 (dgtE b)))]) := den_ro2N (rdgs_f G b hb)
/-! ### Errors, secrets -/
def chkE (seed : List UInt8) (index : Int) : Int := if ¬ seed.length = 32 then 5 else if index < 0 ∨ 2147483647 < index then 4 else 0
def sf_ochk : SFn := ⟨2, 14,
  .seq (.reg [⟨(some 4), .mv (.k (.c (.d (.int .i64 0)))), none⟩])
  (.seq (.seq (.reg [⟨(some 5), .mv (.t 0), none⟩,
    ⟨(some 6), .len (.t 5), none⟩,
    ⟨(some 7), .bin .neq (.t 6) (.k (.c (.d (.int .i64 32)))), none⟩])
  (.cond (.t 7) (.seq (.reg [⟨(some 4), .mv (.k (.c (.d (.int .i64 5)))), none⟩])
   (.ret))
   (.skip)))
  (.seq (.seq (.reg [⟨(some 8), .mv (.t 1), none⟩,
    ⟨(some 9), .bin .lss (.t 8) (.k (.c (.d (.int .i64 0)))), none⟩,
    ⟨(some 10), .mv (.t 9), none⟩,
    ⟨(some 11), .mv (.t 1), (some (10, false))⟩,
    ⟨(some 12), .bin .gtr (.t 11) (.k (.c (.d (.int .i64 2147483647)))), (some (10, false))⟩,
    ⟨(some 13), .pick (.t 10) (.k (.c (.d (.bool true)))) (.t 12), none⟩])
  (.cond (.t 13) (.seq (.reg [⟨(some 4), .mv (.k (.c (.d (.int .i64 4)))), none⟩])
   (.ret))
   (.skip)))
  (.seq (.reg [⟨(some 4), .mv (.k (.c (.d (.int .i64 0)))), none⟩])
  (.ret)))),
  [(4, none)]⟩
theorem cf_ochk : compFn Tryd.prog { own := [], comp := [], frz := [], nils := [] } Tryd.f110 = some sf_ochk := by kernel_rfl
theorem ochk_c (G : Glob) (seed : List UInt8) (index : Int) : Den Tryd.prog G 110 [.sl (seed.map bD), .int .i64 index] (.w (.c (.d (.int .i64 (chkE seed index))))) := by
  refine den_walk Tryd.func110 cf_ochk rfl rfl ?_
  unfold chkE
  by_cases h : seed.length = 32
  · rw [if_neg (by omega)]
    by_cases h1 : index < 0
    · rw [if_pos (.inl h1)]
      simp only [sf_ochk, putAll, wx, wy, wz, stV, seval, IntWalk.iteOmega, IntWalk.toNatUp, reduceCtorEq, h]
      exact ret_d1 (by simp only [wx, wy, wz, stV, seval, IntWalk.iteOmega, IntWalk.toNatUp, reduceCtorEq])
    · by_cases h2 : 2147483647 < index
      · rw [if_pos (.inr h2)]
        simp only [sf_ochk, putAll, wx, wy, wz, stV, seval, IntWalk.iteOmega, IntWalk.toNatUp, reduceCtorEq, h]
        exact ret_d1 (by simp only [wx, wy, wz, stV, seval, IntWalk.iteOmega, IntWalk.toNatUp, reduceCtorEq])
      · rw [if_neg (by omega)]
        simp only [sf_ochk, putAll, wx, wy, wz, stV, seval, IntWalk.iteOmega, IntWalk.toNatUp, reduceCtorEq, h]
        exact ret_d1 (by simp only [wx, wy, wz, stV, seval, IntWalk.iteOmega, IntWalk.toNatUp, reduceCtorEq])
  · rw [if_pos h]
    simp only [sf_ochk, putAll, wx, wy, wz, stV, seval, IntWalk.iteOmega, IntWalk.toNatUp, reduceCtorEq]
    exact ret_d1 (by simp only [wx, wy, wz, stV, seval, IntWalk.iteOmega, IntWalk.toNatUp, reduceCtorEq])
def sf_rochk : SFn := ⟨2, 14,
  .seq (.reg [⟨(some 4), .mv (.k (.c (.d (.int .i64 0)))), none⟩])
  (.seq (.seq (.reg [⟨(some 5), .mv (.t 0), none⟩,
    ⟨(some 6), .len (.t 5), none⟩,
    ⟨(some 7), .bin .neq (.t 6) (.k (.c (.d (.int .i64 32)))), none⟩])
  (.cond (.t 7) (.seq (.reg [⟨(some 4), .mv (.k (.c (.d (.int .i64 5)))), none⟩])
   (.ret))
   (.skip)))
  (.seq (.seq (.reg [⟨(some 8), .mv (.t 1), none⟩,
    ⟨(some 9), .bin .lss (.t 8) (.k (.c (.d (.int .i64 0)))), none⟩,
    ⟨(some 10), .mv (.t 9), none⟩,
    ⟨(some 11), .mv (.t 1), (some (10, false))⟩,
    ⟨(some 12), .bin .gtr (.t 11) (.k (.c (.d (.int .i64 2147483647)))), (some (10, false))⟩,
    ⟨(some 13), .pick (.t 10) (.k (.c (.d (.bool true)))) (.t 12), none⟩])
  (.cond (.t 13) (.seq (.reg [⟨(some 4), .mv (.k (.c (.d (.int .i64 4)))), none⟩])
   (.ret))
   (.skip)))
  (.seq (.reg [⟨(some 4), .mv (.k (.c (.d (.int .i64 0)))), none⟩])
  (.ret)))),
  [(4, none)]⟩
theorem cf_rochk : compFn Tryd.prog { own := [], comp := [], frz := [], nils := [] } Tryd.f83 = some sf_rochk := by kernel_rfl
theorem rochk_c (G : Glob) (seed : List UInt8) (index : Int) : Den Tryd.prog G 83 [.sl (seed.map bD), .int .i64 index] (.w (.c (.d (.int .i64 (chkE seed index))))) := by
  refine den_walk Tryd.func83 cf_rochk rfl rfl ?_
  unfold chkE
  by_cases h : seed.length = 32
  · rw [if_neg (by omega)]
    by_cases h1 : index < 0
    · rw [if_pos (.inl h1)]
      simp only [sf_rochk, putAll, wx, wy, wz, stV, seval, IntWalk.iteOmega, IntWalk.toNatUp, reduceCtorEq, h]
      exact ret_d1 (by simp only [wx, wy, wz, stV, seval, IntWalk.iteOmega, IntWalk.toNatUp, reduceCtorEq])
    · by_cases h2 : 2147483647 < index
      · rw [if_pos (.inr h2)]
        simp only [sf_rochk, putAll, wx, wy, wz, stV, seval, IntWalk.iteOmega, IntWalk.toNatUp, reduceCtorEq, h]
        exact ret_d1 (by simp only [wx, wy, wz, stV, seval, IntWalk.iteOmega, IntWalk.toNatUp, reduceCtorEq])
      · rw [if_neg (by omega)]
        simp only [sf_rochk, putAll, wx, wy, wz, stV, seval, IntWalk.iteOmega, IntWalk.toNatUp, reduceCtorEq, h]
        exact ret_d1 (by simp only [wx, wy, wz, stV, seval, IntWalk.iteOmega, IntWalk.toNatUp, reduceCtorEq])
  · rw [if_pos h]
    simp only [sf_rochk, putAll, wx, wy, wz, stV, seval, IntWalk.iteOmega, IntWalk.toNatUp, reduceCtorEq]
    exact ret_d1 (by simp only [wx, wy, wz, stV, seval, IntWalk.iteOmega, IntWalk.toNatUp, reduceCtorEq])
theorem chkE_ok {seed : List UInt8} {index : Int} (h : chkE seed index = 0) : seed.length = 32 ∧ 0 ≤ index ∧ index ≤ 2147483647 := by
  unfold chkE at h
  split at h
  · cases h
  · split at h
    · cases h
    · omega
def secE (seed : List UInt8) (index chain : Int) : Int := if chkE seed index = 0 then (if chain < 0 ∨ 35 ≤ chain then 4 else 0) else chkE seed index
def secV (seed : List UInt8) (index chain : Int) : List UInt8 := if secE seed index chain = 0 then secM seed index.toNat chain.toNat else []
theorem putL_1 (c : Nat) : putL c 1 = [UInt8.ofNat c] := by
  show [UInt8.ofNat (c / 1)] = _
  rw [Nat.div_one]
theorem sec_join (seed : List UInt8) (i c : Nat) : [seed, putL i 4, putL c 1].flatten = seed ++ putL i 4 ++ [UInt8.ofNat c] := by rw [putL_1]; simp
def sf_sec0 : SFn := ⟨3, 17,
  .seq (.reg [⟨(some 6), .mv (.k (.c .nil)), none⟩])
  (.seq (.reg [⟨(some 7), .mv (.t 0), none⟩,
    ⟨(some 8), .mv (.t 1), none⟩,
    ⟨(some 9), .conv .u64 (.t 8), none⟩,
    ⟨(some 10), .call 75 [(.t 9), (.k (.c (.d (.int .i64 4))))] none, none⟩,
    ⟨(some 11), .mv (.t 2), none⟩,
    ⟨(some 12), .conv .u64 (.t 11), none⟩,
    ⟨(some 13), .call 75 [(.t 12), (.k (.c (.d (.int .i64 1))))] none, none⟩,
    ⟨(some 14), .bldSl false 3 1 (.sl []) [(0, (.t 7)), (1, (.t 10)), (2, (.t 13))], none⟩,
    ⟨(some 15), .call 43 [(.t 14)] none, none⟩,
    ⟨(some 16), .call 95 [(.t 15)] (some (0, 1)), none⟩,
    ⟨(some 6), .mv (.t 16), none⟩])
  (.ret)),
  [(6, none)]⟩
theorem cf_sec0 : compFn Tryd.prog { own := [16], comp := [], frz := [], nils := [] } Tryd.f111 = some sf_sec0 := by kernel_rfl
set_option maxHeartbeats 1600000 in
theorem sec0_f (G : Glob) (hF : G.at 0 = some (.ra (firstK.map wD))) (hG : G.at 1 = some (.ra (constK.map wD))) (seed : List UInt8) (i c : Nat) (hs : seed.length = 32) (hi : i ≤ 2147483647) (hc : c < 35) : Den Tryd.prog G 111 [.sl (seed.map bD), .int .i64 (i : Int), .int .i64 (c : Int)] (.w (.c (.fr 1 ((secM seed i c).map bD)))) := by
  refine den_walk Tryd.func111 cf_sec0 rfl rfl ?_
  have p1 := put_in G i 4 (by decide)
  have p2 := put_in G c 1 (by decide)
  have hj := join_c G [seed, putL i 4, putL c 1] (by simp) (by simp [putL_length]; omega)
  rw [sec_join] at hj
  have hh := short_c G hF hG (seed ++ putL i 4 ++ [UInt8.ofNat c]) (by simp [putL_length]; omega)
  have hm : shortK (seed ++ putL i 4 ++ [UInt8.ofNat c]) = secM seed i c := rfl
  rw [hm] at hh
  generalize seed ++ putL i 4 ++ [UInt8.ofNat c] = z at *
  have w1 : IntKind.u64.wrap (i : Int) = (i : Int) := by rw [IntKind.wrap_u64]; omega
  have w2 : IntKind.u64.wrap (c : Int) = (c : Int) := by rw [IntKind.wrap_u64]; omega
  simp only [sf_sec0, putAll, wx, wy, wz, stV, seval, IntWalk.iteOmega, IntWalk.toNatUp, reduceCtorEq, w1, w2]
  refine st_call (p1) rfl (.inl rfl) ?_
  simp only [w2, wx, wy, wz, stV, seval, IntWalk.iteOmega, IntWalk.toNatUp, reduceCtorEq]
  refine st_call (p2) rfl (.inl rfl) ?_
  simp only [wx, wy, wz, stV, seval, IntWalk.iteOmega, IntWalk.toNatUp, reduceCtorEq]
  refine st_call (hj) rfl (.inl rfl) ?_
  simp only [wx, wy, wz, stV, seval, IntWalk.iteOmega, IntWalk.toNatUp, reduceCtorEq]
  refine st_call (hh) rfl (.inl rfl) ?_
  simp only [wx, wy, wz, stV, seval, IntWalk.iteOmega, IntWalk.toNatUp, reduceCtorEq]
  exact ret_f1 (by simp only [wx, wy, wz, stV, seval, IntWalk.iteOmega, IntWalk.toNatUp, reduceCtorEq])
theorem sec0_c (G : Glob) (hF : G.at 0 = some (.ra (firstK.map wD))) (hG : G.at 1 = some (.ra (constK.map wD))) (seed : List UInt8) (i c : Nat) (hs : seed.length = 32) (hi : i ≤ 2147483647) (hc : c < 35) : Den Tryd.prog G 111 [.sl (seed.map bD), .int .i64 (i : Int), .int .i64 (c : Int)] (.w (.c (.d (.sl ((secM seed i c).map bD))))) := den_ro (sec0_f G hF hG seed i c hs hi hc)
def sf_rshF : SFn := ⟨1, 6,
  .seq (.reg [⟨(some 2), .mv (.k (.c .nil)), none⟩])
  (.seq (.reg [⟨(some 3), .mv (.t 0), none⟩,
    ⟨(some 4), .call 61 [(.t 3)] (some (0, 1)), none⟩,
    ⟨(some 5), .slice 1 (.t 4) none (some (.k (.c (.d (.int .i64 16))))) none, none⟩,
    ⟨(some 2), .mv (.t 5), none⟩])
  (.ret)),
  [(2, none)]⟩
theorem cf_rshF : compFn Tryd.prog { own := [4], comp := [], frz := [], nils := [] } Tryd.f87 = some sf_rshF := by kernel_rfl
set_option maxHeartbeats 1600000 in
theorem rshF_f (G : Glob) (b : List UInt8) (hb : b.length ≤ 140737488355328) : Den Tryd.prog G 87 [.sl (b.map bD)] (.w (.c (.fr 1 ((shortK b).map bD)))) := by
  refine den_walk Tryd.func87 cf_rshF rfl rfl ?_
  have hl := sumK_len b
  have hs : (shortK b).map bD = ((sumK b).map bD).take 16 := by unfold shortK; rw [List.map_take]
  simp only [sf_rshF, putAll, wx, wy, wz, stV, seval, IntWalk.iteOmega, IntWalk.toNatUp, reduceCtorEq]
  refine st_call (rsum_c G b hb) rfl (.inl rfl) ?_
  simp only [wx, wy, wz, stV, seval, IntWalk.iteOmega, IntWalk.toNatUp, reduceCtorEq, hl]
  rw [hs]
  exact ret_ownN (id := 32) (n := 16) (s := 1) (by simp only [wx, stV, seval, IntWalk.iteOmega, IntWalk.toNatUp, reduceCtorEq]) (by simp only [wx, stV, seval, IntWalk.iteOmega, IntWalk.toNatUp, reduceCtorEq]) (by rw [List.length_map]; omega)
def sf_rsec : SFn := ⟨3, 31,
  .seq (.reg [⟨(some 6), .mv (.k (.c .nil)), none⟩,
    ⟨(some 7), .mv (.k (.c (.d (.int .i64 0)))), none⟩])
  (.seq (.seq (.reg [⟨(some 9), .mv (.t 0), none⟩,
    ⟨(some 10), .mv (.t 1), none⟩,
    ⟨(some 11), .call 83 [(.t 9), (.t 10)] none, none⟩,
    ⟨(some 8), .mv (.t 11), none⟩])
  (.seq (.reg [⟨(some 12), .mv (.t 8), none⟩,
    ⟨(some 13), .bin .neq (.t 12) (.k (.c (.d (.int .i64 0)))), none⟩])
  (.cond (.t 13) (.seq (.reg [⟨(some 14), .mv (.t 8), none⟩,
     ⟨(some 6), .mv (.k (.c .nil)), none⟩,
     ⟨(some 7), .mv (.t 14), none⟩])
   (.ret))
   (.skip))))
  (.seq (.seq (.reg [⟨(some 15), .mv (.t 2), none⟩,
    ⟨(some 16), .bin .lss (.t 15) (.k (.c (.d (.int .i64 0)))), none⟩,
    ⟨(some 17), .mv (.t 16), none⟩,
    ⟨(some 18), .mv (.t 2), (some (17, false))⟩,
    ⟨(some 19), .bin .geq (.t 18) (.k (.c (.d (.int .i64 35)))), (some (17, false))⟩,
    ⟨(some 20), .pick (.t 17) (.k (.c (.d (.bool true)))) (.t 19), none⟩])
  (.cond (.t 20) (.seq (.reg [⟨(some 6), .mv (.k (.c .nil)), none⟩,
     ⟨(some 7), .mv (.k (.c (.d (.int .i64 4)))), none⟩])
   (.ret))
   (.skip)))
  (.seq (.reg [⟨(some 21), .mv (.t 0), none⟩,
    ⟨(some 22), .mv (.t 1), none⟩,
    ⟨(some 23), .conv .u64 (.t 22), none⟩,
    ⟨(some 24), .call 51 [(.t 23), (.k (.c (.d (.int .i64 4))))] none, none⟩,
    ⟨(some 25), .mv (.t 2), none⟩,
    ⟨(some 26), .conv .u8 (.t 25), none⟩,
    ⟨(some 27), .bldSl false 1 1 (.int .u8 0) [(0, (.t 26))], none⟩,
    ⟨(some 28), .bldSl false 3 1 (.sl []) [(0, (.t 21)), (1, (.t 24)), (2, (.t 27))], none⟩,
    ⟨(some 29), .call 41 [(.t 28)] none, none⟩,
    ⟨(some 30), .call 87 [(.t 29)] (some (0, 1)), none⟩,
    ⟨(some 6), .mv (.t 30), none⟩,
    ⟨(some 7), .mv (.k (.c (.d (.int .i64 0)))), none⟩])
  (.ret)))),
  [(6, none), (7, none)]⟩
theorem cf_rsec : compFn Tryd.prog { own := [30], comp := [], frz := [], nils := [] } Tryd.f85 = some sf_rsec := by kernel_rfl
set_option maxHeartbeats 1600000 in
theorem rsec_f (G : Glob) (seed : List UInt8) (index chain : Int) : Den Tryd.prog G 85 [.sl (seed.map bD), .int .i64 index, .int .i64 chain] (.tup [.c (.fr 1 ((secV seed index chain).map bD)), .c (.d (.int .i64 (secE seed index chain)))]) := by
  refine den_walk Tryd.func85 cf_rsec rfl rfl ?_
  have hk := rochk_c G seed index
  by_cases h : chkE seed index = 0
  · obtain ⟨k1, k2, k3⟩ := chkE_ok h
    rw [h] at hk
    by_cases h1 : chain < 0
    · have hE : secE seed index chain = 4 := by unfold secE; rw [if_pos h, if_pos (.inl h1)]
      have hV : secV seed index chain = [] := if_neg (by rw [hE]; decide)
      rw [hE, hV]
      simp only [sf_rsec, putAll, wx, wy, wz, stV, seval, IntWalk.iteOmega, IntWalk.toNatUp, reduceCtorEq]
      refine st_call (hk) rfl (.inl rfl) ?_
      simp only [wx, wy, wz, stV, seval, IntWalk.iteOmega, IntWalk.toNatUp, reduceCtorEq]
      exact ret_f2 (by simp only [wx, wy, wz, stV, seval, IntWalk.iteOmega, IntWalk.toNatUp, reduceCtorEq]) (by simp only [wx, wy, wz, stV, seval, IntWalk.iteOmega, IntWalk.toNatUp, reduceCtorEq])
    · by_cases h2 : 35 ≤ chain
      · have hE : secE seed index chain = 4 := by unfold secE; rw [if_pos h, if_pos (.inr h2)]
        have hV : secV seed index chain = [] := if_neg (by rw [hE]; decide)
        rw [hE, hV]
        simp only [sf_rsec, putAll, wx, wy, wz, stV, seval, IntWalk.iteOmega, IntWalk.toNatUp, reduceCtorEq]
        refine st_call (hk) rfl (.inl rfl) ?_
        simp only [wx, wy, wz, stV, seval, IntWalk.iteOmega, IntWalk.toNatUp, reduceCtorEq]
        exact ret_f2 (by simp only [wx, wy, wz, stV, seval, IntWalk.iteOmega, IntWalk.toNatUp, reduceCtorEq]) (by simp only [wx, wy, wz, stV, seval, IntWalk.iteOmega, IntWalk.toNatUp, reduceCtorEq])
      · have hE : secE seed index chain = 0 := by unfold secE; rw [if_pos h, if_neg (by omega)]
        have hV : secV seed index chain = secM seed index.toNat chain.toNat := if_pos hE
        rw [hE, hV]
        obtain ⟨i, rfl⟩ := Int.eq_ofNat_of_zero_le k2
        obtain ⟨c, rfl⟩ := Int.eq_ofNat_of_zero_le (by omega : 0 ≤ chain)
        have e1 : ((i : Int).toNat) = i := rfl
        have e2 : ((c : Int).toNat) = c := rfl
        rw [e1, e2]
        have p1 := rput_in G i 4 (by decide)
        have hj := rjoin_c G [seed, putL i 4, [UInt8.ofNat c]] (by simp) (by simp [putL_length]; omega)
        have hf : [seed, putL i 4, [UInt8.ofNat c]].flatten = seed ++ putL i 4 ++ [UInt8.ofNat c] := by simp
        rw [hf] at hj
        have hh := rshF_f G (seed ++ putL i 4 ++ [UInt8.ofNat c]) (by simp [putL_length]; omega)
        have hm : shortK (seed ++ putL i 4 ++ [UInt8.ofNat c]) = secM seed i c := rfl
        rw [hm] at hh
        have hbo := byte_of c
        have w1 : IntKind.u64.wrap (i : Int) = (i : Int) := by rw [IntKind.wrap_u64]; omega
        have w2 : IntKind.u8.wrap (c : Int) = (c : Int) := by rw [IntKind.wrap_u8]; omega
        rw [w2] at hbo
        simp only [List.map_cons, List.map_nil] at hj
        rw [← hbo] at hj
        generalize seed ++ putL i 4 ++ [UInt8.ofNat c] = z at *
        simp only [sf_rsec, putAll, wx, wy, wz, stV, seval, IntWalk.iteOmega, IntWalk.toNatUp, reduceCtorEq, w1]
        refine st_call (hk) rfl (.inl rfl) ?_
        simp only [w1, wx, wy, wz, stV, seval, IntWalk.iteOmega, IntWalk.toNatUp, reduceCtorEq]
        refine st_call (p1) rfl (.inl rfl) ?_
        simp only [wx, wy, wz, stV, seval, IntWalk.iteOmega, IntWalk.toNatUp, reduceCtorEq]
        refine st_call (hj) rfl (.inl rfl) ?_
        simp only [wx, wy, wz, stV, seval, IntWalk.iteOmega, IntWalk.toNatUp, reduceCtorEq]
        refine st_call (hh) rfl (.inl rfl) ?_
        simp only [wx, wy, wz, stV, seval, IntWalk.iteOmega, IntWalk.toNatUp, reduceCtorEq]
        exact ret_f2 (by simp only [wx, wy, wz, stV, seval, IntWalk.iteOmega, IntWalk.toNatUp, reduceCtorEq]) (by simp only [wx, wy, wz, stV, seval, IntWalk.iteOmega, IntWalk.toNatUp, reduceCtorEq])
  · have hE : secE seed index chain = chkE seed index := if_neg h
    have hV : secV seed index chain = [] := if_neg (by rw [hE]; exact h)
    rw [hE, hV]
    generalize chkE seed index = e at *
    simp only [sf_rsec, putAll, wx, wy, wz, stV, seval, IntWalk.iteOmega, IntWalk.toNatUp, reduceCtorEq]
    refine st_call (hk) rfl (.inl rfl) ?_
    simp only [wx, wy, wz, stV, seval, IntWalk.iteOmega, IntWalk.toNatUp, reduceCtorEq]
    exact ret_f2 (by simp only [wx, wy, wz, stV, seval, IntWalk.iteOmega, IntWalk.toNatUp, reduceCtorEq]) (by simp only [wx, wy, wz, stV, seval, IntWalk.iteOmega, IntWalk.toNatUp, reduceCtorEq])
theorem rsec_c (G : Glob) (seed : List UInt8) (index chain : Int) : Den Tryd.prog G 85 [.sl (seed.map bD), .int .i64 index, .int .i64 chain] (.tup [.c (.d (.sl ((secV seed index chain).map bD))), .c (.d (.int .i64 (secE seed index chain)))]) := den_ro2 (rsec_f G seed index chain)
end Go.Proofs.YtjgkchmdhicmpaaDoor
set_option linter.unusedVariables false
set_option linter.unusedSimpArgs false
namespace Go.Proofs.YtjgkchmdhicmpaaDoor
open Go.RowKit

/-! ### Hexadecimal digits read -/
def isDig (c : UInt8) : Bool := (decide (48 ≤ c.toNat) && decide (c.toNat ≤ 57)) || (decide (97 ≤ c.toNat) && decide (c.toNat ≤ 102))
def digV (c : UInt8) : UInt8 := if 48 ≤ c.toNat ∧ c.toNat ≤ 57 then UInt8.ofNat (c.toNat - 48) else if 97 ≤ c.toNat ∧ c.toNat ≤ 102 then UInt8.ofNat (c.toNat - 87) else 0
theorem bD_ofNat {i : Nat} (h : i < 256) : bD (UInt8.ofNat i) = .int .u8 (i : Int) := by
  unfold bD; rw [UInt8.toNat_ofNat_of_lt' (by simpa [UInt8.size] using h)]
theorem dig_a {c : UInt8} (h : 48 ≤ c.toNat ∧ c.toNat ≤ 57) : isDig c = true ∧ D.int .u8 ((c.toNat : Int) - 48) = bD (digV c) := by
  refine ⟨by simp [isDig, h.1, h.2], ?_⟩
  unfold digV
  rw [if_pos h, bD_ofNat (by omega)]
  congr 1; omega
theorem dig_b {c : UInt8} (h : 97 ≤ c.toNat ∧ c.toNat ≤ 102) : isDig c = true ∧ D.int .u8 ((c.toNat : Int) - 97 + 10) = bD (digV c) := by
  refine ⟨by simp [isDig, h.1, h.2], ?_⟩
  unfold digV
  rw [if_neg (by omega), if_pos h, bD_ofNat (by omega)]
  congr 1; omega
theorem dig_n {c : UInt8} (h1 : ¬ (48 ≤ c.toNat ∧ c.toNat ≤ 57)) (h2 : ¬ (97 ≤ c.toNat ∧ c.toNat ≤ 102)) : isDig c = false ∧ D.int .u8 0 = bD (digV c) := by
  refine ⟨?_, ?_⟩
  · unfold isDig
    rw [Bool.or_eq_false_iff]
    constructor
    · rw [← Bool.decide_and]; exact decide_eq_false h1
    · rw [← Bool.decide_and]; exact decide_eq_false h2
  · unfold digV; rw [if_neg h1, if_neg h2]; rfl
def hexV (l : List UInt8) (j : Nat) : UInt8 := orB (shlB (digV (l.getD (2 * j) 0)) 4) (digV (l.getD (2 * j + 1) 0))
def hexO (l : List UInt8) (j : Nat) : Bool := isDig (l.getD (2 * j) 0) && isDig (l.getD (2 * j + 1) 0)
def unhP (l : List UInt8) (j : Nat) : List UInt8 := (List.range j).map (hexV l)
def unhO (l : List UInt8) : Bool := decide (l.length % 2 = 0) && (List.range (l.length / 2)).all (hexO l)
def unhL (l : List UInt8) : List UInt8 := if unhO l = true then unhP l (l.length / 2) else []
theorem unhP_len (l : List UInt8) (j : Nat) : (unhP l j).length = j := by unfold unhP; rw [List.length_map, List.length_range]
theorem unhP_step (l : List UInt8) (j : Nat) : unhP l j ++ [hexV l j] = unhP l (j + 1) := by unfold unhP; rw [List.range_succ, List.map_append]; rfl
def unhSt (s : ByteArray) (j : Nat) : St := ⟨ofL [(0, .w (.c (.d (.str s)))), (4, .w (.c (.own 1 1 0 j))), (5, .w (.c (.d (.int .i64 ((2 * j : Nat) : Int)))))], hL [(1, .row 1 ((unhP s.data.toList j).map bD))], uL [1]⟩

/-! ### Lists of bytes that are the same -/
def slistB (l : List UInt8) : D := .sl (l.map bD)
def slsSt (a b : List (List UInt8)) (i : Nat) : St := ⟨ofL [(0, .w (.c (.d (.sl (a.map slistB))))), (1, .w (.c (.d (.sl (b.map slistB))))), (5, .w (.c (.d (.int .i64 (i : Int)))))], hL [], uL []⟩
end Go.Proofs.YtjgkchmdhicmpaaDoor
set_option linter.unusedVariables false
set_option linter.unusedSimpArgs false
namespace Go.Proofs.YtjgkchmdhicmpaaDoor
open Go.RowKit

/-! ### The way up from a tree of s leaves with leaf i -/
def wayM (n i s : Nat) : List Bool := if n ≤ s then [] else if n ≤ 1 then [] else if i < splitN n then wayM (splitN n) i s ++ [false] else wayM (n - splitN n) (i - splitN n) s ++ [true]
termination_by n
decreasing_by
  · exact split_lt (by omega)
  · have := split_pos n; omega
theorem way_0 {n s : Nat} (h : n ≤ s) (i : Nat) : wayM n i s = [] := by rw [wayM, if_pos h]
theorem way_lo {n i s : Nat} (h0 : 1 ≤ s) (h : s < n) (hi : i < splitN n) : wayM n i s = wayM (splitN n) i s ++ [false] := by rw [wayM, if_neg (by omega), if_neg (by omega), if_pos hi]
theorem way_hi {n i s : Nat} (h0 : 1 ≤ s) (h : s < n) (hi : ¬ i < splitN n) : wayM n i s = wayM (n - splitN n) (i - splitN n) s ++ [true] := by rw [wayM, if_neg (by omega), if_neg (by omega), if_neg hi]
def othM (l : List (List UInt8)) (i s : Nat) : List (List UInt8) :=
  if l.length ≤ s then [] else if l.length ≤ 1 then [] else if i < splitN l.length then othM (l.take (splitN l.length)) i s ++ [rootM (l.drop (splitN l.length))] else othM (l.drop (splitN l.length)) (i - splitN l.length) s ++ [rootM (l.take (splitN l.length))]
termination_by l.length
decreasing_by
  · have := split_lt (n := l.length) (by omega); rw [List.length_take]; omega
  · have := split_pos l.length; rw [List.length_drop]; omega
theorem oth_0 {l : List (List UInt8)} {s : Nat} (h : l.length ≤ s) (i : Nat) : othM l i s = [] := by rw [othM, if_pos h]
theorem oth_lo {l : List (List UInt8)} {i s : Nat} (h0 : 1 ≤ s) (h : s < l.length) (hi : i < splitN l.length) : othM l i s = othM (l.take (splitN l.length)) i s ++ [rootM (l.drop (splitN l.length))] := by rw [othM, if_neg (by omega), if_neg (by omega), if_pos hi]
theorem oth_hi {l : List (List UInt8)} {i s : Nat} (h0 : 1 ≤ s) (h : s < l.length) (hi : ¬ i < splitN l.length) : othM l i s = othM (l.drop (splitN l.length)) (i - splitN l.length) s ++ [rootM (l.take (splitN l.length))] := by rw [othM, if_neg (by omega), if_neg (by omega), if_neg hi]
theorem way_len1 : ∀ (n i : Nat), (wayM n i 1).length = depthM n i := by
  intro n
  induction n using Nat.strongRecOn with
  | _ n ih =>
    intro i
    by_cases h : 2 ≤ n
    · have h1 := split_pos n
      by_cases hi : i < splitN n
      · rw [way_lo (by decide) (by omega) hi, depth_lo h hi, List.length_append, ih _ (split_lt h)]; rfl
      · rw [way_hi (by decide) (by omega) hi, depth_hi h hi, List.length_append, ih _ (by omega)]; rfl
    · rw [way_0 (by omega), depth_1 (by omega)]; rfl
theorem oth_path : ∀ (n : Nat) (l : List (List UInt8)) (i : Nat), l.length = n → othM l i 1 = pathM l i := by
  intro n
  induction n using Nat.strongRecOn with
  | _ n ih =>
    intro l i hl
    subst hl
    by_cases h : 2 ≤ l.length
    · have h1 := split_pos l.length
      have h2 := split_lt h
      by_cases hi : i < splitN l.length
      · rw [oth_lo (by decide) (by omega) hi, path_lo h hi, ih _ h2 _ i (by rw [List.length_take]; omega)]
      · rw [oth_hi (by decide) (by omega) hi, path_hi h hi, ih _ (by omega) _ _ List.length_drop]
    · rw [oth_0 (by omega), path_1 (by omega)]
theorem way_le : ∀ (n i s : Nat), (wayM n i s).length ≤ n := by
  intro n
  induction n using Nat.strongRecOn with
  | _ n ih =>
    intro i s
    by_cases h : n ≤ s
    · rw [way_0 h]; exact Nat.zero_le _
    · rw [wayM, if_neg h]
      by_cases h1 : n ≤ 1
      · rw [if_pos h1]; exact Nat.zero_le _
      · have h2 := split_lt (n := n) (by omega)
        have h3 := split_pos n
        rw [if_neg h1]
        split
        · have := ih _ h2 i s
          rw [List.length_append, List.length_singleton]; omega
        · have := ih (n - splitN n) (by omega) (i - splitN n) s
          rw [List.length_append, List.length_singleton]; omega
theorem oth_le : ∀ (n : Nat) (l : List (List UInt8)) (i s : Nat), l.length = n → (othM l i s).length ≤ n := by
  intro n
  induction n using Nat.strongRecOn with
  | _ n ih =>
    intro l i s hl
    subst hl
    by_cases h : l.length ≤ s
    · rw [oth_0 h]; exact Nat.zero_le _
    · rw [othM, if_neg h]
      by_cases h1 : l.length ≤ 1
      · rw [if_pos h1]; exact Nat.zero_le _
      · have h2 := split_lt (n := l.length) (by omega)
        have h3 := split_pos l.length
        rw [if_neg h1]
        split
        · have := ih _ h2 (l.take (splitN l.length)) i s (by rw [List.length_take]; omega)
          rw [List.length_append, List.length_singleton]; omega
        · have := ih (l.length - splitN l.length) (by omega) (l.drop (splitN l.length)) (i - splitN l.length) s List.length_drop
          rw [List.length_append, List.length_singleton]; omega
/-! ### The least power of two in a sum -/
def lowF : Nat → Nat → Nat
  | 0, _ => 1
  | f + 1, m => if m % 2 = 1 then 1 else 2 * lowF f (m / 2)
def lowN (m : Nat) : Nat := lowF 64 m
theorem lowF_le : ∀ (f m : Nat), 1 ≤ m → 1 ≤ lowF f m ∧ lowF f m ≤ m
  | 0, m, h => ⟨Nat.le_refl _, h⟩
  | f + 1, m, h => by
    unfold lowF
    split
    · omega
    · have := lowF_le f (m / 2) (by omega)
      omega
theorem low_le {m : Nat} (h : 1 ≤ m) : 1 ≤ lowN m ∧ lowN m ≤ m := lowF_le 64 m h
theorem lowF_pow : ∀ (j f : Nat), j ≤ f → lowF f (2 ^ j) = 2 ^ j
  | 0, 0, _ => rfl
  | 0, f + 1, _ => rfl
  | j + 1, 0, h => by omega
  | j + 1, f + 1, h => by
    have e : 2 ^ (j + 1) = 2 * 2 ^ j := by rw [Nat.pow_succ]; omega
    unfold lowF
    rw [if_neg (by omega), show 2 ^ (j + 1) / 2 = 2 ^ j by omega, lowF_pow j f (by omega)]
    omega
theorem low_pow {j : Nat} (h : j ≤ 64) : lowN (2 ^ j) = 2 ^ j := lowF_pow j 64 h
theorem lowF_sub : ∀ (j f m : Nat), 2 ^ j < m → m < 2 * 2 ^ j → lowF f (m - 2 ^ j) = lowF f m
  | _, 0, _, _, _ => rfl
  | 0, f + 1, m, h1, h2 => by simp at h1 h2; omega
  | j + 1, f + 1, m, h1, h2 => by
    have e : 2 ^ (j + 1) = 2 * 2 ^ j := by rw [Nat.pow_succ]; omega
    rw [lowF, lowF]
    by_cases ho : m % 2 = 1
    · rw [if_pos (by omega), if_pos ho]
    · rw [if_neg (by omega), if_neg ho, show (m - 2 ^ (j + 1)) / 2 = m / 2 - 2 ^ j by omega, lowF_sub j f (m / 2) (by omega) (by omega)]
theorem low_sub {n m : Nat} (hn : 2 ≤ n) (h : m < n) (hk : splitN n < m) : lowN (m - splitN n) = lowN m := by
  have := split_le hn
  unfold splitN at hk this ⊢
  exact lowF_sub _ _ _ hk (by omega)
theorem low_split {n : Nat} (h2 : 2 ≤ n) (h : n ≤ 1024) : lowN (splitN n) = splitN n := by
  have h1 := split_lt h2
  unfold splitN at h1 ⊢
  refine low_pow ?_
  have h3 : 2 ^ Nat.log2 (n - 1) < 2 ^ 10 := by omega
  have := (Nat.pow_lt_pow_iff_right (by decide)).1 h3
  omega
theorem split_split {n : Nat} (h : 2 ≤ splitN n) : splitN n = 2 * splitN (splitN n) := by
  unfold splitN at h ⊢
  generalize Nat.log2 (n - 1) = j at h ⊢
  cases j with
  | zero => simp at h
  | succ j =>
    have e : 2 ^ (j + 1) = 2 * 2 ^ j := by rw [Nat.pow_succ]; omega
    have := Nat.two_pow_pos j
    have h2 := split_eq (n := 2 ^ (j + 1)) (j := j) (by omega) (Nat.le_refl _)
    unfold splitN at h2
    rw [h2, e]
theorem low_bits : ∀ m : Fin 1025, 1 ≤ m.val → bits .and .i64 (m.val : Int) (-(m.val : Int)) = (lowN m.val : Int) := by decide +kernel
/-! ### Proofs of growth by both codes -/
def lastT (l : List (List UInt8)) (m : Nat) : List (List UInt8) := (l.drop (m - lowN m)).take (lowN m)
/-- Half way: the tree of m leaves is a tree of its own, or there are more leaves. -/
def Whole (m n : Nat) : Prop := m < n ∨ (m = n ∧ lowN m = m)
theorem proof_oth : ∀ (n : Nat) (l : List (List UInt8)) (m : Nat) (whole : Bool), l.length = n → n ≤ 1024 → 1 ≤ m → Whole m n → proofM m l whole = (if whole = true ∧ lowN m = m then othM l (m - 1) (lowN m) else rootM (lastT l m) :: othM l (m - 1) (lowN m)) := by
  intro n
  induction n using Nat.strongRecOn with
  | _ n ih =>
    intro l m whole hl hn h0 hw
    subst hl
    obtain ⟨q1, q2⟩ := low_le h0
    rcases hw with h | ⟨h, hp⟩
    · have h1 := split_pos l.length
      have h2 := split_lt (n := l.length) (by omega)
      by_cases hk : m ≤ splitN l.length
      · have hl1 : (l.take (splitN l.length)).length = splitN l.length := by rw [List.length_take]; omega
        have hW : Whole m (splitN l.length) := by
          rcases Nat.lt_or_ge m (splitN l.length) with h3 | h3
          · exact .inl h3
          · obtain rfl : m = splitN l.length := by omega
            exact .inr ⟨rfl, low_split (by omega) hn⟩
        have e1 := ih _ h2 _ m whole hl1 (by omega) h0 hW
        have e2 : lastT (l.take (splitN l.length)) m = lastT l m := by
          unfold lastT
          rw [List.drop_take, List.take_take]
          congr 1; omega
        rw [e2] at e1
        rw [proof_lo h0 h hk, e1, oth_lo (l := l) (i := m - 1) q1 (by omega) (by omega)]
        split <;> rfl
      · have hl1 : (l.drop (splitN l.length)).length = l.length - splitN l.length := List.length_drop
        have h4 := split_le (n := l.length) (by omega)
        have e0 := low_sub (n := l.length) (m := m) (by omega) h (by omega)
        obtain ⟨q3, q4⟩ := low_le (m := m - splitN l.length) (by omega)
        have e1 := ih _ (by omega) _ (m - splitN l.length) false hl1 (by omega) (by omega) (.inl (by omega))
        have e2 : lastT (l.drop (splitN l.length)) (m - splitN l.length) = lastT l m := by
          unfold lastT
          rw [e0, List.drop_drop, show splitN l.length + (m - splitN l.length - lowN m) = m - lowN m by omega]
        rw [e2, e0, if_neg (by simp)] at e1
        rw [proof_hi h0 h hk, e1, oth_hi (l := l) (i := m - 1) q1 (by omega) (by omega), if_neg (by omega), show m - 1 - splitN l.length = m - splitN l.length - 1 by omega]
        rfl
    · subst h
      have ht : lastT l l.length = l := by unfold lastT; rw [hp, Nat.sub_self, List.drop_zero]; exact List.take_of_length_le (Nat.le_refl _)
      rw [proof_all rfl, oth_0 (by omega), ht]
      cases whole <;> simp [hp]
/-- The elements of a path, used up from below. -/
def clF (t : List UInt8) (p : List (List UInt8)) (w : List Bool) : Nat → List UInt8
  | 0 => t
  | j + 1 => if w.getD j false = true then nodeM (p.getD j []) (clF t p w j) else nodeM (clF t p w j) (p.getD j [])
theorem getB_app {w v : List Bool} {j : Nat} (h : j < w.length) : (w ++ v).getD j false = w.getD j false := by
  rw [List.getD_eq_getElem?_getD, List.getD_eq_getElem?_getD, List.getElem?_append_left h]
theorem getB_end {w : List Bool} {x : Bool} : (w ++ [x]).getD w.length false = x := by
  rw [List.getD_eq_getElem?_getD, List.getElem?_append_right (Nat.le_refl _), Nat.sub_self]; rfl
theorem clF_app (t : List UInt8) (p : List (List UInt8)) (w v : List Bool) : ∀ j, j ≤ w.length → clF t p (w ++ v) j = clF t p w j
  | 0, _ => rfl
  | j + 1, h => by rw [clF, clF, clF_app t p w v j (by omega), getB_app (by omega)]
theorem climb_cl (leaf : List UInt8) (p : List (List UInt8)) : ∀ (n i : Nat), climbM n i leaf p = clF (leafM leaf) p (wayM n i 1) (wayM n i 1).length := by
  intro n
  induction n using Nat.strongRecOn with
  | _ n ih =>
    intro i
    by_cases h : 2 ≤ n
    · have h1 := split_pos n
      by_cases hi : i < splitN n
      · rw [climb_lo h hi, way_lo (by decide) (by omega) hi, List.length_append, List.length_singleton, clF, clF_app _ _ _ _ _ (Nat.le_refl _), getB_end, ih _ (split_lt h), if_neg (by simp), way_len1]
      · rw [climb_hi h hi, way_hi (by decide) (by omega) hi, List.length_append, List.length_singleton, clF, clF_app _ _ _ _ _ (Nat.le_refl _), getB_end, ih _ (by omega), if_pos rfl, way_len1]
    · rw [climb_1 (by omega), way_0 (by omega)]; rfl
def grF (c : List UInt8) (p : List (List UInt8)) (w : List Bool) : Nat → List UInt8 × List UInt8
  | 0 => (c, c)
  | j + 1 => if w.getD j false = true then (nodeM (p.getD j []) (grF c p w j).1, nodeM (p.getD j []) (grF c p w j).2) else ((grF c p w j).1, nodeM (grF c p w j).2 (p.getD j []))
theorem grF_app (c : List UInt8) (p : List (List UInt8)) (w v : List Bool) : ∀ j, j ≤ w.length → grF c p (w ++ v) j = grF c p w j
  | 0, _ => rfl
  | j + 1, h => by rw [grF, grF, grF_app c p w v j (by omega), getB_app (by omega)]
theorem getD_drop1 (p : List (List UInt8)) (j : Nat) : (p.drop 1).getD j [] = p.getD (j + 1) [] := by
  rw [List.getD_eq_getElem?_getD, List.getD_eq_getElem?_getD, List.getElem?_drop, Nat.add_comm]
/-- What a proof gives, by the elements from below. -/
theorem grown_gr (old : List UInt8) (p : List (List UInt8)) : ∀ (n m : Nat) (whole : Bool), n ≤ 1024 → 1 ≤ m → Whole m n →
    (whole = true ∧ lowN m = m → plenM m n whole = (wayM n (m - 1) (lowN m)).length ∧ grownM m n whole old p = grF old p (wayM n (m - 1) (lowN m)) (wayM n (m - 1) (lowN m)).length) ∧
    (¬ (whole = true ∧ lowN m = m) → plenM m n whole = (wayM n (m - 1) (lowN m)).length + 1 ∧ grownM m n whole old p = grF (p.getD 0 []) (p.drop 1) (wayM n (m - 1) (lowN m)) (wayM n (m - 1) (lowN m)).length) := by
  intro n
  induction n using Nat.strongRecOn with
  | _ n ih =>
    intro m whole hn h0 hw
    obtain ⟨q1, q2⟩ := low_le h0
    rcases hw with h | ⟨h, hp⟩
    · have h1 := split_pos n
      have h2 := split_lt (n := n) (by omega)
      by_cases hk : m ≤ splitN n
      · have hW : Whole m (splitN n) := by
          rcases Nat.lt_or_ge m (splitN n) with h3 | h3
          · exact .inl h3
          · obtain rfl : m = splitN n := by omega
            exact .inr ⟨rfl, low_split (by omega) hn⟩
        obtain ⟨e1, e2⟩ := ih _ h2 m whole (by omega) h0 hW
        rw [plen_lo h0 h hk, grown_lo h0 h hk, way_lo (i := m - 1) q1 (by omega) (by omega), List.length_append, List.length_singleton]
        refine ⟨fun hc => ?_, fun hc => ?_⟩
        · obtain ⟨e3, e4⟩ := e1 hc
          refine ⟨by omega, ?_⟩
          rw [grF, grF_app _ _ _ _ _ (Nat.le_refl _), getB_end, if_neg (by simp), e3, e4]
        · obtain ⟨e3, e4⟩ := e2 hc
          refine ⟨by omega, ?_⟩
          rw [grF, grF_app _ _ _ _ _ (Nat.le_refl _), getB_end, if_neg (by simp), e3, e4, getD_drop1]
      · have h4 := split_le (n := n) (by omega)
        have e0 := low_sub (n := n) (m := m) (by omega) h (by omega)
        obtain ⟨q3, q4⟩ := low_le (m := m - splitN n) (by omega)
        obtain ⟨e1, e2⟩ := ih (n - splitN n) (by omega) (m - splitN n) false (by omega) (by omega) (.inl (by omega))
        obtain ⟨e3, e4⟩ := e2 (by simp)
        rw [e0] at e3 e4
        rw [plen_hi h0 h hk, grown_hi h0 h hk, way_hi (i := m - 1) q1 (by omega) (by omega), List.length_append, List.length_singleton, show m - 1 - splitN n = m - splitN n - 1 by omega]
        refine ⟨fun hc => by omega, fun _ => ⟨by omega, ?_⟩⟩
        rw [grF, grF_app _ _ _ _ _ (Nat.le_refl _), getB_end, if_pos rfl, e3, e4, getD_drop1]
    · subst h
      rw [plen_all rfl, grown_all rfl, way_0 (by omega)]
      refine ⟨fun hc => ?_, fun hc => ?_⟩
      · rw [hc.1]; exact ⟨rfl, rfl⟩
      · have : whole = false := by cases whole <;> simp_all
        subst this
        exact ⟨rfl, rfl⟩
theorem plen_le : ∀ (n m : Nat) (whole : Bool), 1 ≤ m → m ≤ n → plenM m n whole ≤ n := by
  intro n
  induction n using Nat.strongRecOn with
  | _ n ih =>
    intro m whole h0 h
    by_cases hm : m = n
    · rw [plen_all hm]; split <;> omega
    · have h1 := split_pos n
      have h2 := split_lt (n := n) (by omega)
      by_cases hk : m ≤ splitN n
      · have := ih _ h2 m whole h0 hk
        rw [plen_lo h0 (by omega) hk]; omega
      · have := ih (n - splitN n) (by omega) (m - splitN n) false (by omega) (by omega)
        rw [plen_hi h0 (by omega) hk]; omega
theorem leafM_len (b : List UInt8) : (leafM b).length = 32 := sumK_len _
theorem nodeM_len (l r : List UInt8) : (nodeM l r).length = 32 := sumK_len _
theorem rootM_len (l : List (List UInt8)) : (rootM l).length = 32 := by
  rw [rootM]
  split
  · exact sumK_len _
  · split
    · exact leafM_len _
    · exact nodeM_len _ _
end Go.Proofs.YtjgkchmdhicmpaaDoor
set_option linter.unusedVariables false
set_option linter.unusedSimpArgs false
namespace Go.Proofs.YtjgkchmdhicmpaaDoor
open Go.RowKit

def chgI (b : List UInt8) (at' : Int) : Nat := (withinN at' b.length).toNat
def chgB (by' : Int) : UInt8 := UInt8.ofNat (1 + (withinN by' 255).toNat)
def changedL (b : List UInt8) (at' by' : Int) : List UInt8 := b.set (chgI b at') (xorB (b.getD (chgI b at') 0) (chgB by'))
theorem changedL_len (b : List UInt8) (at' by' : Int) : (changedL b at' by').length = b.length := List.length_set
theorem chgB_ne (by' : Int) : chgB by' ≠ 0 := by
  have h := withinN_range by' 255 (by decide)
  intro e
  have := congrArg UInt8.toNat e
  unfold chgB at this
  rw [UInt8.toNat_ofNat_of_lt' (by simp [UInt8.size]; omega)] at this
  simp at this
theorem chgI_lt {b : List UInt8} (h : 0 < b.length) (at' : Int) : chgI b at' < b.length := by
  have := withinN_range at' b.length (by omega)
  unfold chgI; omega
theorem changedL_ne {b : List UInt8} (h : 0 < b.length) (at' by' : Int) : changedL b at' by' ≠ b := by
  intro e
  have hi := chgI_lt h at'
  have h1 := congrArg (fun l : List UInt8 => l.getD (chgI b at') 0) e
  simp only [changedL, List.getD_eq_getElem?_getD, List.getElem?_set_self hi, Option.getD_some] at h1
  apply chgB_ne by'
  generalize b[chgI b at']?.getD 0 = x at h1
  generalize chgB by' = y at h1
  have : xorB x (xorB x y) = xorB x x := by rw [h1]
  have e1 : xorB x (xorB x y) = y := by unfold xorB; rw [← UInt8.xor_assoc, UInt8.xor_self, UInt8.zero_xor]
  have e2 : xorB x x = 0 := by unfold xorB; exact UInt8.xor_self
  rw [← e1, this, e2]
def sf_chg : SFn := ⟨3, 25,
  .seq (.reg [⟨(some 6), .mv (.k (.c .nil)), none⟩])
  (.seq (.reg [⟨(some 8), .mv (.t 0), none⟩,
    ⟨(some 9), .bldSl false 1 1 (.sl []) [(0, (.t 8))], none⟩,
    ⟨(some 10), .call 41 [(.t 9)] (some (0, 1)), none⟩,
    ⟨(some 7), .mv (.t 10), none⟩])
  (.seq (.reg [⟨(some 11), .mv (.t 7), none⟩,
    ⟨(some 12), .mv (.t 1), none⟩,
    ⟨(some 13), .mv (.t 7), none⟩,
    ⟨(some 14), .len (.t 13), none⟩,
    ⟨(some 15), .call 24 [(.t 12), (.t 14)] none, none⟩,
    ⟨(some 16), .idxSl 1 (.t 11) (.t 15), none⟩,
    ⟨(some 17), .load .sc (.t 16), none⟩,
    ⟨(some 18), .mv (.t 2), none⟩,
    ⟨(some 19), .call 24 [(.t 18), (.k (.c (.d (.int .i64 255))))] none, none⟩,
    ⟨(some 20), .bin .add (.k (.c (.d (.int .i64 1)))) (.t 19), none⟩,
    ⟨(some 21), .conv .u8 (.t 20), none⟩,
    ⟨(some 22), .bin .xor (.t 17) (.t 21), none⟩,
    ⟨(some 23), .idxSl 1 (.t 11) (.t 15), none⟩,
    ⟨none, .store .sc (.t 23) (.t 22), none⟩])
  (.seq (.reg [⟨(some 24), .mv (.t 7), none⟩,
    ⟨(some 6), .mv (.t 24), none⟩])
  (.ret)))),
  [(6, none)]⟩
theorem cf_chg : compFn Tryd.prog { own := [10], comp := [], frz := [], nils := [] } Tryd.f29 = some sf_chg := by kernel_rfl
set_option maxHeartbeats 1600000 in
theorem chg_c (G : Glob) (b : List UInt8) (at' by' : Int) (h : 0 < b.length) (hb : b.length ≤ 140737488355328) : Den Tryd.prog G 29 [.sl (b.map bD), .int .i64 at', .int .i64 by'] (.w (.c (.fr 1 ((changedL b at' by').map bD)))) := by
  refine den_walk Tryd.func29 cf_chg rfl rfl ?_
  have hj := rjoin_c G [b] (by simp) (by simp; omega)
  have hf : [b].flatten = b := by simp
  rw [hf] at hj
  have hw := withinN_range at' b.length (by omega)
  have hw2 := withinN_range by' 255 (by decide)
  have hi := chgI_lt h at'
  have ei : ((chgI b at' : Nat) : Int) = withinN at' b.length := by unfold chgI; omega
  have eb : bD (chgB by') = .int .u8 (1 + withinN by' 255) := by
    unfold chgB
    rw [bD_ofNat (by omega)]
    congr 1; omega
  have g1 : b[chgI b at']? = some (b.getD (chgI b at') 0) := by rw [List.getD_eq_getElem?_getD, List.getElem?_eq_getElem hi]; rfl
  have x1 := binV_xorB (b.getD (chgI b at') 0) (chgB by')
  rw [eb] at x1
  have hs : b.set (chgI b at') (xorB (b.getD (chgI b at') 0) (chgB by')) = changedL b at' by' := rfl
  have e1 := within_c G at' b.length (by omega)
  have e2 := within_c G by' 255 (by decide)
  rw [← ei] at e1 hw
  generalize withinN by' 255 = y at *
  generalize chgI b at' = i at *
  simp only [sf_chg, putAll, wx, wy, wz, stV, seval, IntWalk.iteOmega, IntWalk.toNatUp, reduceCtorEq]
  refine st_call (hj) rfl (.inl rfl) ?_
  simp only [wx, wy, wz, stV, seval, IntWalk.iteOmega, IntWalk.toNatUp, reduceCtorEq]
  refine st_call (e1) rfl (.inl rfl) ?_
  simp only [get_map, g1, wx, wy, wz, stV, seval, IntWalk.iteOmega, IntWalk.toNatUp, reduceCtorEq]
  refine st_call (e2) rfl (.inl rfl) ?_
  simp only [x1, stO_bs hi (one_b _), set_bs, hs, wx, wy, wz, stV, seval, IntWalk.iteOmega, IntWalk.toNatUp, reduceCtorEq]
  exact ret_own (id := 80) (n := b.length) (s := 1) (by simp only [wx, stV, seval, IntWalk.iteOmega, IntWalk.toNatUp, reduceCtorEq]) (by simp only [wx, stV, seval, IntWalk.iteOmega, IntWalk.toNatUp, reduceCtorEq]) (by simp [changedL_len])
def sf_wkey : SFn := ⟨1, 5,
  .seq (.reg [⟨(some 2), .mv (.k (.c .nil)), none⟩])
  (.seq (.reg [⟨(some 3), .mv (.t 0), none⟩,
    ⟨(some 4), .call 27 [(.t 3), (.k (.c (.d (.int .i64 32))))] none, none⟩,
    ⟨(some 2), .mv (.t 4), none⟩])
  (.ret)),
  [(2, none)]⟩
theorem cf_wkey : compFn Tryd.prog { own := [], comp := [], frz := [], nils := [] } Tryd.f25 = some sf_wkey := by kernel_rfl
theorem wkey_c (G : Glob) (seed : Int) : Den Tryd.prog G 25 [.int .i64 seed] (.w (.c (.d (.sl ((bytesK seed 32).map bD))))) := by
  refine den_walk Tryd.func25 cf_wkey rfl rfl ?_
  simp only [sf_wkey, putAll, wx, wy, wz, stV, seval, IntWalk.iteOmega, IntWalk.toNatUp, reduceCtorEq]
  refine st_call (wbytes_c G seed 32 (by decide)) rfl (.inl rfl) ?_
  simp only [wx, wy, wz, stV, seval, IntWalk.iteOmega, IntWalk.toNatUp, reduceCtorEq]
  exact ret_d1 (by simp only [wx, wy, wz, stV, seval, IntWalk.iteOmega, IntWalk.toNatUp, reduceCtorEq])
end Go.Proofs.YtjgkchmdhicmpaaDoor
