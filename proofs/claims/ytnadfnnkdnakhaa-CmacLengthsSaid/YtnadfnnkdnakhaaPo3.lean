/- Layer 1 on data: Pad. Own work. -/
import Derived.Test.YtnadfnnkdnakhaaPo1
set_option linter.unusedVariables false
set_option linter.unusedSimpArgs false
namespace Go.Proofs.Ytnadfnnkdnakhaa
open Go.RowKit

/-- How many zeros. -/
def padC0 (r n : Nat) : Nat := (n - r % n) % n
def padN (b : List UInt8) (n : Int) : List UInt8 := if 1 ≤ n ∧ n ≤ 64 then b ++ List.replicate (padC0 b.length n.toNat) 0 else b
theorem padN_in (b : List UInt8) {n : Nat} (h : 1 ≤ n ∧ n ≤ 64) : padN b (n : Int) = b ++ List.replicate (padC0 b.length n) 0 := by
  unfold padN; rw [if_pos (by omega), Int.toNat_natCast]
theorem padN_out (b : List UInt8) {n : Int} (h : ¬ (1 ≤ n ∧ n ≤ 64)) : padN b n = b := if_neg h
theorem padC0_lt (r : Nat) {n : Nat} (h : 1 ≤ n) : padC0 r n < n := Nat.mod_lt _ (by omega)
theorem putL_z3 (n : Nat) : putL 0 n = List.replicate n 0 := by
  unfold putL
  simp only [Nat.zero_div]
  induction n with
  | zero => rfl
  | succ n ih => rw [List.range_succ, List.map_append, ih, List.replicate_succ']; rfl
theorem pad_more {r n i : Nat} (hn : 1 ≤ n) (h : i < padC0 r n) : (r + i) % n ≠ 0 := by
  unfold padC0 at h
  have hr : r % n < n := Nat.mod_lt _ (by omega)
  have hm := Nat.mod_le (n - r % n) n
  have hz : r % n ≠ 0 := fun e => by rw [e, Nat.sub_zero, Nat.mod_self] at h; omega
  have e : (r + i) % n = (r % n + i) % n := by rw [Nat.add_mod, Nat.add_mod (r % n) i, Nat.mod_mod]
  rw [e, Nat.mod_eq_of_lt (by omega)]
  omega
theorem pad_done {r n : Nat} (hn : 1 ≤ n) : (r + padC0 r n) % n = 0 := by
  unfold padC0
  have hr : r % n < n := Nat.mod_lt _ (by omega)
  by_cases hz : r % n = 0
  · rw [hz, Nat.sub_zero, Nat.mod_self, Nat.add_zero, hz]
  · rw [Nat.mod_eq_of_lt (show n - r % n < n by omega), Nat.add_mod, Nat.mod_eq_of_lt (show n - r % n < n by omega), Nat.add_sub_cancel' (by omega), Nat.mod_self]
theorem tmodNN (a b : Nat) : Int.tmod (a : Int) (b : Int) = ((a % b : Nat) : Int) := rfl
def sf_pad : SFn := ⟨2, 28,
  .seq (.reg [⟨(some 4), .mv (.k (.c .nil)), none⟩])
  (.seq (.seq (.reg [⟨(some 6), .mv (.t 1), none⟩,
    ⟨(some 7), .bin .lss (.t 6) (.k (.c (.d (.int .i64 1)))), none⟩,
    ⟨(some 8), .mv (.t 7), none⟩,
    ⟨(some 9), .mv (.t 1), (some (8, false))⟩,
    ⟨(some 10), .bin .gtr (.t 9) (.k (.c (.d (.int .i64 64)))), (some (8, false))⟩,
    ⟨(some 11), .pick (.t 8) (.k (.c (.d (.bool true)))) (.t 10), none⟩])
  (.cond (.t 11) (.seq (.reg [⟨(some 12), .mv (.t 0), none⟩,
     ⟨(some 13), .bldSl false 1 1 (.sl []) [(0, (.t 12))], none⟩,
     ⟨(some 14), .call 55 [(.t 13)] (some (0, 1)), none⟩,
     ⟨(some 4), .mv (.t 14), none⟩])
   (.ret))
   (.skip)))
  (.seq (.reg [⟨(some 15), .mv (.t 1), none⟩,
    ⟨(some 16), .mv (.t 0), none⟩,
    ⟨(some 17), .len (.t 16), none⟩,
    ⟨(some 18), .mv (.t 1), none⟩,
    ⟨(some 19), .bin .rem (.t 17) (.t 18), none⟩,
    ⟨(some 20), .bin .sub (.t 15) (.t 19), none⟩,
    ⟨(some 21), .mv (.t 1), none⟩,
    ⟨(some 22), .bin .rem (.t 20) (.t 21), none⟩,
    ⟨(some 5), .mv (.t 22), none⟩])
  (.seq (.reg [⟨(some 23), .mv (.t 0), none⟩,
    ⟨(some 24), .mv (.t 5), none⟩,
    ⟨(some 25), .call 42 [(.k (.c (.d (.int .u64 0)))), (.t 24)] none, none⟩,
    ⟨(some 26), .bldSl false 2 1 (.sl []) [(0, (.t 23)), (1, (.t 25))], none⟩,
    ⟨(some 27), .call 55 [(.t 26)] (some (0, 1)), none⟩,
    ⟨(some 4), .mv (.t 27), none⟩])
  (.ret)))),
  [(4, none)]⟩
theorem cf_pad : compFn Try.prog { own := [14, 27], comp := [], frz := [], nils := [] } Try.f58 = some sf_pad := by kernel_rfl
set_option maxHeartbeats 1600000 in
theorem pad_c (G : Glob) (b : List UInt8) (n : Int) (hb : b.length ≤ 70368744177664) : Den Try.prog G 58 [.sl (b.map bD), .int .i64 n] (.w (.c (.fr 1 ((padN b n).map bD)))) := by
  refine den_walk Try.func58 cf_pad rfl rfl ?_
  by_cases hc : 1 ≤ n ∧ n ≤ 64
  · obtain ⟨m, rfl⟩ := Int.eq_ofNat_of_zero_le (show 0 ≤ n by omega)
    rw [padN_in b (by omega)]
    have hr : b.length % m < m := Nat.mod_lt _ (by omega)
    have hk : padC0 b.length m = (m - b.length % m) % m := rfl
    have hlt := padC0_lt b.length (n := m) (by omega)
    have e1 := tmodNN b.length m
    have e2 : Int.tmod ((m : Int) - ((b.length % m : Nat) : Int)) (m : Int) = ((padC0 b.length m : Nat) : Int) := by
      rw [show (m : Int) - ((b.length % m : Nat) : Int) = ((m - b.length % m : Nat) : Int) by omega, tmodNN, hk]
    have hm : ((m : Int) = 0) = False := eq_false (by omega)
    have hp := put_in G 0 (padC0 b.length m) (by omega)
    have hj := join_c G [b, putL 0 (padC0 b.length m)] (by simp) (by simp [putL_length]; omega)
    have hf : [b, putL 0 (padC0 b.length m)].flatten = b ++ List.replicate (padC0 b.length m) 0 := by rw [putL_z3]; simp
    rw [hf] at hj
    generalize padC0 b.length m = k at *
    simp only [sf_pad, putAll, wx, wy, wz, stV, seval, IntWalk.iteOmega, IntWalk.toNatUp, reduceCtorEq, e1, e2, hm]
    refine st_call (hp) rfl (.inl rfl) ?_
    simp only [wx, wy, wz, stV, seval, IntWalk.iteOmega, IntWalk.toNatUp, reduceCtorEq]
    refine st_call (hj) rfl (.inl rfl) ?_
    simp only [wx, wy, wz, stV, seval, IntWalk.iteOmega, IntWalk.toNatUp, reduceCtorEq]
    exact ret_f1 (by simp only [wx, wy, wz, stV, seval, IntWalk.iteOmega, IntWalk.toNatUp, reduceCtorEq])
  · rw [padN_out b hc]
    have hj := join_c G [b] (by simp) (by simp; omega)
    have hf : [b].flatten = b := by simp
    rw [hf] at hj
    by_cases h1 : n < 1
    · simp only [sf_pad, putAll, wx, wy, wz, stV, seval, IntWalk.iteOmega, IntWalk.toNatUp, reduceCtorEq]
      refine st_call (hj) rfl (.inl rfl) ?_
      simp only [wx, wy, wz, stV, seval, IntWalk.iteOmega, IntWalk.toNatUp, reduceCtorEq]
      exact ret_f1 (by simp only [wx, wy, wz, stV, seval, IntWalk.iteOmega, IntWalk.toNatUp, reduceCtorEq])
    · have h2 : 64 < n := by omega
      simp only [sf_pad, putAll, wx, wy, wz, stV, seval, IntWalk.iteOmega, IntWalk.toNatUp, reduceCtorEq]
      refine st_call (hj) rfl (.inl rfl) ?_
      simp only [wx, wy, wz, stV, seval, IntWalk.iteOmega, IntWalk.toNatUp, reduceCtorEq]
      exact ret_f1 (by simp only [wx, wy, wz, stV, seval, IntWalk.iteOmega, IntWalk.toNatUp, reduceCtorEq])
theorem rep_sn3 (b : List UInt8) (i : Nat) : b ++ List.replicate i 0 ++ [0] = b ++ List.replicate (i + 1) 0 := by rw [List.replicate_succ', List.append_assoc]
def padO (b : List UInt8) (i : Nat) : List UInt8 := b ++ List.replicate i 0
theorem padO_len (b : List UInt8) (i : Nat) : (padO b i).length = b.length + i := by unfold padO; rw [List.length_append, List.length_replicate]
theorem padO_snoc (b : List UInt8) (i : Nat) : (padO b i).map bD ++ [D.int .u8 0] = (padO b (i + 1)).map bD := by unfold padO; rw [← rep_sn3, List.map_append (l₂ := [0])]; rfl
def rpadSt (b : List UInt8) (n : Int) (i : Nat) : St := ⟨ofL [(1, .w (.c (.d (.int .i64 n)))), (5, .w (.c (.own 1 1 0 (padO b i).length)))], hL [(1, .row 1 ((padO b i).map bD))], uL [1]⟩
def lp_rpad_0 : SCode :=
  .seq (.seq (.reg [⟨(some 9), .mv (.t 1), none⟩,
    ⟨(some 10), .bin .geq (.t 9) (.k (.c (.d (.int .i64 1)))), none⟩,
    ⟨(some 11), .mv (.t 10), none⟩,
    ⟨(some 12), .mv (.t 1), (some (11, true))⟩,
    ⟨(some 13), .bin .leq (.t 12) (.k (.c (.d (.int .i64 64)))), (some (11, true))⟩,
    ⟨(some 14), .pick (.t 11) (.t 13) (.k (.c (.d (.bool false)))), none⟩,
    ⟨(some 15), .mv (.t 14), none⟩,
    ⟨(some 16), .mv (.t 5), (some (15, true))⟩,
    ⟨(some 17), .len (.t 16), (some (15, true))⟩,
    ⟨(some 18), .mv (.t 1), (some (15, true))⟩,
    ⟨(some 19), .bin .rem (.t 17) (.t 18), (some (15, true))⟩,
    ⟨(some 20), .bin .neq (.t 19) (.k (.c (.d (.int .i64 0)))), (some (15, true))⟩,
    ⟨(some 21), .pick (.t 15) (.t 20) (.k (.c (.d (.bool false)))), none⟩])
  (.cond (.t 21) (.skip)
   (.exit 0)))
  (.block 1 (.reg [⟨(some 22), .mv (.t 5), none⟩,
     ⟨(some 23), .bldSl false 1 1 (.int .u8 0) [(0, (.k (.c (.d (.int .u8 0)))))], none⟩,
     ⟨(some 24), .app false 1 1 (.t 22) (.t 23), none⟩,
     ⟨(some 5), .mv (.t 24), none⟩]))
def sf_rpad : SFn := ⟨2, 26,
  .seq (.reg [⟨(some 4), .mv (.k (.c .nil)), none⟩])
  (.seq (.reg [⟨(some 6), .mv (.t 0), none⟩,
    ⟨(some 7), .bldSl false 1 1 (.sl []) [(0, (.t 6))], none⟩,
    ⟨(some 8), .call 30 [(.t 7)] (some (0, 1)), none⟩,
    ⟨(some 5), .mv (.t 8), none⟩])
  (.seq (.block 0 (.loop lp_rpad_0))
  (.seq (.reg [⟨(some 25), .mv (.t 5), none⟩,
    ⟨(some 4), .mv (.t 25), none⟩])
  (.ret)))),
  [(4, none)]⟩
theorem cf_rpad : compFn Try.prog { own := [8], comp := [], frz := [], nils := [] } Try.f31 = some sf_rpad := by kernel_rfl
set_option maxHeartbeats 1600000 in
theorem rpad_c (G : Glob) (b : List UInt8) (n : Int) (hb : b.length ≤ 70368744177664) : Den Try.prog G 31 [.sl (b.map bD), .int .i64 n] (.w (.c (.fr 1 ((padN b n).map bD)))) := by
  refine den_walk Try.func31 cf_rpad rfl rfl ?_
  have hj := rjoin_c G [b] (by simp) (by simp; omega)
  have hf : [b].flatten = b := by simp
  rw [hf] at hj
  have h0 : padO b 0 = b := by simp [padO]
  by_cases hc : 1 ≤ n ∧ n ≤ 64
  · obtain ⟨m, rfl⟩ := Int.eq_ofNat_of_zero_le (show 0 ≤ n by omega)
    rw [padN_in b (by omega)]
    have hlt := padC0_lt b.length (n := m) (by omega)
    have hm : ((m : Int) = 0) = False := eq_false (by omega)
    have more : ∀ i, i < padC0 b.length m → (b.length + i) % m ≠ 0 := fun i h => pad_more (by omega) h
    have done : (b.length + padC0 b.length m) % m = 0 := pad_done (by omega)
    simp only [sf_rpad, putAll, wx, wy, wz, stV, seval, IntWalk.iteOmega, IntWalk.toNatUp, reduceCtorEq]
    refine st_call (hj) rfl (.inl rfl) ?_
    simp only [wx, wy, wz, stV, seval, IntWalk.iteOmega, IntWalk.toNatUp, reduceCtorEq]
    refine loop_st (rpadSt b m) (fun i => padC0 b.length m - i) (fun i => i ≤ padC0 b.length m) 0 (Nat.zero_le _) ?_ ?_
    · refine ent_l (fun _ => 64) ?_ ?_ rfl rfl <;> simp only [wx, wex, wez, stV, seval, IntWalk.iteOmega, IntWalk.toNatUp, reduceCtorEq, h0]
    · intro i hi
      have hl := padO_len b i
      have hl1 := padO_len b (i + 1)
      have e1 : Int.tmod ((b.length : Int) + (i : Int)) (m : Int) = (((b.length + i) % m : Nat) : Int) := rfl
      have hs := padO_snoc b i
      by_cases hk : i < padC0 b.length m
      · have hne := more i hk
        generalize (b.length + i) % m = q at *
        simp only [lp_rpad_0, rpadSt, wx, wy, wz, stV, seval, IntWalk.iteOmega, IntWalk.toNatUp, reduceCtorEq, hl, e1, hm, srcV, hs]
        refine lop_next (i + 1) (by omega) (by omega) (ent_l (fun _ => 192) ?_ ?_ rfl rfl) <;> simp only [wx, wex, wez, stV, seval, IntWalk.iteOmega, IntWalk.toNatUp, reduceCtorEq, hl1]
      · have hik : i = padC0 b.length m := by omega
        rw [← hik] at done ⊢
        simp only [done, Int.natCast_zero, Int.cast_ofNat_Int] at e1
        have hd : b ++ List.replicate i 0 = padO b i := rfl
        rw [hd]
        simp only [lp_rpad_0, rpadSt, wx, wy, wz, stV, seval, IntWalk.iteOmega, IntWalk.toNatUp, reduceCtorEq, hl, e1, hm]
        exact ret_own (id := 1) (n := b.length + i) (s := 1) (by simp only [wx, stV, seval, IntWalk.iteOmega, IntWalk.toNatUp, reduceCtorEq]) (by simp only [wx, stV, seval, IntWalk.iteOmega, IntWalk.toNatUp, reduceCtorEq]) (by simp [hl])
  · rw [padN_out b hc]
    simp only [sf_rpad, putAll, wx, wy, wz, stV, seval, IntWalk.iteOmega, IntWalk.toNatUp, reduceCtorEq]
    refine st_call (hj) rfl (.inl rfl) ?_
    simp only [wx, wy, wz, stV, seval, IntWalk.iteOmega, IntWalk.toNatUp, reduceCtorEq]
    refine loop_st (rpadSt b n) (fun i => 0 - i) (fun i => i = 0) 0 rfl ?_ ?_
    · refine ent_l (fun _ => 64) ?_ ?_ rfl rfl <;> simp only [wx, wex, wez, stV, seval, IntWalk.iteOmega, IntWalk.toNatUp, reduceCtorEq, h0]
    · rintro i rfl
      by_cases h1 : n < 1
      · simp only [lp_rpad_0, rpadSt, h0, wx, wy, wz, stV, seval, IntWalk.iteOmega, IntWalk.toNatUp, reduceCtorEq]
        exact ret_own (id := 1) (n := b.length) (s := 1) (by simp only [wx, stV, seval, IntWalk.iteOmega, IntWalk.toNatUp, reduceCtorEq]) (by simp only [wx, stV, seval, IntWalk.iteOmega, IntWalk.toNatUp, reduceCtorEq]) (by simp)
      · have h2 : 64 < n := by omega
        simp only [lp_rpad_0, rpadSt, h0, wx, wy, wz, stV, seval, IntWalk.iteOmega, IntWalk.toNatUp, reduceCtorEq]
        exact ret_own (id := 1) (n := b.length) (s := 1) (by simp only [wx, stV, seval, IntWalk.iteOmega, IntWalk.toNatUp, reduceCtorEq]) (by simp only [wx, stV, seval, IntWalk.iteOmega, IntWalk.toNatUp, reduceCtorEq]) (by simp)
end Go.Proofs.Ytnadfnnkdnakhaa
