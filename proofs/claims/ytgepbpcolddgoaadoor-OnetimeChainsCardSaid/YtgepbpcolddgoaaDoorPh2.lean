/- Layer 2 on data: the words of a block. Own work. -/
import Derived.Test.YtgepbpcolddgoaaDoorPh1
set_option linter.unusedVariables false
set_option linter.unusedSimpArgs false
namespace Go.Proofs.YtgepbpcolddgoaaDoor
open Go.RowKit

theorem byteW_nat' (b : UInt8) : (byteW b).toNat = b.toNat := by have := byteW_nat b; omega
theorem shlW_byte (b : UInt8) (n : Nat) (hn : n ≤ 24) : (shlW (byteW b) n).toNat = 2 ^ n * b.toNat := by
  have hb := b.toNat_lt
  have h : (2 : Nat) ^ n ≤ 2 ^ 24 := Nat.pow_le_pow_right (by decide) hn
  have h2 : 2 ^ n * b.toNat ≤ 2 ^ 24 * 255 := Nat.mul_le_mul h (by omega)
  unfold shlW
  rw [byteW_nat', UInt32.toNat_ofNat_of_lt' (by rw [Nat.mul_comm]; simp only [UInt32.size]; omega), Nat.mul_comm]
theorem orW_nat (x y : UInt32) : (orW x y).toNat = x.toNat ||| y.toNat := UInt32.toNat_or x y
theorem wordAt_nat (b : List UInt8) (t : Nat) : (wordAt b t).toNat = ((((b.getD (4 * t) 0).toNat * 256 + (b.getD (4 * t + 1) 0).toNat) * 256 + (b.getD (4 * t + 2) 0).toNat) * 256 + (b.getD (4 * t + 3) 0).toNat) := by
  unfold wordAt
  generalize b.getD (4 * t) 0 = p
  generalize b.getD (4 * t + 1) 0 = q
  generalize b.getD (4 * t + 2) 0 = r
  generalize b.getD (4 * t + 3) 0 = s
  have hp := p.toNat_lt
  have hq := q.toNat_lt
  have hr := r.toNat_lt
  have hs := s.toNat_lt
  rw [orW_nat, orW_nat, orW_nat, shlW_byte _ _ (by decide), shlW_byte _ _ (by decide), shlW_byte _ _ (by decide), byteW_nat']
  have e1 := Nat.two_pow_add_eq_or_of_lt (i := 24) (b := 2 ^ 16 * q.toNat) (by omega) p.toNat
  rw [← e1]
  have e2 := Nat.two_pow_add_eq_or_of_lt (i := 16) (b := 2 ^ 8 * r.toNat) (by omega) (2 ^ 8 * p.toNat + q.toNat)
  have e3 : 2 ^ 24 * p.toNat + 2 ^ 16 * q.toNat = 2 ^ 16 * (2 ^ 8 * p.toNat + q.toNat) := by omega
  rw [e3, ← e2]
  have e4 := Nat.two_pow_add_eq_or_of_lt (i := 8) (b := s.toNat) (by omega) (2 ^ 8 * (2 ^ 8 * p.toNat + q.toNat) + r.toNat)
  have e5 : 2 ^ 16 * (2 ^ 8 * p.toNat + q.toNat) + 2 ^ 8 * r.toNat = 2 ^ 8 * (2 ^ 8 * (2 ^ 8 * p.toNat + q.toNat) + r.toNat) := by omega
  rw [e5, ← e4]
  omega
theorem four (b : List UInt8) (t : Nat) (h : 4 * t + 4 ≤ b.length) : (b.drop (4 * t)).take 4 = [b.getD (4 * t) 0, b.getD (4 * t + 1) 0, b.getD (4 * t + 2) 0, b.getD (4 * t + 3) 0] := by
  apply List.ext_getElem?
  intro j
  rw [List.getElem?_take, List.getElem?_drop]
  rcases j with _ | _ | _ | _ | j
  · simp [List.getD, List.getElem?_eq_getElem (show 4 * t < b.length by omega)]
  · simp [List.getD, List.getElem?_eq_getElem (show 4 * t + 1 < b.length by omega)]
  · simp [List.getD, List.getElem?_eq_getElem (show 4 * t + 2 < b.length by omega)]
  · simp [List.getD, List.getElem?_eq_getElem (show 4 * t + 3 < b.length by omega)]
  · rw [if_neg (by omega)]
    rfl
theorem getW (b : List UInt8) (t : Nat) (h : 4 * t + 4 ≤ b.length) : D.int .u32 (IntKind.u32.wrap (getN ((b.drop (4 * t)).take 4) : Int)) = wD (wordAt b t) := by
  have h1 := wordAt_nat b t
  rw [four b t h]
  unfold wD
  rw [h1]
  generalize b.getD (4 * t) 0 = p
  generalize b.getD (4 * t + 1) 0 = q
  generalize b.getD (4 * t + 2) 0 = r
  generalize b.getD (4 * t + 3) 0 = s
  have hp := p.toNat_lt
  have hq := q.toNat_lt
  have hr := r.toNat_lt
  have hs := s.toNat_lt
  have e : getN [p, q, r, s] = (((p.toNat * 256 + q.toNat) * 256 + r.toNat) * 256 + s.toNat) := by
    simp only [getN, List.foldl_cons, List.foldl_nil]
    omega
  rw [e, IntWalk.u32_in _ (by omega)]
theorem sched16_len (b : List UInt8) (n : Nat) : (sched16 b n).length = n := by simp [sched16]
theorem schedN_len (b : List UInt8) : ∀ n, (schedN b n).length = 16 + n
  | 0 => by simp [schedN, sched16_len]
  | n + 1 => by rw [schedN, List.length_append, schedN_len b n]; simp; omega
theorem set_next {α : Type} (l : List α) (z x : α) (n : Nat) (h : 0 < n) : (l ++ List.replicate n z).set l.length x = (l ++ [x]) ++ List.replicate (n - 1) z := by
  obtain ⟨k, rfl⟩ : ∃ k, n = k + 1 := ⟨n - 1, by omega⟩
  rw [List.set_append_right _ _ (Nat.le_refl _), Nat.sub_self, List.replicate_succ, List.set_cons_zero]
  simp
theorem get_of {l : List UInt32} {r : List UInt32} {i : Nat} (h : i < l.length) : (l ++ r)[i]? = some (l.getD i 0) := by
  rw [List.getElem?_append_left h]
  simp [h]
def spSt1 (b : List UInt8) (t : Nat) : St := ⟨ofL [(0, .w (.c (.d (.sl (b.map bD))))), (2, .w (.c (.pa 1 1))), (3, .w (.c (.pa 2 1))), (10, .w (.c (.d (.int .i64 (t : Int)))))], hL [(1, .row 1 ((List.replicate 64 (0 : UInt32)).map wD)), (2, .row 1 ((sched16 b t ++ List.replicate (64 - t) 0).map wD))], uL [1, 2]⟩
def spSt2 (b : List UInt8) (n : Nat) : St := ⟨ofL [(2, .w (.c (.pa 1 1))), (3, .w (.c (.pa 2 1))), (5, .w (.c (.d (.int .i64 ((16 + n : Nat) : Int)))))], hL [(1, .row 1 ((List.replicate 64 (0 : UInt32)).map wD)), (2, .row 1 ((schedN b n ++ List.replicate (48 - n) 0).map wD))], uL [1, 2]⟩
def lp_spread_0 : SCode :=
  .seq (.reg [⟨(some 11), .bin .lss (.t 10) (.k (.c (.d (.int .i64 16)))), none⟩])
  (.seq (.cond (.t 11) (.skip)
   (.exit 0))
  (.seq (.block 1 (.seq (.reg [⟨(some 12), .mv (.t 10), none⟩,
     ⟨(some 4), .mv (.t 12), none⟩])
   (.reg [⟨(some 13), .mv (.t 4), none⟩,
     ⟨(some 14), .mv (.t 0), none⟩,
     ⟨(some 15), .mv (.t 4), none⟩,
     ⟨(some 16), .bin .mul (.t 15) (.k (.c (.d (.int .i64 4)))), none⟩,
     ⟨(some 17), .mv (.t 4), none⟩,
     ⟨(some 18), .bin .add (.t 17) (.k (.c (.d (.int .i64 1)))), none⟩,
     ⟨(some 19), .bin .mul (.t 18) (.k (.c (.d (.int .i64 4)))), none⟩,
     ⟨(some 20), .slice 1 (.t 14) (some (.t 16)) (some (.t 19)) none, none⟩,
     ⟨(some 21), .call 51 [(.t 20)] none, none⟩,
     ⟨(some 22), .conv .u32 (.t 21), none⟩,
     ⟨(some 23), .idxPa 1 64 (.t 3) (.t 13), none⟩,
     ⟨none, .store .sc (.t 23) (.t 22), none⟩])))
  (.reg [⟨(some 24), .bin .add (.t 10) (.k (.c (.d (.int .i64 1)))), none⟩,
    ⟨(some 10), .mv (.t 24), none⟩])))
def lp_spread_1 : SCode :=
  .seq (.seq (.reg [⟨(some 25), .mv (.t 5), none⟩,
    ⟨(some 26), .bin .lss (.t 25) (.k (.c (.d (.int .i64 64)))), none⟩])
  (.cond (.t 26) (.skip)
   (.exit 2)))
  (.seq (.block 3 (.seq (.reg [⟨(some 29), .mv (.t 5), none⟩,
     ⟨(some 30), .bin .sub (.t 29) (.k (.c (.d (.int .i64 15)))), none⟩,
     ⟨(some 31), .idxPa 1 64 (.t 3) (.t 30), none⟩,
     ⟨(some 32), .load .sc (.t 31), none⟩,
     ⟨(some 33), .mv (.t 5), none⟩,
     ⟨(some 34), .bin .sub (.t 33) (.k (.c (.d (.int .i64 2)))), none⟩,
     ⟨(some 35), .idxPa 1 64 (.t 3) (.t 34), none⟩,
     ⟨(some 36), .load .sc (.t 35), none⟩,
     ⟨(some 6), .mv (.t 32), none⟩,
     ⟨(some 7), .mv (.t 36), none⟩])
   (.seq (.reg [⟨(some 37), .mv (.t 6), none⟩,
     ⟨(some 38), .call 50 [(.t 37), (.k (.c (.d (.int .i64 7))))] none, none⟩,
     ⟨(some 39), .mv (.t 6), none⟩,
     ⟨(some 40), .call 50 [(.t 39), (.k (.c (.d (.int .i64 18))))] none, none⟩,
     ⟨(some 41), .bin .xor (.t 38) (.t 40), none⟩,
     ⟨(some 42), .mv (.t 6), none⟩,
     ⟨(some 43), .bin .shr (.t 42) (.k (.c (.d (.int .u64 3)))), none⟩,
     ⟨(some 44), .bin .xor (.t 41) (.t 43), none⟩,
     ⟨(some 8), .mv (.t 44), none⟩])
   (.seq (.reg [⟨(some 45), .mv (.t 7), none⟩,
     ⟨(some 46), .call 50 [(.t 45), (.k (.c (.d (.int .i64 17))))] none, none⟩,
     ⟨(some 47), .mv (.t 7), none⟩,
     ⟨(some 48), .call 50 [(.t 47), (.k (.c (.d (.int .i64 19))))] none, none⟩,
     ⟨(some 49), .bin .xor (.t 46) (.t 48), none⟩,
     ⟨(some 50), .mv (.t 7), none⟩,
     ⟨(some 51), .bin .shr (.t 50) (.k (.c (.d (.int .u64 10)))), none⟩,
     ⟨(some 52), .bin .xor (.t 49) (.t 51), none⟩,
     ⟨(some 9), .mv (.t 52), none⟩])
   (.reg [⟨(some 53), .mv (.t 5), none⟩,
     ⟨(some 54), .mv (.t 9), none⟩,
     ⟨(some 55), .mv (.t 5), none⟩,
     ⟨(some 56), .bin .sub (.t 55) (.k (.c (.d (.int .i64 7)))), none⟩,
     ⟨(some 57), .idxPa 1 64 (.t 3) (.t 56), none⟩,
     ⟨(some 58), .load .sc (.t 57), none⟩,
     ⟨(some 59), .bin .add (.t 54) (.t 58), none⟩,
     ⟨(some 60), .mv (.t 8), none⟩,
     ⟨(some 61), .bin .add (.t 59) (.t 60), none⟩,
     ⟨(some 62), .mv (.t 5), none⟩,
     ⟨(some 63), .bin .sub (.t 62) (.k (.c (.d (.int .i64 16)))), none⟩,
     ⟨(some 64), .idxPa 1 64 (.t 3) (.t 63), none⟩,
     ⟨(some 65), .load .sc (.t 64), none⟩,
     ⟨(some 66), .bin .add (.t 61) (.t 65), none⟩,
     ⟨(some 67), .idxPa 1 64 (.t 3) (.t 53), none⟩,
     ⟨none, .store .sc (.t 67) (.t 66), none⟩])))))
  (.reg [⟨(some 27), .mv (.t 5), none⟩,
    ⟨(some 28), .bin .add (.t 27) (.k (.c (.d (.int .i64 1)))), none⟩,
    ⟨(some 5), .mv (.t 28), none⟩]))
def sf_spread : SFn := ⟨1, 69,
  .seq (.reg [⟨(some 2), .allocArr [(.int .u32 0), (.int .u32 0), (.int .u32 0), (.int .u32 0), (.int .u32 0), (.int .u32 0), (.int .u32 0), (.int .u32 0), (.int .u32 0), (.int .u32 0), (.int .u32 0), (.int .u32 0), (.int .u32 0), (.int .u32 0), (.int .u32 0), (.int .u32 0), (.int .u32 0), (.int .u32 0), (.int .u32 0), (.int .u32 0), (.int .u32 0), (.int .u32 0), (.int .u32 0), (.int .u32 0), (.int .u32 0), (.int .u32 0), (.int .u32 0), (.int .u32 0), (.int .u32 0), (.int .u32 0), (.int .u32 0), (.int .u32 0), (.int .u32 0), (.int .u32 0), (.int .u32 0), (.int .u32 0), (.int .u32 0), (.int .u32 0), (.int .u32 0), (.int .u32 0), (.int .u32 0), (.int .u32 0), (.int .u32 0), (.int .u32 0), (.int .u32 0), (.int .u32 0), (.int .u32 0), (.int .u32 0), (.int .u32 0), (.int .u32 0), (.int .u32 0), (.int .u32 0), (.int .u32 0), (.int .u32 0), (.int .u32 0), (.int .u32 0), (.int .u32 0), (.int .u32 0), (.int .u32 0), (.int .u32 0), (.int .u32 0), (.int .u32 0), (.int .u32 0), (.int .u32 0)], none⟩])
  (.seq (.reg [⟨(some 3), .allocArr [(.int .u32 0), (.int .u32 0), (.int .u32 0), (.int .u32 0), (.int .u32 0), (.int .u32 0), (.int .u32 0), (.int .u32 0), (.int .u32 0), (.int .u32 0), (.int .u32 0), (.int .u32 0), (.int .u32 0), (.int .u32 0), (.int .u32 0), (.int .u32 0), (.int .u32 0), (.int .u32 0), (.int .u32 0), (.int .u32 0), (.int .u32 0), (.int .u32 0), (.int .u32 0), (.int .u32 0), (.int .u32 0), (.int .u32 0), (.int .u32 0), (.int .u32 0), (.int .u32 0), (.int .u32 0), (.int .u32 0), (.int .u32 0), (.int .u32 0), (.int .u32 0), (.int .u32 0), (.int .u32 0), (.int .u32 0), (.int .u32 0), (.int .u32 0), (.int .u32 0), (.int .u32 0), (.int .u32 0), (.int .u32 0), (.int .u32 0), (.int .u32 0), (.int .u32 0), (.int .u32 0), (.int .u32 0), (.int .u32 0), (.int .u32 0), (.int .u32 0), (.int .u32 0), (.int .u32 0), (.int .u32 0), (.int .u32 0), (.int .u32 0), (.int .u32 0), (.int .u32 0), (.int .u32 0), (.int .u32 0), (.int .u32 0), (.int .u32 0), (.int .u32 0), (.int .u32 0)], none⟩])
  (.seq (.seq (.reg [⟨(some 10), .mv (.k (.c (.d (.int .i64 0)))), none⟩])
  (.block 0 (.loop lp_spread_0)))
  (.seq (.seq (.reg [⟨(some 5), .mv (.k (.c (.d (.int .i64 16)))), none⟩])
  (.block 2 (.loop lp_spread_1)))
  (.seq (.reg [⟨(some 68), .load (.ag 64) (.t 3), none⟩,
    ⟨none, .store (.ag 64) (.t 2) (.t 68), none⟩])
  (.ret))))),
  [(2, (some (.ag 64)))]⟩
theorem cf_spread : compFn Tryd.prog { own := [], comp := [], frz := [], nils := [] } Tryd.f49 = some sf_spread := by kernel_rfl
set_option maxHeartbeats 800000 in
theorem spread_c (G : Glob) (b : List UInt8) (hb : b.length = 64) : Den Tryd.prog G 49 [.sl (b.map bD)] (.w (.c (.d (.agg ((sched b).map wD))))) := by
  refine den_walk Tryd.func49 cf_spread rfl rfl ?_
  simp only [sf_spread, putAll, wx, stV, seval, IntWalk.iteOmega, IntWalk.toNatUp, reduceCtorEq]
  refine loop_st (spSt1 b) (fun t => 16 - t) (fun t => t ≤ 16) 0 (Nat.zero_le _) ?_ ?_
  · refine ent_l (fun i => 8 * (i + 1)) ?_ ?_ rfl rfl <;> simp only [wx, wex, stV, seval, IntWalk.iteOmega, IntWalk.toNatUp, reduceCtorEq]
    exact ⟨rfl, rfl⟩
  · intro t ht
    by_cases hlt : t < 16
    · have e1 : IntKind.i64.wrap ((t : Int) * 4) = ((4 * t : Nat) : Int) := by rw [IntWalk.i64_in _ (by omega)]; omega
      have e2 : IntKind.i64.wrap ((t : Int) + 1) = ((t + 1 : Nat) : Int) := by rw [IntWalk.i64_in _ (by omega)]; rfl
      have e3 : IntKind.i64.wrap (((t + 1 : Nat) : Int) * 4) = ((4 * t + 4 : Nat) : Int) := by rw [IntWalk.i64_in _ (by omega)]; omega
      have e4 : 4 * t + 4 - 4 * t = 4 := by omega
      simp only [lp_spread_0, spSt1, wx, stV, seval, IntWalk.iteOmega, IntWalk.toNatUp, reduceCtorEq, e1, e2, e3, e4]
      refine st_call (get_c G _ (by rw [List.length_take, List.length_drop]; omega)) rfl (.inr rfl) ?_
      have h1 : t < (sched16 b t ++ List.replicate (64 - t) 0).length := by rw [List.length_append, sched16_len, List.length_replicate]; omega
      have h2 := set_next (sched16 b t) 0 (wordAt b t) (64 - t) (by omega)
      rw [sched16_len] at h2
      have h3 : sched16 b t ++ [wordAt b t] = sched16 b (t + 1) := by simp [sched16, List.range_succ]
      have h4 : 64 - t - 1 = 64 - (t + 1) := by omega
      rw [h3, h4] at h2
      simp only [wx, stV, seval, IntWalk.iteOmega, IntWalk.toNatUp, reduceCtorEq, getW b t (by omega), Nat.zero_add, stO_ws h1 (one_w _), set_ws, h2, e2]
      refine lop_next (t + 1) (by omega) (by omega) (ent_l id ?_ ?_ rfl rfl) <;> simp only [wx, wex, stV, seval, IntWalk.iteOmega, IntWalk.toNatUp, reduceCtorEq]
    · obtain rfl : t = 16 := by omega
      simp only [lp_spread_0, spSt1, wx, stV, seval, IntWalk.iteOmega, IntWalk.toNatUp, reduceCtorEq]
      refine loop_st (spSt2 b) (fun n => 48 - n) (fun n => n ≤ 48) 0 (Nat.zero_le _) ?_ ?_
      · have h0 : sched16 b 16 = schedN b 0 := rfl
        refine ent_l id ?_ ?_ rfl rfl <;> simp only [wx, wex, stV, seval, IntWalk.iteOmega, IntWalk.toNatUp, reduceCtorEq, h0]
      · intro n hn
        by_cases hlt : n < 48
        · have hl := schedN_len b n
          have w1 : ∀ k : Nat, k ≤ 16 → IntKind.i64.wrap (((16 + n : Nat) : Int) - (k : Int)) = ((16 + n - k : Nat) : Int) := fun k hk => by rw [IntWalk.i64_in _ (by omega)]; omega
          have e15 : IntKind.i64.wrap (((16 + n : Nat) : Int) - 15) = ((16 + n - 15 : Nat) : Int) := w1 15 (by decide)
          have e2 : IntKind.i64.wrap (((16 + n : Nat) : Int) - 2) = ((16 + n - 2 : Nat) : Int) := w1 2 (by decide)
          have e7 : IntKind.i64.wrap (((16 + n : Nat) : Int) - 7) = ((16 + n - 7 : Nat) : Int) := w1 7 (by decide)
          have e16 : IntKind.i64.wrap (((16 + n : Nat) : Int) - 16) = ((16 + n - 16 : Nat) : Int) := w1 16 (by decide)
          have e0 : IntKind.i64.wrap (((16 + n : Nat) : Int) + 1) = ((16 + (n + 1) : Nat) : Int) := by rw [IntWalk.i64_in _ (by omega)]; omega
          have g : ∀ k, k < 16 + n → ((schedN b n ++ List.replicate (48 - n) 0).map wD)[k]? = some (wD ((schedN b n).getD k 0)) := fun k hk => by
            rw [List.getElem?_map, get_of (by omega)]; rfl
          have g15 := g (16 + n - 15) (by omega)
          have g2 := g (16 + n - 2) (by omega)
          have g7 := g (16 + n - 7) (by omega)
          have g16 := g (16 + n - 16) (by omega)
          simp only [lp_spread_1, spSt2, wx, stV, seval, IntWalk.iteOmega, IntWalk.toNatUp, reduceCtorEq, e15, e2, e7, e16, e0, g15, g2, g7, g16]
          refine st_call (turn_c G _ 7 (by decide) (by decide)) rfl (.inr rfl) ?_
          simp only [wx, stV, seval, IntWalk.iteOmega, IntWalk.toNatUp, reduceCtorEq]
          refine st_call (turn_c G _ 18 (by decide) (by decide)) rfl (.inr rfl) ?_
          simp only [wx, stV, seval, IntWalk.iteOmega, IntWalk.toNatUp, reduceCtorEq]
          refine st_call (turn_c G _ 17 (by decide) (by decide)) rfl (.inr rfl) ?_
          simp only [wx, stV, seval, IntWalk.iteOmega, IntWalk.toNatUp, reduceCtorEq]
          refine st_call (turn_c G _ 19 (by decide) (by decide)) rfl (.inr rfl) ?_
          have h1 : 16 + n < (schedN b n ++ List.replicate (48 - n) 0).length := by rw [List.length_append, hl, List.length_replicate]; omega
          have h2 := set_next (schedN b n) 0 (nextW (schedN b n) (16 + n)) (48 - n) (by omega)
          rw [hl] at h2
          have h4 : 48 - n - 1 = 48 - (n + 1) := by omega
          have h3 : schedN b n ++ [nextW (schedN b n) (16 + n)] = schedN b (n + 1) := rfl
          rw [h3, h4] at h2
          simp only [nextW, smallA, smallB] at h2
          simp only [wx, stV, seval, IntWalk.iteOmega, IntWalk.toNatUp, reduceCtorEq, e15, e2, e7, e16, e0, g15, g2, g7, g16, stO_ws h1 (one_w _), set_ws, h2]
          refine lop_next (n + 1) (by omega) (by omega) (ent_l id ?_ ?_ rfl rfl) <;> simp only [wx, wex, stV, seval, IntWalk.iteOmega, IntWalk.toNatUp, reduceCtorEq]
        · have hn48 : n = 48 := by omega
          have hl : (schedN b n).length = 64 := by rw [schedN_len]; omega
          have h0 : 48 - n = 0 := by omega
          simp only [lp_spread_1, spSt2, wx, stV, seval, IntWalk.iteOmega, IntWalk.toNatUp, reduceCtorEq, h0, List.append_nil, List.replicate_zero, hl]
          refine ret_d ?_
          simp only [wx, stV, seval, IntWalk.iteOmega, IntWalk.toNatUp, reduceCtorEq, sched_at b n hn48, hl]
end Go.Proofs.YtgepbpcolddgoaaDoor
