/- Layer 4 on data: counters, keys, blocks, in both codes. Own work. -/
import Derived.Test.YtopnilojhpddiaaPc9
set_option linter.unusedVariables false
set_option linter.unusedSimpArgs false
namespace Go.Proofs.Ytopnilojhpddiaa
open Go.RowKit

/-! ### The next counter -/
theorem incL_app : ∀ a b : List UInt8, incL (a ++ b) = if (incL b).2 then ((incL a).1 ++ (incL b).1, (incL a).2) else (a ++ (incL b).1, false)
  | [], b => by
    show incL b = if (incL b).2 then ([] ++ (incL b).1, true) else ([] ++ (incL b).1, false)
    rcases incL b with ⟨s, _ | _⟩ <;> rfl
  | x :: a, b => by
    have ih := incL_app a b
    simp only [List.cons_append, incL, ih]
    cases h : (incL b).2
    · simp
    · simp only [if_true]
      cases h2 : (incL a).2 <;> simp
/-- The last j bytes are counted up; the counter carries over. -/
def carry (c : List UInt8) (m : Nat) : Prop := (incL (c.drop m)).2 = true
def cntL (c : List UInt8) (m : Nat) : List UInt8 := c.take m ++ (incL (c.drop m)).1
theorem cntL_len (c : List UInt8) (m : Nat) : (cntL c m).length = c.length := by
  unfold cntL; rw [List.length_append, incL_len, ← List.length_append, List.take_append_drop]
theorem cntL_start (c : List UInt8) : cntL c c.length = c := by unfold cntL; simp [incL]
theorem carry_start (c : List UInt8) : carry c c.length := by unfold carry; simp [incL]
theorem cntL_zero (c : List UInt8) : cntL c 0 = nextC c := by unfold cntL nextC; simp
theorem cnt_get {c : List UInt8} {m : Nat} (h : m < c.length) : (cntL c (m + 1))[m]? = some (c.getD m 0) := by
  unfold cntL
  rw [List.getElem?_append_left (by rw [List.length_take]; omega), List.getElem?_take, if_pos (by omega)]
  exact get_lt h
theorem drop_cons {c : List UInt8} {m : Nat} (h : m < c.length) : c.drop m = c.getD m 0 :: c.drop (m + 1) := by
  rw [List.drop_eq_getElem_cons h, List.getD_eq_getElem?_getD, List.getElem?_eq_getElem h]; rfl
theorem cnt_set {c : List UInt8} {m : Nat} (h : m < c.length) (hc : carry c (m + 1)) : (cntL c (m + 1)).set m (c.getD m 0 + 1) = cntL c m := by
  have e : (incL (c.drop m)).1 = (c.getD m 0 + 1) :: (incL (c.drop (m + 1))).1 := by
    rw [drop_cons h]
    unfold carry at hc
    simp only [incL, hc, if_true]
  have e2 : c.take (m + 1) = c.take m ++ [c.getD m 0] := by
    rw [List.take_add_one, get_lt h]; rfl
  unfold cntL
  rw [e, e2, List.append_assoc, List.set_append_right _ _ (by rw [List.length_take]; omega), List.length_take, show m - min m c.length = 0 by omega]
  rfl
theorem carry_step {c : List UInt8} {m : Nat} (h : m < c.length) (hc : carry c (m + 1)) : (incL (c.drop m)).2 = (c.getD m 0 + 1 == 0) := by
  rw [drop_cons h]
  unfold carry at hc
  simp only [incL, hc, if_true]
theorem cnt_end {c : List UInt8} {m : Nat} (h : (incL (c.drop m)).2 = false) : cntL c m = nextC c := by
  have := incL_app (c.take m) (c.drop m)
  rw [List.take_append_drop, h] at this
  unfold nextC cntL
  rw [this]; rfl
theorem bl_add (x c : UInt8) (n : Int) (h : n = (c.toNat : Int)) : binV .add (.w (.c (.d (bD x)))) (.w (.c (.d (.int .u8 n)))) = some (bD (x + c)) := by
  subst h
  show binI .add .u8 (x.toNat : Int) .u8 (c.toNat : Int) = _
  rw [binI_add, IntKind.wrap_u8]
  show some (D.int .u8 (((x.toNat : Int) + (c.toNat : Int)) % 256)) = _
  have : ((x.toNat : Int) + (c.toNat : Int)) % 256 = ((x + c).toNat : Int) := by
    rw [UInt8.toNat_add]; simp
  rw [this]; rfl
/-- What Next returns: nothing of bytes of another number. -/
def nexV (c : List UInt8) : List UInt8 := if c.length = 16 then nextC c else []
def nxSt (c : List UInt8) (m : Nat) : St := ⟨ofL [(3, .w (.c (.own 1 1 0 16))), (4, .w (.c (.d (.int .i64 ((m : Int) - 1)))))], hL [(1, .row 1 ((cntL c m).map bD))], uL [1]⟩
def lp_nex_0 : SCode :=
  .seq (.seq (.reg [⟨(some 14), .mv (.t 4), none⟩,
    ⟨(some 15), .bin .geq (.t 14) (.k (.c (.d (.int .i64 0)))), none⟩])
  (.cond (.t 15) (.skip)
   (.exit 0)))
  (.seq (.block 1 (.seq (.reg [⟨(some 18), .mv (.t 3), none⟩,
     ⟨(some 19), .mv (.t 4), none⟩,
     ⟨(some 20), .idxSl 1 (.t 18) (.t 19), none⟩,
     ⟨(some 21), .load .sc (.t 20), none⟩,
     ⟨(some 22), .bin .add (.t 21) (.k (.c (.d (.int .u8 1)))), none⟩,
     ⟨(some 23), .idxSl 1 (.t 18) (.t 19), none⟩,
     ⟨none, .store .sc (.t 23) (.t 22), none⟩])
   (.seq (.reg [⟨(some 24), .mv (.t 3), none⟩,
     ⟨(some 25), .mv (.t 4), none⟩,
     ⟨(some 26), .idxSl 1 (.t 24) (.t 25), none⟩,
     ⟨(some 27), .load .sc (.t 26), none⟩,
     ⟨(some 28), .bin .neq (.t 27) (.k (.c (.d (.int .u8 0)))), none⟩])
   (.cond (.t 28) (.exit 0)
    (.skip)))))
  (.reg [⟨(some 16), .mv (.t 4), none⟩,
    ⟨(some 17), .bin .sub (.t 16) (.k (.c (.d (.int .i64 1)))), none⟩,
    ⟨(some 4), .mv (.t 17), none⟩]))
def sf_nex : SFn := ⟨1, 30,
  .seq (.reg [⟨(some 2), .mv (.k (.c .nil)), none⟩])
  (.seq (.seq (.reg [⟨(some 5), .mv (.t 0), none⟩,
    ⟨(some 6), .len (.t 5), none⟩,
    ⟨(some 7), .bin .neq (.t 6) (.k (.c (.d (.int .i64 16)))), none⟩])
  (.cond (.t 7) (.seq (.reg [⟨(some 2), .mv (.k (.c .nil)), none⟩])
   (.ret))
   (.skip)))
  (.seq (.reg [⟨(some 8), .mv (.t 0), none⟩,
    ⟨(some 9), .bldSl false 1 1 (.sl []) [(0, (.t 8))], none⟩,
    ⟨(some 10), .call 29 [(.t 9)] (some (0, 1)), none⟩,
    ⟨(some 3), .mv (.t 10), none⟩])
  (.seq (.seq (.reg [⟨(some 11), .mv (.t 3), none⟩,
    ⟨(some 12), .len (.t 11), none⟩,
    ⟨(some 13), .bin .sub (.t 12) (.k (.c (.d (.int .i64 1)))), none⟩,
    ⟨(some 4), .mv (.t 13), none⟩])
  (.block 0 (.loop lp_nex_0)))
  (.seq (.reg [⟨(some 29), .mv (.t 3), none⟩,
    ⟨(some 2), .mv (.t 29), none⟩])
  (.ret))))),
  [(2, none)]⟩
theorem cf_nex : compFn Try.prog { own := [10], comp := [], frz := [], nils := [] } Try.f17 = some sf_nex := by kernel_rfl
set_option maxHeartbeats 1600000 in
theorem nex_c (G : Glob) (c : List UInt8) (hc : c.length ≤ 140737488355328) : Den Try.prog G 17 [.sl (c.map bD)] (.w (.c (.fr 1 ((nexV c).map bD)))) := by
  refine den_walk Try.func17 cf_nex rfl rfl ?_
  unfold nexV
  by_cases h : c.length = 16
  · rw [if_pos h]
    have hj := join_c G [c] (by simp) (by simp; omega)
    have hf : [c].flatten = c := by simp
    rw [hf] at hj
    have hs := cntL_start c
    rw [h] at hs
    simp only [sf_nex, putAll, wx, wy, wz, stV, seval, IntWalk.iteOmega, IntWalk.toNatUp, reduceCtorEq, h]
    refine st_call (hj) rfl (.inl rfl) ?_
    simp only [wx, wy, wz, stV, seval, IntWalk.iteOmega, IntWalk.toNatUp, reduceCtorEq]
    refine loop_st (nxSt c) (fun m => m) (fun m => m ≤ 16 ∧ carry c m) 16 ⟨Nat.le_refl _, by have := carry_start c; rwa [h] at this⟩ ?_ ?_
    · refine ent_l (fun i => 80) ?_ ?_ rfl rfl <;> simp only [wx, wex, wez, stV, seval, IntWalk.iteOmega, IntWalk.toNatUp, reduceCtorEq, hs, h] <;> rfl
    · rintro m ⟨hm, hcar⟩
      rcases m with _ | q
      · have e0 := cntL_zero c
        have hl : (nextC c).length = 16 := by rw [nextC_len]; exact h
        simp only [lp_nex_0, nxSt, e0, Int.natCast_zero, Int.zero_sub, wx, wy, wz, stV, seval, IntWalk.iteOmega, IntWalk.toNatUp, reduceCtorEq]
        exact ret_own (id := 1) (n := 16) (s := 1) (by simp only [wx, stV, seval, IntWalk.iteOmega, IntWalk.toNatUp, reduceCtorEq]) (by simp only [wx, stV, seval, IntWalk.iteOmega, IntWalk.toNatUp, reduceCtorEq]) (by simp [hl])
      · have hq : q < c.length := by omega
        have hl1 : (cntL c (q + 1)).length = 16 := by rw [cntL_len]; exact h
        have hl0 : (cntL c q).length = 16 := by rw [cntL_len]; exact h
        have g1 := cnt_get hq
        have h3 : q < (cntL c (q + 1)).length := by omega
        have h5 := cnt_set hq hcar
        have g2 : (cntL c q)[q]? = some (c.getD q 0 + 1) := by
          rw [← h5, List.getElem?_set_self (by omega)]
        have x1 := bl_add (c.getD q 0) 1 1 rfl
        have x2 := bl_neq (c.getD q 0 + 1) 0 0 rfl
        have hcs := carry_step hq hcar
        have sub : ((q : Int) + 1 - 1) = (q : Int) := by omega
        by_cases hz : c.getD q 0 + 1 = 0
        · have hz2 : (c.getD q 0 + 1 != 0) = false := by rw [hz]; rfl
          rw [hz2] at x2
          have hcar2 : carry c q := by unfold carry; rw [hcs, hz]; rfl
          simp only [lp_nex_0, nxSt, wx, wy, wz, stV, seval, IntWalk.iteOmega, IntWalk.toNatUp, reduceCtorEq, sub, get_map, g1, x1, stO_bs h3 (one_b _), set_bs, h5, g2, x2, hl1, hl0]
          refine lop_next q (by omega) ⟨by omega, hcar2⟩ (ent_l (fun i => i) ?_ ?_ rfl rfl) <;> simp only [wx, wex, wez, stV, seval, IntWalk.iteOmega, IntWalk.toNatUp, reduceCtorEq]
        · have hz2 : (c.getD q 0 + 1 != 0) = true := bne_iff_ne.2 hz
          rw [hz2] at x2
          have e0 : cntL c q = nextC c := cnt_end (by rw [hcs]; exact beq_eq_false_iff_ne.2 hz)
          rw [e0] at hl0 g2 h5
          simp only [lp_nex_0, nxSt, wx, wy, wz, stV, seval, IntWalk.iteOmega, IntWalk.toNatUp, reduceCtorEq, sub, get_map, g1, x1, stO_bs h3 (one_b _), set_bs, h5, g2, x2, hl1, e0]
          exact ret_own (id := 1) (n := 16) (s := 1) (by simp only [wx, stV, seval, IntWalk.iteOmega, IntWalk.toNatUp, reduceCtorEq]) (by simp only [wx, stV, seval, IntWalk.iteOmega, IntWalk.toNatUp, reduceCtorEq]) (by simp [hl0])
  · rw [if_neg h]
    simp only [sf_nex, putAll, wx, wy, wz, stV, seval, IntWalk.iteOmega, IntWalk.toNatUp, reduceCtorEq]
    exact ret_f1 (by simp only [wx, wy, wz, stV, seval, IntWalk.iteOmega, IntWalk.toNatUp, reduceCtorEq])
def lp_rnex_0 : SCode :=
  .seq (.seq (.reg [⟨(some 11), .mv (.t 4), none⟩,
    ⟨(some 12), .bin .geq (.t 11) (.k (.c (.d (.int .i64 0)))), none⟩])
  (.cond (.t 12) (.skip)
   (.exit 0)))
  (.seq (.block 1 (.seq (.reg [⟨(some 15), .mv (.t 3), none⟩,
     ⟨(some 16), .mv (.t 4), none⟩,
     ⟨(some 17), .idxSl 1 (.t 15) (.t 16), none⟩,
     ⟨(some 18), .load .sc (.t 17), none⟩,
     ⟨(some 19), .bin .add (.t 18) (.k (.c (.d (.int .u8 1)))), none⟩,
     ⟨(some 20), .idxSl 1 (.t 15) (.t 16), none⟩,
     ⟨none, .store .sc (.t 20) (.t 19), none⟩])
   (.seq (.reg [⟨(some 21), .mv (.t 3), none⟩,
     ⟨(some 22), .mv (.t 4), none⟩,
     ⟨(some 23), .idxSl 1 (.t 21) (.t 22), none⟩,
     ⟨(some 24), .load .sc (.t 23), none⟩,
     ⟨(some 25), .bin .neq (.t 24) (.k (.c (.d (.int .u8 0)))), none⟩])
   (.cond (.t 25) (.exit 0)
    (.skip)))))
  (.reg [⟨(some 13), .mv (.t 4), none⟩,
    ⟨(some 14), .bin .sub (.t 13) (.k (.c (.d (.int .i64 1)))), none⟩,
    ⟨(some 4), .mv (.t 14), none⟩]))
def sf_rnex : SFn := ⟨1, 27,
  .seq (.reg [⟨(some 2), .mv (.k (.c .nil)), none⟩])
  (.seq (.seq (.reg [⟨(some 5), .mv (.t 0), none⟩,
    ⟨(some 6), .len (.t 5), none⟩,
    ⟨(some 7), .bin .neq (.t 6) (.k (.c (.d (.int .i64 16)))), none⟩])
  (.cond (.t 7) (.seq (.reg [⟨(some 2), .mv (.k (.c .nil)), none⟩])
   (.ret))
   (.skip)))
  (.seq (.reg [⟨(some 8), .mv (.t 0), none⟩,
    ⟨(some 9), .bldSl false 1 1 (.sl []) [(0, (.t 8))], none⟩,
    ⟨(some 10), .call 34 [(.t 9)] (some (0, 1)), none⟩,
    ⟨(some 3), .mv (.t 10), none⟩])
  (.seq (.seq (.reg [⟨(some 4), .mv (.k (.c (.d (.int .i64 15)))), none⟩])
  (.block 0 (.loop lp_rnex_0)))
  (.seq (.reg [⟨(some 26), .mv (.t 3), none⟩,
    ⟨(some 2), .mv (.t 26), none⟩])
  (.ret))))),
  [(2, none)]⟩
theorem cf_rnex : compFn Try.prog { own := [10], comp := [], frz := [], nils := [] } Try.f18 = some sf_rnex := by kernel_rfl
set_option maxHeartbeats 1600000 in
theorem rnex_c (G : Glob) (c : List UInt8) (hc : c.length ≤ 140737488355328) : Den Try.prog G 18 [.sl (c.map bD)] (.w (.c (.fr 1 ((nexV c).map bD)))) := by
  refine den_walk Try.func18 cf_rnex rfl rfl ?_
  unfold nexV
  by_cases h : c.length = 16
  · rw [if_pos h]
    have hj := rjoin_c G [c] (by simp) (by simp; omega)
    have hf : [c].flatten = c := by simp
    rw [hf] at hj
    have hs := cntL_start c
    rw [h] at hs
    simp only [sf_rnex, putAll, wx, wy, wz, stV, seval, IntWalk.iteOmega, IntWalk.toNatUp, reduceCtorEq, h]
    refine st_call (hj) rfl (.inl rfl) ?_
    simp only [wx, wy, wz, stV, seval, IntWalk.iteOmega, IntWalk.toNatUp, reduceCtorEq]
    refine loop_st (nxSt c) (fun m => m) (fun m => m ≤ 16 ∧ carry c m) 16 ⟨Nat.le_refl _, by have := carry_start c; rwa [h] at this⟩ ?_ ?_
    · refine ent_l (fun i => 80) ?_ ?_ rfl rfl <;> simp only [wx, wex, wez, stV, seval, IntWalk.iteOmega, IntWalk.toNatUp, reduceCtorEq, hs, h] <;> rfl
    · rintro m ⟨hm, hcar⟩
      rcases m with _ | q
      · have e0 := cntL_zero c
        have hl : (nextC c).length = 16 := by rw [nextC_len]; exact h
        simp only [lp_rnex_0, nxSt, e0, Int.natCast_zero, Int.zero_sub, wx, wy, wz, stV, seval, IntWalk.iteOmega, IntWalk.toNatUp, reduceCtorEq]
        exact ret_own (id := 1) (n := 16) (s := 1) (by simp only [wx, stV, seval, IntWalk.iteOmega, IntWalk.toNatUp, reduceCtorEq]) (by simp only [wx, stV, seval, IntWalk.iteOmega, IntWalk.toNatUp, reduceCtorEq]) (by simp [hl])
      · have hq : q < c.length := by omega
        have hl1 : (cntL c (q + 1)).length = 16 := by rw [cntL_len]; exact h
        have hl0 : (cntL c q).length = 16 := by rw [cntL_len]; exact h
        have g1 := cnt_get hq
        have h3 : q < (cntL c (q + 1)).length := by omega
        have h5 := cnt_set hq hcar
        have g2 : (cntL c q)[q]? = some (c.getD q 0 + 1) := by
          rw [← h5, List.getElem?_set_self (by omega)]
        have x1 := bl_add (c.getD q 0) 1 1 rfl
        have x2 := bl_neq (c.getD q 0 + 1) 0 0 rfl
        have hcs := carry_step hq hcar
        have sub : ((q : Int) + 1 - 1) = (q : Int) := by omega
        by_cases hz : c.getD q 0 + 1 = 0
        · have hz2 : (c.getD q 0 + 1 != 0) = false := by rw [hz]; rfl
          rw [hz2] at x2
          have hcar2 : carry c q := by unfold carry; rw [hcs, hz]; rfl
          simp only [lp_rnex_0, nxSt, wx, wy, wz, stV, seval, IntWalk.iteOmega, IntWalk.toNatUp, reduceCtorEq, sub, get_map, g1, x1, stO_bs h3 (one_b _), set_bs, h5, g2, x2, hl1, hl0]
          refine lop_next q (by omega) ⟨by omega, hcar2⟩ (ent_l (fun i => i) ?_ ?_ rfl rfl) <;> simp only [wx, wex, wez, stV, seval, IntWalk.iteOmega, IntWalk.toNatUp, reduceCtorEq]
        · have hz2 : (c.getD q 0 + 1 != 0) = true := bne_iff_ne.2 hz
          rw [hz2] at x2
          have e0 : cntL c q = nextC c := cnt_end (by rw [hcs]; exact beq_eq_false_iff_ne.2 hz)
          rw [e0] at hl0 g2 h5
          simp only [lp_rnex_0, nxSt, wx, wy, wz, stV, seval, IntWalk.iteOmega, IntWalk.toNatUp, reduceCtorEq, sub, get_map, g1, x1, stO_bs h3 (one_b _), set_bs, h5, g2, x2, hl1, e0]
          exact ret_own (id := 1) (n := 16) (s := 1) (by simp only [wx, stV, seval, IntWalk.iteOmega, IntWalk.toNatUp, reduceCtorEq]) (by simp only [wx, stV, seval, IntWalk.iteOmega, IntWalk.toNatUp, reduceCtorEq]) (by simp [hl0])
  · rw [if_neg h]
    simp only [sf_rnex, putAll, wx, wy, wz, stV, seval, IntWalk.iteOmega, IntWalk.toNatUp, reduceCtorEq]
    exact ret_f1 (by simp only [wx, wy, wz, stV, seval, IntWalk.iteOmega, IntWalk.toNatUp, reduceCtorEq])
/-! ### Block -/
/-- The error's number of Block (and of Stream, of a short message). -/
def blkE (key b : List UInt8) : Int := if key.length ≠ 16 then 5 else if b.length ≠ 16 then 3 else 0
def blkV (key b : List UInt8) : List UInt8 := if key.length = 16 ∧ b.length = 16 then blockC key b else []
def sf_blk : SFn := ⟨2, 18,
  .seq (.reg [⟨(some 4), .mv (.k (.c .nil)), none⟩,
    ⟨(some 5), .mv (.k (.c (.d (.int .i64 0)))), none⟩])
  (.seq (.seq (.reg [⟨(some 7), .mv (.t 0), none⟩,
    ⟨(some 8), .len (.t 7), none⟩,
    ⟨(some 9), .bin .neq (.t 8) (.k (.c (.d (.int .i64 16)))), none⟩])
  (.cond (.t 9) (.seq (.reg [⟨(some 4), .mv (.k (.c .nil)), none⟩,
     ⟨(some 5), .mv (.k (.c (.d (.int .i64 5)))), none⟩])
   (.ret))
   (.skip)))
  (.seq (.seq (.reg [⟨(some 10), .mv (.t 1), none⟩,
    ⟨(some 11), .len (.t 10), none⟩,
    ⟨(some 12), .bin .neq (.t 11) (.k (.c (.d (.int .i64 16)))), none⟩])
  (.cond (.t 12) (.seq (.reg [⟨(some 4), .mv (.k (.c .nil)), none⟩,
     ⟨(some 5), .mv (.k (.c (.d (.int .i64 3)))), none⟩])
   (.ret))
   (.skip)))
  (.seq (.reg [⟨(some 13), .mv (.t 0), none⟩,
    ⟨(some 14), .call 28 [(.t 13)] none, none⟩,
    ⟨(some 15), .mv (.t 1), none⟩,
    ⟨(some 16), .call 31 [(.t 14), (.t 15)] none, none⟩,
    ⟨(some 6), .allocArr [(.int .u8 0), (.int .u8 0), (.int .u8 0), (.int .u8 0), (.int .u8 0), (.int .u8 0), (.int .u8 0), (.int .u8 0), (.int .u8 0), (.int .u8 0), (.int .u8 0), (.int .u8 0), (.int .u8 0), (.int .u8 0), (.int .u8 0), (.int .u8 0)], none⟩,
    ⟨none, .store (.ag 16) (.t 6) (.t 16), none⟩])
  (.seq (.reg [⟨(some 17), .sliceArr 1 16 (.t 6) none none, none⟩,
    ⟨(some 4), .mv (.t 17), none⟩,
    ⟨(some 5), .mv (.k (.c (.d (.int .i64 0)))), none⟩])
  (.ret))))),
  [(4, none), (5, none)]⟩
theorem cf_blk : compFn Try.prog { own := [], comp := [], frz := [], nils := [] } Try.f11 = some sf_blk := by kernel_rfl
set_option maxHeartbeats 1600000 in
theorem blk_c (G : Glob) (key b : List UInt8) (hk : key.length ≤ 9223372036854775807) (hb : b.length ≤ 9223372036854775807) : Den Try.prog G 11 [.sl (key.map bD), .sl (b.map bD)] (.tup [.c (.d (.sl ((blkV key b).map bD))), .c (.d (.int .i64 (blkE key b)))]) := by
  refine den_walk Try.func11 cf_blk rfl rfl ?_
  unfold blkV blkE
  by_cases h : key.length = 16
  · by_cases h2 : b.length = 16
    · have hr := rkK_len h
      have hl : (blockC key b).length = 16 := encK_len _ _
      have ht : (blockC key b).take 16 = blockC key b := List.take_of_length_le (by omega)
      rw [if_pos ⟨h, h2⟩, if_neg (by simp [h]), if_neg (by simp [h2])]
      simp only [sf_blk, putAll, wx, wy, wz, stV, seval, IntWalk.iteOmega, IntWalk.toNatUp, reduceCtorEq, h, h2, z16]
      refine st_call (expd_c G key h) rfl (.inl rfl) ?_
      simp only [wx, wy, wz, stV, seval, IntWalk.iteOmega, IntWalk.toNatUp, reduceCtorEq]
      refine st_call (encd_c G (rkK key) b hr h2) rfl (.inl rfl) ?_
      simp only [encK_len, repL_len, hl, wx, wy, wz, stV, seval, IntWalk.iteOmega, IntWalk.toNatUp, reduceCtorEq]
      exact ret_d2 (by simp only [wx, wy, wz, stV, seval, IntWalk.iteOmega, IntWalk.toNatUp, reduceCtorEq, encK_len, ht, take_map]; rfl) (by simp only [wx, wy, wz, stV, seval, IntWalk.iteOmega, IntWalk.toNatUp, reduceCtorEq])
    · rw [if_neg (fun k => h2 k.2), if_neg (by simp [h]), if_pos h2]
      simp only [sf_blk, putAll, wx, wy, wz, stV, seval, IntWalk.iteOmega, IntWalk.toNatUp, reduceCtorEq, h]
      exact ret_d2 (by simp only [wx, wy, wz, stV, seval, IntWalk.iteOmega, IntWalk.toNatUp, reduceCtorEq]) (by simp only [wx, wy, wz, stV, seval, IntWalk.iteOmega, IntWalk.toNatUp, reduceCtorEq])
  · rw [if_neg (fun k => h k.1), if_pos h]
    simp only [sf_blk, putAll, wx, wy, wz, stV, seval, IntWalk.iteOmega, IntWalk.toNatUp, reduceCtorEq]
    exact ret_d2 (by simp only [wx, wy, wz, stV, seval, IntWalk.iteOmega, IntWalk.toNatUp, reduceCtorEq]) (by simp only [wx, wy, wz, stV, seval, IntWalk.iteOmega, IntWalk.toNatUp, reduceCtorEq])
def sf_rblk : SFn := ⟨2, 16,
  .seq (.reg [⟨(some 4), .mv (.k (.c .nil)), none⟩,
    ⟨(some 5), .mv (.k (.c (.d (.int .i64 0)))), none⟩])
  (.seq (.seq (.reg [⟨(some 6), .mv (.t 0), none⟩,
    ⟨(some 7), .len (.t 6), none⟩,
    ⟨(some 8), .bin .neq (.t 7) (.k (.c (.d (.int .i64 16)))), none⟩])
  (.cond (.t 8) (.seq (.reg [⟨(some 4), .mv (.k (.c .nil)), none⟩,
     ⟨(some 5), .mv (.k (.c (.d (.int .i64 5)))), none⟩])
   (.ret))
   (.skip)))
  (.seq (.seq (.reg [⟨(some 9), .mv (.t 1), none⟩,
    ⟨(some 10), .len (.t 9), none⟩,
    ⟨(some 11), .bin .neq (.t 10) (.k (.c (.d (.int .i64 16)))), none⟩])
  (.cond (.t 11) (.seq (.reg [⟨(some 4), .mv (.k (.c .nil)), none⟩,
     ⟨(some 5), .mv (.k (.c (.d (.int .i64 3)))), none⟩])
   (.ret))
   (.skip)))
  (.seq (.reg [⟨(some 12), .mv (.t 0), none⟩,
    ⟨(some 13), .call 30 [(.t 12)] none, none⟩,
    ⟨(some 14), .mv (.t 1), none⟩,
    ⟨(some 15), .call 32 [(.t 13), (.t 14)] (some (0, 1)), none⟩,
    ⟨(some 4), .mv (.t 15), none⟩,
    ⟨(some 5), .mv (.k (.c (.d (.int .i64 0)))), none⟩])
  (.ret)))),
  [(4, none), (5, none)]⟩
theorem cf_rblk : compFn Try.prog { own := [15], comp := [], frz := [], nils := [] } Try.f12 = some sf_rblk := by kernel_rfl
set_option maxHeartbeats 1600000 in
theorem rblk_c (G : Glob) (key b : List UInt8) (hk : key.length ≤ 9223372036854775807) (hb : b.length ≤ 9223372036854775807) : Den Try.prog G 12 [.sl (key.map bD), .sl (b.map bD)] (.tup [.c (.d (.sl ((blkV key b).map bD))), .c (.d (.int .i64 (blkE key b)))]) := by
  refine den_walk Try.func12 cf_rblk rfl rfl ?_
  unfold blkV blkE
  by_cases h : key.length = 16
  · by_cases h2 : b.length = 16
    · rw [if_pos ⟨h, h2⟩, if_neg (by simp [h]), if_neg (by simp [h2])]
      simp only [sf_rblk, putAll, wx, wy, wz, stV, seval, IntWalk.iteOmega, IntWalk.toNatUp, reduceCtorEq, h, h2]
      refine st_call (prep_c G key h) rfl (.inl rfl) ?_
      simp only [wx, wy, wz, stV, seval, IntWalk.iteOmega, IntWalk.toNatUp, reduceCtorEq]
      refine st_call (renc_c G key b h h2) rfl (.inl rfl) ?_
      simp only [wx, wy, wz, stV, seval, IntWalk.iteOmega, IntWalk.toNatUp, reduceCtorEq]
      exact ret_d2 (by simp only [wx, wy, wz, stV, seval, IntWalk.iteOmega, IntWalk.toNatUp, reduceCtorEq]) (by simp only [wx, wy, wz, stV, seval, IntWalk.iteOmega, IntWalk.toNatUp, reduceCtorEq])
    · rw [if_neg (fun k => h2 k.2), if_neg (by simp [h]), if_pos h2]
      simp only [sf_rblk, putAll, wx, wy, wz, stV, seval, IntWalk.iteOmega, IntWalk.toNatUp, reduceCtorEq, h]
      exact ret_d2 (by simp only [wx, wy, wz, stV, seval, IntWalk.iteOmega, IntWalk.toNatUp, reduceCtorEq]) (by simp only [wx, wy, wz, stV, seval, IntWalk.iteOmega, IntWalk.toNatUp, reduceCtorEq])
  · rw [if_neg (fun k => h k.1), if_pos h]
    simp only [sf_rblk, putAll, wx, wy, wz, stV, seval, IntWalk.iteOmega, IntWalk.toNatUp, reduceCtorEq]
    exact ret_d2 (by simp only [wx, wy, wz, stV, seval, IntWalk.iteOmega, IntWalk.toNatUp, reduceCtorEq]) (by simp only [wx, wy, wz, stV, seval, IntWalk.iteOmega, IntWalk.toNatUp, reduceCtorEq])
/-! ### Keys -/
def keyE (key : List UInt8) : Int := if key.length ≠ 16 then 5 else 0
def kbs (key : List UInt8) (i : Nat) : List (List UInt8) := (List.range i).map (kb key)
def keyV (key : List UInt8) : List (List UInt8) := if key.length = 16 then kbs key 11 else []
theorem kbs_len (key : List UInt8) (i : Nat) : (kbs key i).length = i := by unfold kbs; rw [List.length_map, List.length_range]
theorem kbs_step (key : List UInt8) (i : Nat) : kbs key i ++ [kb key i] = kbs key (i + 1) := by unfold kbs; rw [List.range_succ, List.map_append]; rfl
def slB (l : List UInt8) : D := .sl (l.map bD)
theorem slB_f : (fun l : List UInt8 => D.sl (l.map bD)) = slB := rfl
theorem sl_B (l : List UInt8) : D.sl (l.map bD) = slB l := rfl
theorem kbs_app (key : List UInt8) (i : Nat) : (kbs key i).map slB ++ [slB (kb key i)] = (kbs key (i + 1)).map slB := by rw [← kbs_step, List.map_append]; rfl
def keySt (key : List UInt8) (i : Nat) : St := ⟨ofL [(4, .w (.c (.own 1 1 0 i))), (12, .w (.c (.d (.agg ((rkK key).map bD))))), (13, .w (.c (.d (.int .i64 (i : Int)))))], hL [(1, .row 1 ((kbs key i).map slB))], uL [1]⟩
def lp_keys_0 : SCode :=
  .seq (.reg [⟨(some 14), .bin .lss (.t 13) (.k (.c (.d (.int .i64 11)))), none⟩])
  (.seq (.cond (.t 14) (.skip)
   (.exit 0))
  (.seq (.block 1 (.seq (.reg [⟨(some 15), .idxArr 16 11 (.ag 16) (.t 12) (.t 13), none⟩,
     ⟨(some 6), .allocArr [(.int .u8 0), (.int .u8 0), (.int .u8 0), (.int .u8 0), (.int .u8 0), (.int .u8 0), (.int .u8 0), (.int .u8 0), (.int .u8 0), (.int .u8 0), (.int .u8 0), (.int .u8 0), (.int .u8 0), (.int .u8 0), (.int .u8 0), (.int .u8 0)], none⟩,
     ⟨none, .store (.ag 16) (.t 6) (.t 15), none⟩])
   (.reg [⟨(some 16), .mv (.t 4), none⟩,
     ⟨(some 17), .sliceArr 1 16 (.t 6) none none, none⟩,
     ⟨(some 18), .bldFz 1 1 (.sl []) [(0, (.t 17))], none⟩,
     ⟨(some 19), .call 29 [(.t 18)] none, none⟩,
     ⟨(some 20), .bldSl false 1 1 (.sl []) [(0, (.t 19))], none⟩,
     ⟨(some 21), .app false 1 24 (.t 16) (.t 20), none⟩,
     ⟨(some 4), .mv (.t 21), none⟩])))
  (.reg [⟨(some 22), .bin .add (.t 13) (.k (.c (.d (.int .i64 1)))), none⟩,
    ⟨(some 13), .mv (.t 22), none⟩])))
def sf_keys : SFn := ⟨1, 24,
  .seq (.reg [⟨(some 2), .mv (.k (.c .nil)), none⟩,
    ⟨(some 3), .mv (.k (.c (.d (.int .i64 0)))), none⟩])
  (.seq (.seq (.reg [⟨(some 7), .mv (.t 0), none⟩,
    ⟨(some 8), .len (.t 7), none⟩,
    ⟨(some 9), .bin .neq (.t 8) (.k (.c (.d (.int .i64 16)))), none⟩])
  (.cond (.t 9) (.seq (.reg [⟨(some 2), .mv (.k (.c .nil)), none⟩,
     ⟨(some 3), .mv (.k (.c (.d (.int .i64 5)))), none⟩])
   (.ret))
   (.skip)))
  (.seq (.reg [⟨(some 10), .make 1 24 (.sl []) (.k (.c (.d (.int .i64 0)))) (.k (.c (.d (.int .i64 11)))), none⟩,
    ⟨(some 4), .mv (.t 10), none⟩])
  (.seq (.seq (.reg [⟨(some 11), .mv (.t 0), none⟩,
    ⟨(some 12), .call 28 [(.t 11)] none, none⟩,
    ⟨(some 13), .mv (.k (.c (.d (.int .i64 0)))), none⟩])
  (.block 0 (.loop lp_keys_0)))
  (.seq (.reg [⟨(some 23), .mv (.t 4), none⟩,
    ⟨(some 2), .mv (.t 23), none⟩,
    ⟨(some 3), .mv (.k (.c (.d (.int .i64 0)))), none⟩])
  (.ret))))),
  [(2, none), (3, none)]⟩
theorem cf_keys : compFn Try.prog { own := [], comp := [], frz := [18], nils := [] } Try.f9 = some sf_keys := by kernel_rfl
set_option maxHeartbeats 1600000 in
theorem keys_c (G : Glob) (key : List UInt8) (hk : key.length ≤ 9223372036854775807) : Den Try.prog G 9 [.sl (key.map bD)] (.tup [.c (.d (.sl ((keyV key).map slB))), .c (.d (.int .i64 (keyE key)))]) := by
  refine den_walk Try.func9 cf_keys rfl rfl ?_
  unfold keyV keyE
  by_cases h : key.length = 16
  · rw [if_pos h, if_neg (by simp [h])]
    simp only [sf_keys, putAll, wx, wy, wz, stV, seval, IntWalk.iteOmega, IntWalk.toNatUp, reduceCtorEq, h]
    refine st_call (expd_c G key h) rfl (.inl rfl) ?_
    simp only [wx, wy, wz, stV, seval, IntWalk.iteOmega, IntWalk.toNatUp, reduceCtorEq]
    refine loop_st (keySt key) (fun i => 11 - i) (fun i => i ≤ 11) 0 (Nat.zero_le _) ?_ ?_
    · refine ent_l (fun i => 80) ?_ ?_ rfl rfl <;> simp only [wx, wex, wez, stV, seval, IntWalk.iteOmega, IntWalk.toNatUp, reduceCtorEq] <;> rfl
    · intro i hi
      have hr := rkK_len h
      by_cases hlt : i < 11
      · have g1 := kb_part h (r := i) (by omega)
        rw [Nat.mul_comm] at g1
        have hl := kb_len h i
        have ht : (kb key i).take 16 = kb key i := List.take_of_length_le (by omega)
        have hj := join_c G [kb key i] (by simp) (by simp; omega)
        have hf : [kb key i].flatten = kb key i := by simp
        rw [hf] at hj
        have hn := kbs_len key i
        have ha : (kbs key i).map slB ++ [D.sl ((kb key i).map bD)] = (kbs key (i + 1)).map slB := kbs_app key i
        have hn1 := kbs_len key (i + 1)
        simp only [lp_keys_0, keySt, wx, wy, wz, stV, seval, IntWalk.iteOmega, IntWalk.toNatUp, reduceCtorEq, map_C, len_map, hr, drop_map, take_map, g1, allD_bs, z16, hl, ht, repL_len]
        refine st_call (hj) rfl (.inl rfl) ?_
        simp only [hn, len_map, srcV, ha, hn1, wx, wy, wz, stV, seval, IntWalk.iteOmega, IntWalk.toNatUp, reduceCtorEq]
        refine lop_next (i + 1) (by omega) (by omega) (ent_l (fun i => 168) ?_ ?_ rfl rfl) <;> simp only [wx, wex, wez, stV, seval, IntWalk.iteOmega, IntWalk.toNatUp, reduceCtorEq]
      · obtain rfl : i = 11 := by omega
        have hn := kbs_len key 11
        have ht : (kbs key 11).take 11 = kbs key 11 := List.take_of_length_le (by omega)
        simp only [lp_keys_0, keySt, wx, wy, wz, stV, seval, IntWalk.iteOmega, IntWalk.toNatUp, reduceCtorEq]
        exact ret_d2 (by simp only [wx, wy, wz, stV, seval, IntWalk.iteOmega, IntWalk.toNatUp, reduceCtorEq, len_map, hn, take_map, ht]) (by simp only [wx, wy, wz, stV, seval, IntWalk.iteOmega, IntWalk.toNatUp, reduceCtorEq])
  · rw [if_neg h, if_pos h]
    simp only [sf_keys, putAll, wx, wy, wz, stV, seval, IntWalk.iteOmega, IntWalk.toNatUp, reduceCtorEq]
    exact ret_d2 (by simp only [wx, wy, wz, stV, seval, IntWalk.iteOmega, IntWalk.toNatUp, reduceCtorEq]) (by simp only [wx, wy, wz, stV, seval, IntWalk.iteOmega, IntWalk.toNatUp, reduceCtorEq])
theorem mac_part {key : List UInt8} (h : key.length = 16) {n : Nat} (hn : n ≤ 10) : ((macM4 key).drop (16 * n)).take 16 = kb key n := by
  have hr := rkK_len h
  rw [← kb_part h hn]
  unfold macM4 mB
  rw [List.append_assoc, List.drop_append_of_le_length (by omega), List.take_append_of_le_length (by rw [List.length_drop]; omega)]
def rkySt (key : List UInt8) : Nat → St
  | 0 => ⟨ofL [(4, .w (.c (.ptr 2 1 0 0))), (5, .w (.c .nil)), (6, .w (.c (.d (.int .i64 0))))], hL [(2, .box ((macM4 key).map bC))], uL [2]⟩
  | n + 1 => ⟨ofL [(4, .w (.c (.ptr 2 1 0 0))), (5, .w (.c (.own 1 1 0 (n + 1)))), (6, .w (.c (.d (.int .i64 ((16 * (n + 1) : Nat) : Int)))))], hL [(1, .row 1 ((kbs key (n + 1)).map slB)), (2, .box ((macM4 key).map bC))], uL [1, 2]⟩
def lp_rkeys_0 : SCode :=
  .seq (.seq (.reg [⟨(some 12), .mv (.t 6), none⟩,
    ⟨(some 13), .bin .lss (.t 12) (.k (.c (.d (.int .i64 176)))), none⟩])
  (.cond (.t 13) (.skip)
   (.exit 0)))
  (.seq (.block 1 (.reg [⟨(some 16), .mv (.t 5), none⟩,
     ⟨(some 17), .bldSl false 0 1 (.int .u8 0) [], none⟩,
     ⟨(some 18), .fieldAddr 0 (.t 4), none⟩,
     ⟨(some 19), .mv (.t 6), none⟩,
     ⟨(some 20), .mv (.t 6), none⟩,
     ⟨(some 21), .bin .add (.t 20) (.k (.c (.d (.int .i64 16)))), none⟩,
     ⟨(some 22), .sliceArr 1 176 (.t 18) (some (.t 19)) (some (.t 21)), none⟩,
     ⟨(some 23), .appN false 1 1 (.t 17) (.t 22), none⟩,
     ⟨(some 24), .bldFz 1 1 (.sl []) [(0, (.t 23))], none⟩,
     ⟨(some 25), .app false 1 24 (.t 16) (.t 24), none⟩,
     ⟨(some 5), .mv (.t 25), none⟩]))
  (.reg [⟨(some 14), .mv (.t 6), none⟩,
    ⟨(some 15), .bin .add (.t 14) (.k (.c (.d (.int .i64 16)))), none⟩,
    ⟨(some 6), .mv (.t 15), none⟩]))
def sf_rkeys : SFn := ⟨1, 27,
  .seq (.reg [⟨(some 2), .mv (.k (.c .nil)), none⟩,
    ⟨(some 3), .mv (.k (.c (.d (.int .i64 0)))), none⟩])
  (.seq (.seq (.reg [⟨(some 7), .mv (.t 0), none⟩,
    ⟨(some 8), .len (.t 7), none⟩,
    ⟨(some 9), .bin .neq (.t 8) (.k (.c (.d (.int .i64 16)))), none⟩])
  (.cond (.t 9) (.seq (.reg [⟨(some 2), .mv (.k (.c .nil)), none⟩,
     ⟨(some 3), .mv (.k (.c (.d (.int .i64 5)))), none⟩])
   (.ret))
   (.skip)))
  (.seq (.reg [⟨(some 10), .mv (.t 0), none⟩,
    ⟨(some 11), .call 30 [(.t 10)] none, none⟩,
    ⟨(some 4), .alloc (repL 688 (.d (.int .u8 0))), none⟩,
    ⟨none, .store (.ag 688) (.t 4) (.t 11), none⟩])
  (.seq (.reg [⟨(some 5), .mv (.k (.c .nil)), none⟩])
  (.seq (.seq (.reg [⟨(some 6), .mv (.k (.c (.d (.int .i64 0)))), none⟩])
  (.block 0 (.loop lp_rkeys_0)))
  (.seq (.reg [⟨(some 26), .mv (.t 5), none⟩,
    ⟨(some 2), .mv (.t 26), none⟩,
    ⟨(some 3), .mv (.k (.c (.d (.int .i64 0)))), none⟩])
  (.ret)))))),
  [(2, none), (3, none)]⟩
theorem cf_rkeys : compFn Try.prog { own := [], comp := [], frz := [24], nils := [23] } Try.f10 = some sf_rkeys := by kernel_rfl
set_option maxRecDepth 20000 in
set_option maxHeartbeats 1600000 in
theorem rkeys_c (G : Glob) (key : List UInt8) (hk : key.length ≤ 9223372036854775807) : Den Try.prog G 10 [.sl (key.map bD)] (.tup [.c (.d (.sl ((keyV key).map slB))), .c (.d (.int .i64 (keyE key)))]) := by
  refine den_walk Try.func10 cf_rkeys rfl rfl ?_
  unfold keyV keyE
  by_cases h : key.length = 16
  · have hM := macM4_len h
    have r4 : List.drop 688 (repL 688 (0 : UInt8)) = [] := List.drop_eq_nil_of_le (by rw [repL_len]; omega)
    have q1 : macM4 key ++ List.drop (macM4 key).length (repL 688 (0 : UInt8)) = macM4 key := by rw [hM, r4, List.append_nil]
    rw [if_pos h, if_neg (by simp [h])]
    simp only [sf_rkeys, putAll, wx, wy, wz, stV, seval, IntWalk.iteOmega, IntWalk.toNatUp, reduceCtorEq, h, repL_bC]
    refine st_call (prep_c G key h) rfl (.inl rfl) ?_
    simp only [len_map, hM, repL_len, map_C, drop_map, app_map, r4, List.append_nil, wx, wy, wz, stV, seval, IntWalk.iteOmega, IntWalk.toNatUp, reduceCtorEq]
    refine loop_st (rkySt key) (fun i => 11 - i) (fun i => i ≤ 11) 0 (Nat.zero_le _) ?_ ?_
    · refine ent_l (fun i => 32) ?_ ?_ rfl (by simp [V.ids, W.ids, C.ids, Ob.ids, ids_bC]) <;> simp only [wx, wex, wez, stV, seval, IntWalk.iteOmega, IntWalk.toNatUp, reduceCtorEq, ren_bC, ids_bC]
    · intro n hn
      by_cases hlt : n < 11
      · have g1 := mac_part h (n := n) (by omega)
        have hl := kb_len h n
        have hn0 := kbs_len key n
        have hn1 := kbs_len key (n + 1)
        have ha : (kbs key n).map slB ++ [D.sl ((kb key n).map bD)] = (kbs key (n + 1)).map slB := kbs_app key n
        have e2 : 16 * n + 16 - 16 * n = 16 := by omega
        have ht : (kb key n).take 16 = kb key n := List.take_of_length_le (by omega)
        rcases n with _ | n
        · simp only [Nat.mul_zero, List.drop_zero, Nat.zero_add, List.map_nil, kbs, List.range_zero, List.nil_append] at g1 e2 ha hn1
          simp only [lp_rkeys_0, rkySt, wx, wy, wz, stV, seval, IntWalk.iteOmega, IntWalk.toNatUp, reduceCtorEq, srcV, drop_map, take_map, allD_bs, g1, ht, hl, len_map, hM, Nat.sub_zero]
          refine lop_next (0 + 1) (by omega) (by omega) (ent_l (fun i => if i = 1 then 200 else i) ?_ ?_ rfl (by simp [V.ids, W.ids, C.ids, Ob.ids, ids_bC])) <;> simp only [wx, wex, wez, stV, seval, IntWalk.iteOmega, IntWalk.toNatUp, reduceCtorEq, ren_bC, ids_bC]
          rfl
        · simp only [lp_rkeys_0, rkySt, wx, wy, wz, stV, seval, IntWalk.iteOmega, IntWalk.toNatUp, reduceCtorEq, srcV, drop_map, take_map, allD_bs, g1, ht, hl, len_map, hM, hn0, hn1, e2, ha]
          refine lop_next (n + 1 + 1) (by omega) (by omega) (ent_l (fun i => if i = 1 then 200 else i) ?_ ?_ rfl (by simp [V.ids, W.ids, C.ids, Ob.ids, ids_bC])) <;> simp only [wx, wex, wez, stV, seval, IntWalk.iteOmega, IntWalk.toNatUp, reduceCtorEq, ren_bC, ids_bC]
          rw [show (16 * ((n : Int) + 1) + 16) = 16 * ((n : Int) + 1 + 1) by omega]
      · obtain rfl : n = 11 := by omega
        have hn := kbs_len key 11
        have ht : (kbs key 11).take 11 = kbs key 11 := List.take_of_length_le (by omega)
        simp only [lp_rkeys_0, rkySt, wx, wy, wz, stV, seval, IntWalk.iteOmega, IntWalk.toNatUp, reduceCtorEq]
        exact ret_d2 (by simp only [wx, wy, wz, stV, seval, IntWalk.iteOmega, IntWalk.toNatUp, reduceCtorEq, len_map, hn, take_map, ht]) (by simp only [wx, wy, wz, stV, seval, IntWalk.iteOmega, IntWalk.toNatUp, reduceCtorEq])
  · rw [if_neg h, if_pos h]
    simp only [sf_rkeys, putAll, wx, wy, wz, stV, seval, IntWalk.iteOmega, IntWalk.toNatUp, reduceCtorEq]
    exact ret_d2 (by simp only [wx, wy, wz, stV, seval, IntWalk.iteOmega, IntWalk.toNatUp, reduceCtorEq]) (by simp only [wx, wy, wz, stV, seval, IntWalk.iteOmega, IntWalk.toNatUp, reduceCtorEq])
end Go.Proofs.Ytopnilojhpddiaa
