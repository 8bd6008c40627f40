/- Texts of one's own, merged: from: Layer 4 on data: counters, keys, blocks, in both codes. Own work. -/
import Derived.Test.YtipjekggnanffaaMg9
import Derived.Test.YtipjekggnanffaaMg6
set_option linter.unusedVariables false
set_option linter.unusedSimpArgs false
namespace Go.Proofs.Ytipjekggnanffaa
open Go.RowKit

/-! ### The next counter -/
theorem incL_app : ∀ a b : List UInt8, incL (a ++ b) = if (incL b).2 then ((incL a).1 ++ (incL b).1, (incL a).2) else (a ++ (incL b).1, false)
  | [], b => by
    show incL b = if (incL b).2 then ([] ++ (incL b).1, true) else ([] ++ (incL b).1, false)
    rcases incL b with ⟨s, _ | _⟩ <;> rfl
  | x :: a, b => by
    have ih := incL_app a b
    simp only [List.cons_append, incL, ih]
    cases h : (incL b).2
    · simp
    · simp only [if_true]
      cases h2 : (incL a).2 <;> simp
/-- The last j bytes are counted up; the counter carries over. -/
def carry (c : List UInt8) (m : Nat) : Prop := (incL (c.drop m)).2 = true
def cntL (c : List UInt8) (m : Nat) : List UInt8 := c.take m ++ (incL (c.drop m)).1
theorem cntL_len (c : List UInt8) (m : Nat) : (cntL c m).length = c.length := by
  unfold cntL; rw [List.length_append, incL_len, ← List.length_append, List.take_append_drop]
theorem cntL_start (c : List UInt8) : cntL c c.length = c := by unfold cntL; simp [incL]
theorem carry_start (c : List UInt8) : carry c c.length := by unfold carry; simp [incL]
theorem cntL_zero (c : List UInt8) : cntL c 0 = nextC c := by unfold cntL nextC; simp
theorem cnt_get {c : List UInt8} {m : Nat} (h : m < c.length) : (cntL c (m + 1))[m]? = some (c.getD m 0) := by
  unfold cntL
  rw [List.getElem?_append_left (by rw [List.length_take]; omega), List.getElem?_take, if_pos (by omega)]
  exact get_lt h
theorem drop_cons {c : List UInt8} {m : Nat} (h : m < c.length) : c.drop m = c.getD m 0 :: c.drop (m + 1) := by
  rw [List.drop_eq_getElem_cons h, List.getD_eq_getElem?_getD, List.getElem?_eq_getElem h]; rfl
theorem cnt_set {c : List UInt8} {m : Nat} (h : m < c.length) (hc : carry c (m + 1)) : (cntL c (m + 1)).set m (c.getD m 0 + 1) = cntL c m := by
  have e : (incL (c.drop m)).1 = (c.getD m 0 + 1) :: (incL (c.drop (m + 1))).1 := by
    rw [drop_cons h]
    unfold carry at hc
    simp only [incL, hc, if_true]
  have e2 : c.take (m + 1) = c.take m ++ [c.getD m 0] := by
    rw [List.take_add_one, get_lt h]; rfl
  unfold cntL
  rw [e, e2, List.append_assoc, List.set_append_right _ _ (by rw [List.length_take]; omega), List.length_take, show m - min m c.length = 0 by omega]
  rfl
theorem carry_step {c : List UInt8} {m : Nat} (h : m < c.length) (hc : carry c (m + 1)) : (incL (c.drop m)).2 = (c.getD m 0 + 1 == 0) := by
  rw [drop_cons h]
  unfold carry at hc
  simp only [incL, hc, if_true]
theorem cnt_end {c : List UInt8} {m : Nat} (h : (incL (c.drop m)).2 = false) : cntL c m = nextC c := by
  have := incL_app (c.take m) (c.drop m)
  rw [List.take_append_drop, h] at this
  unfold nextC cntL
  rw [this]; rfl
theorem bl_add (x c : UInt8) (n : Int) (h : n = (c.toNat : Int)) : binV .add (.w (.c (.d (bD x)))) (.w (.c (.d (.int .u8 n)))) = some (bD (x + c)) := by
  subst h
  show binI .add .u8 (x.toNat : Int) .u8 (c.toNat : Int) = _
  rw [binI_add, IntKind.wrap_u8]
  show some (D.int .u8 (((x.toNat : Int) + (c.toNat : Int)) % 256)) = _
  have : ((x.toNat : Int) + (c.toNat : Int)) % 256 = ((x + c).toNat : Int) := by
    rw [UInt8.toNat_add]; simp
  rw [this]; rfl
/-- What Next returns: nothing of bytes of another number. -/
def nexV (c : List UInt8) : List UInt8 := if c.length = 16 then nextC c else []
def nxSt (c : List UInt8) (m : Nat) : St := ⟨ofL [(3, .w (.c (.own 1 1 0 16))), (4, .w (.c (.d (.int .i64 ((m : Int) - 1)))))], hL [(1, .row 1 ((cntL c m).map bD))], uL [1]⟩
def lp_nex_0 : SCode :=
  .seq (.seq (.reg [⟨(some 14), .mv (.t 4), none⟩,
    ⟨(some 15), .bin .geq (.t 14) (.k (.c (.d (.int .i64 0)))), none⟩])
  (.cond (.t 15) (.skip)
   (.exit 0)))
  (.seq (.block 1 (.seq (.reg [⟨(some 18), .mv (.t 3), none⟩,
     ⟨(some 19), .mv (.t 4), none⟩,
     ⟨(some 20), .idxSl 1 (.t 18) (.t 19), none⟩,
     ⟨(some 21), .load .sc (.t 20), none⟩,
     ⟨(some 22), .bin .add (.t 21) (.k (.c (.d (.int .u8 1)))), none⟩,
     ⟨(some 23), .idxSl 1 (.t 18) (.t 19), none⟩,
     ⟨none, .store .sc (.t 23) (.t 22), none⟩])
   (.seq (.reg [⟨(some 24), .mv (.t 3), none⟩,
     ⟨(some 25), .mv (.t 4), none⟩,
     ⟨(some 26), .idxSl 1 (.t 24) (.t 25), none⟩,
     ⟨(some 27), .load .sc (.t 26), none⟩,
     ⟨(some 28), .bin .neq (.t 27) (.k (.c (.d (.int .u8 0)))), none⟩])
   (.cond (.t 28) (.exit 0)
    (.skip)))))
  (.reg [⟨(some 16), .mv (.t 4), none⟩,
    ⟨(some 17), .bin .sub (.t 16) (.k (.c (.d (.int .i64 1)))), none⟩,
    ⟨(some 4), .mv (.t 17), none⟩]))
def sf_nex : SFn := ⟨1, 30,
  .seq (.reg [⟨(some 2), .mv (.k (.c .nil)), none⟩])
  (.seq (.seq (.reg [⟨(some 5), .mv (.t 0), none⟩,
    ⟨(some 6), .len (.t 5), none⟩,
    ⟨(some 7), .bin .neq (.t 6) (.k (.c (.d (.int .i64 16)))), none⟩])
  (.cond (.t 7) (.seq (.reg [⟨(some 2), .mv (.k (.c .nil)), none⟩])
   (.ret))
   (.skip)))
  (.seq (.reg [⟨(some 8), .mv (.t 0), none⟩,
    ⟨(some 9), .bldSl false 1 1 (.sl []) [(0, (.t 8))], none⟩,
    ⟨(some 10), .call 29 [(.t 9)] (some (0, 1)), none⟩,
    ⟨(some 3), .mv (.t 10), none⟩])
  (.seq (.seq (.reg [⟨(some 11), .mv (.t 3), none⟩,
    ⟨(some 12), .len (.t 11), none⟩,
    ⟨(some 13), .bin .sub (.t 12) (.k (.c (.d (.int .i64 1)))), none⟩,
    ⟨(some 4), .mv (.t 13), none⟩])
  (.block 0 (.loop lp_nex_0)))
  (.seq (.reg [⟨(some 29), .mv (.t 3), none⟩,
    ⟨(some 2), .mv (.t 29), none⟩])
  (.ret))))),
  [(2, none)]⟩
theorem cf_nex : compFn Try.prog { own := [10], comp := [], frz := [], nils := [] } Try.f39 = some sf_nex := by kernel_rfl
set_option maxHeartbeats 1600000 in
theorem nex_c (G : Glob) (c : List UInt8) (hc : c.length ≤ 140737488355328) : Den Try.prog G 39 [.sl (c.map bD)] (.w (.c (.fr 1 ((nexV c).map bD)))) := by
  refine den_walk Try.func39 cf_nex rfl rfl ?_
  unfold nexV
  by_cases h : c.length = 16
  · rw [if_pos h]
    have hj := join_c G [c] (by simp) (by simp; omega)
    have hf : [c].flatten = c := by simp
    rw [hf] at hj
    have hs := cntL_start c
    rw [h] at hs
    simp only [sf_nex, putAll, wx, wy, wz, stV, seval, IntWalk.iteOmega, IntWalk.toNatUp, reduceCtorEq, h]
    refine st_call (hj) rfl (.inl rfl) ?_
    simp only [wx, wy, wz, stV, seval, IntWalk.iteOmega, IntWalk.toNatUp, reduceCtorEq]
    refine loop_st (nxSt c) (fun m => m) (fun m => m ≤ 16 ∧ carry c m) 16 ⟨Nat.le_refl _, by have := carry_start c; rwa [h] at this⟩ ?_ ?_
    · refine ent_l (fun i => 80) ?_ ?_ rfl rfl <;> simp only [wx, wex, wez, stV, seval, IntWalk.iteOmega, IntWalk.toNatUp, reduceCtorEq, hs, h] <;> rfl
    · rintro m ⟨hm, hcar⟩
      rcases m with _ | q
      · have e0 := cntL_zero c
        have hl : (nextC c).length = 16 := by rw [nextC_len]; exact h
        simp only [lp_nex_0, nxSt, e0, Int.natCast_zero, Int.zero_sub, wx, wy, wz, stV, seval, IntWalk.iteOmega, IntWalk.toNatUp, reduceCtorEq]
        exact ret_own (id := 1) (n := 16) (s := 1) (by simp only [wx, stV, seval, IntWalk.iteOmega, IntWalk.toNatUp, reduceCtorEq]) (by simp only [wx, stV, seval, IntWalk.iteOmega, IntWalk.toNatUp, reduceCtorEq]) (by simp [hl])
      · have hq : q < c.length := by omega
        have hl1 : (cntL c (q + 1)).length = 16 := by rw [cntL_len]; exact h
        have hl0 : (cntL c q).length = 16 := by rw [cntL_len]; exact h
        have g1 := cnt_get hq
        have h3 : q < (cntL c (q + 1)).length := by omega
        have h5 := cnt_set hq hcar
        have g2 : (cntL c q)[q]? = some (c.getD q 0 + 1) := by
          rw [← h5, List.getElem?_set_self (by omega)]
        have x1 := bl_add (c.getD q 0) 1 1 rfl
        have x2 := bl_neq (c.getD q 0 + 1) 0 0 rfl
        have hcs := carry_step hq hcar
        have sub : ((q : Int) + 1 - 1) = (q : Int) := by omega
        by_cases hz : c.getD q 0 + 1 = 0
        · have hz2 : (c.getD q 0 + 1 != 0) = false := by rw [hz]; rfl
          rw [hz2] at x2
          have hcar2 : carry c q := by unfold carry; rw [hcs, hz]; rfl
          simp only [lp_nex_0, nxSt, wx, wy, wz, stV, seval, IntWalk.iteOmega, IntWalk.toNatUp, reduceCtorEq, sub, get_map, g1, x1, stO_bs h3 (one_b _), set_bs, h5, g2, x2, hl1, hl0]
          refine lop_next q (by omega) ⟨by omega, hcar2⟩ (ent_l (fun i => i) ?_ ?_ rfl rfl) <;> simp only [wx, wex, wez, stV, seval, IntWalk.iteOmega, IntWalk.toNatUp, reduceCtorEq]
        · have hz2 : (c.getD q 0 + 1 != 0) = true := bne_iff_ne.2 hz
          rw [hz2] at x2
          have e0 : cntL c q = nextC c := cnt_end (by rw [hcs]; exact beq_eq_false_iff_ne.2 hz)
          rw [e0] at hl0 g2 h5
          simp only [lp_nex_0, nxSt, wx, wy, wz, stV, seval, IntWalk.iteOmega, IntWalk.toNatUp, reduceCtorEq, sub, get_map, g1, x1, stO_bs h3 (one_b _), set_bs, h5, g2, x2, hl1, e0]
          exact ret_own (id := 1) (n := 16) (s := 1) (by simp only [wx, stV, seval, IntWalk.iteOmega, IntWalk.toNatUp, reduceCtorEq]) (by simp only [wx, stV, seval, IntWalk.iteOmega, IntWalk.toNatUp, reduceCtorEq]) (by simp [hl0])
  · rw [if_neg h]
    simp only [sf_nex, putAll, wx, wy, wz, stV, seval, IntWalk.iteOmega, IntWalk.toNatUp, reduceCtorEq]
    exact ret_f1 (by simp only [wx, wy, wz, stV, seval, IntWalk.iteOmega, IntWalk.toNatUp, reduceCtorEq])
def lp_rnex_0 : SCode :=
  .seq (.seq (.reg [⟨(some 11), .mv (.t 4), none⟩,
    ⟨(some 12), .bin .geq (.t 11) (.k (.c (.d (.int .i64 0)))), none⟩])
  (.cond (.t 12) (.skip)
   (.exit 0)))
  (.seq (.block 1 (.seq (.reg [⟨(some 15), .mv (.t 3), none⟩,
     ⟨(some 16), .mv (.t 4), none⟩,
     ⟨(some 17), .idxSl 1 (.t 15) (.t 16), none⟩,
     ⟨(some 18), .load .sc (.t 17), none⟩,
     ⟨(some 19), .bin .add (.t 18) (.k (.c (.d (.int .u8 1)))), none⟩,
     ⟨(some 20), .idxSl 1 (.t 15) (.t 16), none⟩,
     ⟨none, .store .sc (.t 20) (.t 19), none⟩])
   (.seq (.reg [⟨(some 21), .mv (.t 3), none⟩,
     ⟨(some 22), .mv (.t 4), none⟩,
     ⟨(some 23), .idxSl 1 (.t 21) (.t 22), none⟩,
     ⟨(some 24), .load .sc (.t 23), none⟩,
     ⟨(some 25), .bin .neq (.t 24) (.k (.c (.d (.int .u8 0)))), none⟩])
   (.cond (.t 25) (.exit 0)
    (.skip)))))
  (.reg [⟨(some 13), .mv (.t 4), none⟩,
    ⟨(some 14), .bin .sub (.t 13) (.k (.c (.d (.int .i64 1)))), none⟩,
    ⟨(some 4), .mv (.t 14), none⟩]))
def sf_rnex : SFn := ⟨1, 27,
  .seq (.reg [⟨(some 2), .mv (.k (.c .nil)), none⟩])
  (.seq (.seq (.reg [⟨(some 5), .mv (.t 0), none⟩,
    ⟨(some 6), .len (.t 5), none⟩,
    ⟨(some 7), .bin .neq (.t 6) (.k (.c (.d (.int .i64 16)))), none⟩])
  (.cond (.t 7) (.seq (.reg [⟨(some 2), .mv (.k (.c .nil)), none⟩])
   (.ret))
   (.skip)))
  (.seq (.reg [⟨(some 8), .mv (.t 0), none⟩,
    ⟨(some 9), .bldSl false 1 1 (.sl []) [(0, (.t 8))], none⟩,
    ⟨(some 10), .call 19 [(.t 9)] (some (0, 1)), none⟩,
    ⟨(some 3), .mv (.t 10), none⟩])
  (.seq (.seq (.reg [⟨(some 4), .mv (.k (.c (.d (.int .i64 15)))), none⟩])
  (.block 0 (.loop lp_rnex_0)))
  (.seq (.reg [⟨(some 26), .mv (.t 3), none⟩,
    ⟨(some 2), .mv (.t 26), none⟩])
  (.ret))))),
  [(2, none)]⟩
theorem cf_rnex : compFn Try.prog { own := [10], comp := [], frz := [], nils := [] } Try.f53 = some sf_rnex := by kernel_rfl
set_option maxHeartbeats 1600000 in
theorem rnex_c (G : Glob) (c : List UInt8) (hc : c.length ≤ 140737488355328) : Den Try.prog G 53 [.sl (c.map bD)] (.w (.c (.fr 1 ((nexV c).map bD)))) := by
  refine den_walk Try.func53 cf_rnex rfl rfl ?_
  unfold nexV
  by_cases h : c.length = 16
  · rw [if_pos h]
    have hj := rjoin_c G [c] (by simp) (by simp; omega)
    have hf : [c].flatten = c := by simp
    rw [hf] at hj
    have hs := cntL_start c
    rw [h] at hs
    simp only [sf_rnex, putAll, wx, wy, wz, stV, seval, IntWalk.iteOmega, IntWalk.toNatUp, reduceCtorEq, h]
    refine st_call (hj) rfl (.inl rfl) ?_
    simp only [wx, wy, wz, stV, seval, IntWalk.iteOmega, IntWalk.toNatUp, reduceCtorEq]
    refine loop_st (nxSt c) (fun m => m) (fun m => m ≤ 16 ∧ carry c m) 16 ⟨Nat.le_refl _, by have := carry_start c; rwa [h] at this⟩ ?_ ?_
    · refine ent_l (fun i => 80) ?_ ?_ rfl rfl <;> simp only [wx, wex, wez, stV, seval, IntWalk.iteOmega, IntWalk.toNatUp, reduceCtorEq, hs, h] <;> rfl
    · rintro m ⟨hm, hcar⟩
      rcases m with _ | q
      · have e0 := cntL_zero c
        have hl : (nextC c).length = 16 := by rw [nextC_len]; exact h
        simp only [lp_rnex_0, nxSt, e0, Int.natCast_zero, Int.zero_sub, wx, wy, wz, stV, seval, IntWalk.iteOmega, IntWalk.toNatUp, reduceCtorEq]
        exact ret_own (id := 1) (n := 16) (s := 1) (by simp only [wx, stV, seval, IntWalk.iteOmega, IntWalk.toNatUp, reduceCtorEq]) (by simp only [wx, stV, seval, IntWalk.iteOmega, IntWalk.toNatUp, reduceCtorEq]) (by simp [hl])
      · have hq : q < c.length := by omega
        have hl1 : (cntL c (q + 1)).length = 16 := by rw [cntL_len]; exact h
        have hl0 : (cntL c q).length = 16 := by rw [cntL_len]; exact h
        have g1 := cnt_get hq
        have h3 : q < (cntL c (q + 1)).length := by omega
        have h5 := cnt_set hq hcar
        have g2 : (cntL c q)[q]? = some (c.getD q 0 + 1) := by
          rw [← h5, List.getElem?_set_self (by omega)]
        have x1 := bl_add (c.getD q 0) 1 1 rfl
        have x2 := bl_neq (c.getD q 0 + 1) 0 0 rfl
        have hcs := carry_step hq hcar
        have sub : ((q : Int) + 1 - 1) = (q : Int) := by omega
        by_cases hz : c.getD q 0 + 1 = 0
        · have hz2 : (c.getD q 0 + 1 != 0) = false := by rw [hz]; rfl
          rw [hz2] at x2
          have hcar2 : carry c q := by unfold carry; rw [hcs, hz]; rfl
          simp only [lp_rnex_0, nxSt, wx, wy, wz, stV, seval, IntWalk.iteOmega, IntWalk.toNatUp, reduceCtorEq, sub, get_map, g1, x1, stO_bs h3 (one_b _), set_bs, h5, g2, x2, hl1, hl0]
          refine lop_next q (by omega) ⟨by omega, hcar2⟩ (ent_l (fun i => i) ?_ ?_ rfl rfl) <;> simp only [wx, wex, wez, stV, seval, IntWalk.iteOmega, IntWalk.toNatUp, reduceCtorEq]
        · have hz2 : (c.getD q 0 + 1 != 0) = true := bne_iff_ne.2 hz
          rw [hz2] at x2
          have e0 : cntL c q = nextC c := cnt_end (by rw [hcs]; exact beq_eq_false_iff_ne.2 hz)
          rw [e0] at hl0 g2 h5
          simp only [lp_rnex_0, nxSt, wx, wy, wz, stV, seval, IntWalk.iteOmega, IntWalk.toNatUp, reduceCtorEq, sub, get_map, g1, x1, stO_bs h3 (one_b _), set_bs, h5, g2, x2, hl1, e0]
          exact ret_own (id := 1) (n := 16) (s := 1) (by simp only [wx, stV, seval, IntWalk.iteOmega, IntWalk.toNatUp, reduceCtorEq]) (by simp only [wx, stV, seval, IntWalk.iteOmega, IntWalk.toNatUp, reduceCtorEq]) (by simp [hl0])
  · rw [if_neg h]
    simp only [sf_rnex, putAll, wx, wy, wz, stV, seval, IntWalk.iteOmega, IntWalk.toNatUp, reduceCtorEq]
    exact ret_f1 (by simp only [wx, wy, wz, stV, seval, IntWalk.iteOmega, IntWalk.toNatUp, reduceCtorEq])
/-! ### Block -/
/-- The error's number of Block (and of Stream, of a short message). -/
def blkE (key b : List UInt8) : Int := if key.length ≠ 16 then 5 else if b.length ≠ 16 then 3 else 0
def blkV (key b : List UInt8) : List UInt8 := if key.length = 16 ∧ b.length = 16 then blockC key b else []
def sf_blk : SFn := ⟨2, 18,
  .seq (.reg [⟨(some 4), .mv (.k (.c .nil)), none⟩,
    ⟨(some 5), .mv (.k (.c (.d (.int .i64 0)))), none⟩])
  (.seq (.seq (.reg [⟨(some 7), .mv (.t 0), none⟩,
    ⟨(some 8), .len (.t 7), none⟩,
    ⟨(some 9), .bin .neq (.t 8) (.k (.c (.d (.int .i64 16)))), none⟩])
  (.cond (.t 9) (.seq (.reg [⟨(some 4), .mv (.k (.c .nil)), none⟩,
     ⟨(some 5), .mv (.k (.c (.d (.int .i64 5)))), none⟩])
   (.ret))
   (.skip)))
  (.seq (.seq (.reg [⟨(some 10), .mv (.t 1), none⟩,
    ⟨(some 11), .len (.t 10), none⟩,
    ⟨(some 12), .bin .neq (.t 11) (.k (.c (.d (.int .i64 16)))), none⟩])
  (.cond (.t 12) (.seq (.reg [⟨(some 4), .mv (.k (.c .nil)), none⟩,
     ⟨(some 5), .mv (.k (.c (.d (.int .i64 3)))), none⟩])
   (.ret))
   (.skip)))
  (.seq (.reg [⟨(some 13), .mv (.t 0), none⟩,
    ⟨(some 14), .call 36 [(.t 13)] none, none⟩,
    ⟨(some 15), .mv (.t 1), none⟩,
    ⟨(some 16), .call 38 [(.t 14), (.t 15)] none, none⟩,
    ⟨(some 6), .allocArr [(.int .u8 0), (.int .u8 0), (.int .u8 0), (.int .u8 0), (.int .u8 0), (.int .u8 0), (.int .u8 0), (.int .u8 0), (.int .u8 0), (.int .u8 0), (.int .u8 0), (.int .u8 0), (.int .u8 0), (.int .u8 0), (.int .u8 0), (.int .u8 0)], none⟩,
    ⟨none, .store (.ag 16) (.t 6) (.t 16), none⟩])
  (.seq (.reg [⟨(some 17), .sliceArr 1 16 (.t 6) none none, none⟩,
    ⟨(some 4), .mv (.t 17), none⟩,
    ⟨(some 5), .mv (.k (.c (.d (.int .i64 0)))), none⟩])
  (.ret))))),
  [(4, none), (5, none)]⟩
theorem cf_blk : compFn Try.prog { own := [], comp := [], frz := [], nils := [] } Try.f55 = some sf_blk := by kernel_rfl
set_option maxHeartbeats 1600000 in
theorem blk_f (G : Glob) (key b : List UInt8) (hk : key.length ≤ 9223372036854775807) (hb : b.length ≤ 9223372036854775807) : Den Try.prog G 55 [.sl (key.map bD), .sl (b.map bD)] (.tup [.c (.fr 1 ((blkV key b).map bD)), .c (.d (.int .i64 (blkE key b)))]) := by
  refine den_walk Try.func55 cf_blk rfl rfl ?_
  unfold blkV blkE
  by_cases h : key.length = 16
  · by_cases h2 : b.length = 16
    · have hr := rkK_len h
      have hl : (blockC key b).length = 16 := encK_len _ _
      have ht : (blockC key b).take 16 = blockC key b := List.take_of_length_le (by omega)
      rw [if_pos ⟨h, h2⟩, if_neg (by simp [h]), if_neg (by simp [h2])]
      simp only [sf_blk, putAll, wx, wy, wz, stV, seval, IntWalk.iteOmega, IntWalk.toNatUp, reduceCtorEq, h, h2, z16]
      refine st_call (expd_c G key h) rfl (.inl rfl) ?_
      simp only [wx, wy, wz, stV, seval, IntWalk.iteOmega, IntWalk.toNatUp, reduceCtorEq]
      refine st_call (encd_c G (rkK key) b hr h2) rfl (.inl rfl) ?_
      simp only [encK_len, repL_len, hl, wx, wy, wz, stV, seval, IntWalk.iteOmega, IntWalk.toNatUp, reduceCtorEq]
      exact ret_f2 (by simp only [wx, wy, wz, stV, seval, IntWalk.iteOmega, IntWalk.toNatUp, reduceCtorEq, toFr, encK_len, hl, len_map]; rfl) (by simp only [wx, wy, wz, stV, seval, IntWalk.iteOmega, IntWalk.toNatUp, reduceCtorEq])
    · rw [if_neg (fun k => h2 k.2), if_neg (by simp [h]), if_pos h2]
      simp only [sf_blk, putAll, wx, wy, wz, stV, seval, IntWalk.iteOmega, IntWalk.toNatUp, reduceCtorEq, h]
      exact ret_f2 (by simp only [wx, wy, wz, stV, seval, IntWalk.iteOmega, IntWalk.toNatUp, reduceCtorEq]) (by simp only [wx, wy, wz, stV, seval, IntWalk.iteOmega, IntWalk.toNatUp, reduceCtorEq])
  · rw [if_neg (fun k => h k.1), if_pos h]
    simp only [sf_blk, putAll, wx, wy, wz, stV, seval, IntWalk.iteOmega, IntWalk.toNatUp, reduceCtorEq]
    exact ret_f2 (by simp only [wx, wy, wz, stV, seval, IntWalk.iteOmega, IntWalk.toNatUp, reduceCtorEq]) (by simp only [wx, wy, wz, stV, seval, IntWalk.iteOmega, IntWalk.toNatUp, reduceCtorEq])
theorem blk_c (G : Glob) (key b : List UInt8) (hk : key.length ≤ 9223372036854775807) (hb : b.length ≤ 9223372036854775807) : Den Try.prog G 55 [.sl (key.map bD), .sl (b.map bD)] (.tup [.c (.d (.sl ((blkV key b).map bD))), .c (.d (.int .i64 (blkE key b)))]) := den_ro2 (blk_f G key b hk hb)
/-! ### Keys -/
def keyE (key : List UInt8) : Int := if key.length ≠ 16 then 5 else 0
def kbs (key : List UInt8) (i : Nat) : List (List UInt8) := (List.range i).map (kb key)
def keyV (key : List UInt8) : List (List UInt8) := if key.length = 16 then kbs key 11 else []
theorem kbs_len (key : List UInt8) (i : Nat) : (kbs key i).length = i := by unfold kbs; rw [List.length_map, List.length_range]
theorem kbs_step (key : List UInt8) (i : Nat) : kbs key i ++ [kb key i] = kbs key (i + 1) := by unfold kbs; rw [List.range_succ, List.map_append]; rfl
def slB (l : List UInt8) : D := .sl (l.map bD)
theorem slB_f : (fun l : List UInt8 => D.sl (l.map bD)) = slB := rfl
theorem sl_B (l : List UInt8) : D.sl (l.map bD) = slB l := rfl
theorem kbs_app (key : List UInt8) (i : Nat) : (kbs key i).map slB ++ [slB (kb key i)] = (kbs key (i + 1)).map slB := by rw [← kbs_step, List.map_append]; rfl
def keySt (key : List UInt8) (i : Nat) : St := ⟨ofL [(4, .w (.c (.own 1 1 0 i))), (12, .w (.c (.d (.agg ((rkK key).map bD))))), (13, .w (.c (.d (.int .i64 (i : Int)))))], hL [(1, .row 1 ((kbs key i).map slB))], uL [1]⟩
theorem mac_part {key : List UInt8} (h : key.length = 16) {n : Nat} (hn : n ≤ 10) : ((macM4 key).drop (16 * n)).take 16 = kb key n := by
  have hr := rkK_len h
  rw [← kb_part h hn]
  unfold macM4 mB
  rw [List.append_assoc, List.drop_append_of_le_length (by omega), List.take_append_of_le_length (by rw [List.length_drop]; omega)]
def rkySt (key : List UInt8) : Nat → St
  | 0 => ⟨ofL [(4, .w (.c (.ptr 2 1 0 0))), (5, .w (.c .nil)), (6, .w (.c (.d (.int .i64 0))))], hL [(2, .box ((macM4 key).map bC))], uL [2]⟩
  | n + 1 => ⟨ofL [(4, .w (.c (.ptr 2 1 0 0))), (5, .w (.c (.own 1 1 0 (n + 1)))), (6, .w (.c (.d (.int .i64 ((16 * (n + 1) : Nat) : Int)))))], hL [(1, .row 1 ((kbs key (n + 1)).map slB)), (2, .box ((macM4 key).map bC))], uL [1, 2]⟩
end Go.Proofs.Ytipjekggnanffaa
set_option linter.unusedVariables false
set_option linter.unusedSimpArgs false
namespace Go.Proofs.Ytipjekggnanffaa
open Go.RowKit

/-- How many zeros. -/
def padC0 (r n : Nat) : Nat := (n - r % n) % n
def padN (b : List UInt8) (n : Int) : List UInt8 := if 1 ≤ n ∧ n ≤ 64 then b ++ List.replicate (padC0 b.length n.toNat) 0 else b
theorem padN_in (b : List UInt8) {n : Nat} (h : 1 ≤ n ∧ n ≤ 64) : padN b (n : Int) = b ++ List.replicate (padC0 b.length n) 0 := by
  unfold padN; rw [if_pos (by omega), Int.toNat_natCast]
theorem padN_out (b : List UInt8) {n : Int} (h : ¬ (1 ≤ n ∧ n ≤ 64)) : padN b n = b := if_neg h
theorem padC0_lt (r : Nat) {n : Nat} (h : 1 ≤ n) : padC0 r n < n := Nat.mod_lt _ (by omega)
theorem putL_z3 (n : Nat) : putL 0 n = List.replicate n 0 := by
  unfold putL
  simp only [Nat.zero_div]
  induction n with
  | zero => rfl
  | succ n ih => rw [List.range_succ, List.map_append, ih, List.replicate_succ']; rfl
theorem pad_more {r n i : Nat} (hn : 1 ≤ n) (h : i < padC0 r n) : (r + i) % n ≠ 0 := by
  unfold padC0 at h
  have hr : r % n < n := Nat.mod_lt _ (by omega)
  have hm := Nat.mod_le (n - r % n) n
  have hz : r % n ≠ 0 := fun e => by rw [e, Nat.sub_zero, Nat.mod_self] at h; omega
  have e : (r + i) % n = (r % n + i) % n := by rw [Nat.add_mod, Nat.add_mod (r % n) i, Nat.mod_mod]
  rw [e, Nat.mod_eq_of_lt (by omega)]
  omega
theorem pad_done {r n : Nat} (hn : 1 ≤ n) : (r + padC0 r n) % n = 0 := by
  unfold padC0
  have hr : r % n < n := Nat.mod_lt _ (by omega)
  by_cases hz : r % n = 0
  · rw [hz, Nat.sub_zero, Nat.mod_self, Nat.add_zero, hz]
  · rw [Nat.mod_eq_of_lt (show n - r % n < n by omega), Nat.add_mod, Nat.mod_eq_of_lt (show n - r % n < n by omega), Nat.add_sub_cancel' (by omega), Nat.mod_self]
theorem tmodNN (a b : Nat) : Int.tmod (a : Int) (b : Int) = ((a % b : Nat) : Int) := rfl
def sf_pad : SFn := ⟨2, 28,
  .seq (.reg [⟨(some 4), .mv (.k (.c .nil)), none⟩])
  (.seq (.seq (.reg [⟨(some 6), .mv (.t 1), none⟩,
    ⟨(some 7), .bin .lss (.t 6) (.k (.c (.d (.int .i64 1)))), none⟩,
    ⟨(some 8), .mv (.t 7), none⟩,
    ⟨(some 9), .mv (.t 1), (some (8, false))⟩,
    ⟨(some 10), .bin .gtr (.t 9) (.k (.c (.d (.int .i64 64)))), (some (8, false))⟩,
    ⟨(some 11), .pick (.t 8) (.k (.c (.d (.bool true)))) (.t 10), none⟩])
  (.cond (.t 11) (.seq (.reg [⟨(some 12), .mv (.t 0), none⟩,
     ⟨(some 13), .bldSl false 1 1 (.sl []) [(0, (.t 12))], none⟩,
     ⟨(some 14), .call 29 [(.t 13)] (some (0, 1)), none⟩,
     ⟨(some 4), .mv (.t 14), none⟩])
   (.ret))
   (.skip)))
  (.seq (.reg [⟨(some 15), .mv (.t 1), none⟩,
    ⟨(some 16), .mv (.t 0), none⟩,
    ⟨(some 17), .len (.t 16), none⟩,
    ⟨(some 18), .mv (.t 1), none⟩,
    ⟨(some 19), .bin .rem (.t 17) (.t 18), none⟩,
    ⟨(some 20), .bin .sub (.t 15) (.t 19), none⟩,
    ⟨(some 21), .mv (.t 1), none⟩,
    ⟨(some 22), .bin .rem (.t 20) (.t 21), none⟩,
    ⟨(some 5), .mv (.t 22), none⟩])
  (.seq (.reg [⟨(some 23), .mv (.t 0), none⟩,
    ⟨(some 24), .mv (.t 5), none⟩,
    ⟨(some 25), .call 58 [(.k (.c (.d (.int .u64 0)))), (.t 24)] none, none⟩,
    ⟨(some 26), .bldSl false 2 1 (.sl []) [(0, (.t 23)), (1, (.t 25))], none⟩,
    ⟨(some 27), .call 29 [(.t 26)] (some (0, 1)), none⟩,
    ⟨(some 4), .mv (.t 27), none⟩])
  (.ret)))),
  [(4, none)]⟩
theorem cf_pad : compFn Try.prog { own := [14, 27], comp := [], frz := [], nils := [] } Try.f81 = some sf_pad := by kernel_rfl
set_option maxHeartbeats 1600000 in
theorem pad_c (G : Glob) (b : List UInt8) (n : Int) (hb : b.length ≤ 70368744177664) : Den Try.prog G 81 [.sl (b.map bD), .int .i64 n] (.w (.c (.fr 1 ((padN b n).map bD)))) := by
  refine den_walk Try.func81 cf_pad rfl rfl ?_
  by_cases hc : 1 ≤ n ∧ n ≤ 64
  · obtain ⟨m, rfl⟩ := Int.eq_ofNat_of_zero_le (show 0 ≤ n by omega)
    rw [padN_in b (by omega)]
    have hr : b.length % m < m := Nat.mod_lt _ (by omega)
    have hk : padC0 b.length m = (m - b.length % m) % m := rfl
    have hlt := padC0_lt b.length (n := m) (by omega)
    have e1 := tmodNN b.length m
    have e2 : Int.tmod ((m : Int) - ((b.length % m : Nat) : Int)) (m : Int) = ((padC0 b.length m : Nat) : Int) := by
      rw [show (m : Int) - ((b.length % m : Nat) : Int) = ((m - b.length % m : Nat) : Int) by omega, tmodNN, hk]
    have hm : ((m : Int) = 0) = False := eq_false (by omega)
    have hp := put_in G 0 (padC0 b.length m) (by omega)
    have hj := join_c G [b, putL 0 (padC0 b.length m)] (by simp) (by simp [putL_length]; omega)
    have hf : [b, putL 0 (padC0 b.length m)].flatten = b ++ List.replicate (padC0 b.length m) 0 := by rw [putL_z3]; simp
    rw [hf] at hj
    generalize padC0 b.length m = k at *
    simp only [sf_pad, putAll, wx, wy, wz, stV, seval, IntWalk.iteOmega, IntWalk.toNatUp, reduceCtorEq, e1, e2, hm]
    refine st_call (hp) rfl (.inl rfl) ?_
    simp only [wx, wy, wz, stV, seval, IntWalk.iteOmega, IntWalk.toNatUp, reduceCtorEq]
    refine st_call (hj) rfl (.inl rfl) ?_
    simp only [wx, wy, wz, stV, seval, IntWalk.iteOmega, IntWalk.toNatUp, reduceCtorEq]
    exact ret_f1 (by simp only [wx, wy, wz, stV, seval, IntWalk.iteOmega, IntWalk.toNatUp, reduceCtorEq])
  · rw [padN_out b hc]
    have hj := join_c G [b] (by simp) (by simp; omega)
    have hf : [b].flatten = b := by simp
    rw [hf] at hj
    by_cases h1 : n < 1
    · simp only [sf_pad, putAll, wx, wy, wz, stV, seval, IntWalk.iteOmega, IntWalk.toNatUp, reduceCtorEq]
      refine st_call (hj) rfl (.inl rfl) ?_
      simp only [wx, wy, wz, stV, seval, IntWalk.iteOmega, IntWalk.toNatUp, reduceCtorEq]
      exact ret_f1 (by simp only [wx, wy, wz, stV, seval, IntWalk.iteOmega, IntWalk.toNatUp, reduceCtorEq])
    · have h2 : 64 < n := by omega
      simp only [sf_pad, putAll, wx, wy, wz, stV, seval, IntWalk.iteOmega, IntWalk.toNatUp, reduceCtorEq]
      refine st_call (hj) rfl (.inl rfl) ?_
      simp only [wx, wy, wz, stV, seval, IntWalk.iteOmega, IntWalk.toNatUp, reduceCtorEq]
      exact ret_f1 (by simp only [wx, wy, wz, stV, seval, IntWalk.iteOmega, IntWalk.toNatUp, reduceCtorEq])
theorem rep_sn3 (b : List UInt8) (i : Nat) : b ++ List.replicate i 0 ++ [0] = b ++ List.replicate (i + 1) 0 := by rw [List.replicate_succ', List.append_assoc]
def padO (b : List UInt8) (i : Nat) : List UInt8 := b ++ List.replicate i 0
theorem padO_len (b : List UInt8) (i : Nat) : (padO b i).length = b.length + i := by unfold padO; rw [List.length_append, List.length_replicate]
theorem padO_snoc (b : List UInt8) (i : Nat) : (padO b i).map bD ++ [D.int .u8 0] = (padO b (i + 1)).map bD := by unfold padO; rw [← rep_sn3, List.map_append (l₂ := [0])]; rfl
def rpadSt (b : List UInt8) (n : Int) (i : Nat) : St := ⟨ofL [(1, .w (.c (.d (.int .i64 n)))), (5, .w (.c (.own 1 1 0 (padO b i).length)))], hL [(1, .row 1 ((padO b i).map bD))], uL [1]⟩
def lp_rpad_0 : SCode :=
  .seq (.seq (.reg [⟨(some 9), .mv (.t 1), none⟩,
    ⟨(some 10), .bin .geq (.t 9) (.k (.c (.d (.int .i64 1)))), none⟩,
    ⟨(some 11), .mv (.t 10), none⟩,
    ⟨(some 12), .mv (.t 1), (some (11, true))⟩,
    ⟨(some 13), .bin .leq (.t 12) (.k (.c (.d (.int .i64 64)))), (some (11, true))⟩,
    ⟨(some 14), .pick (.t 11) (.t 13) (.k (.c (.d (.bool false)))), none⟩,
    ⟨(some 15), .mv (.t 14), none⟩,
    ⟨(some 16), .mv (.t 5), (some (15, true))⟩,
    ⟨(some 17), .len (.t 16), (some (15, true))⟩,
    ⟨(some 18), .mv (.t 1), (some (15, true))⟩,
    ⟨(some 19), .bin .rem (.t 17) (.t 18), (some (15, true))⟩,
    ⟨(some 20), .bin .neq (.t 19) (.k (.c (.d (.int .i64 0)))), (some (15, true))⟩,
    ⟨(some 21), .pick (.t 15) (.t 20) (.k (.c (.d (.bool false)))), none⟩])
  (.cond (.t 21) (.skip)
   (.exit 0)))
  (.block 1 (.reg [⟨(some 22), .mv (.t 5), none⟩,
     ⟨(some 23), .bldSl false 1 1 (.int .u8 0) [(0, (.k (.c (.d (.int .u8 0)))))], none⟩,
     ⟨(some 24), .app false 1 1 (.t 22) (.t 23), none⟩,
     ⟨(some 5), .mv (.t 24), none⟩]))
def sf_rpad : SFn := ⟨2, 26,
  .seq (.reg [⟨(some 4), .mv (.k (.c .nil)), none⟩])
  (.seq (.reg [⟨(some 6), .mv (.t 0), none⟩,
    ⟨(some 7), .bldSl false 1 1 (.sl []) [(0, (.t 6))], none⟩,
    ⟨(some 8), .call 19 [(.t 7)] (some (0, 1)), none⟩,
    ⟨(some 5), .mv (.t 8), none⟩])
  (.seq (.block 0 (.loop lp_rpad_0))
  (.seq (.reg [⟨(some 25), .mv (.t 5), none⟩,
    ⟨(some 4), .mv (.t 25), none⟩])
  (.ret)))),
  [(4, none)]⟩
theorem cf_rpad : compFn Try.prog { own := [8], comp := [], frz := [], nils := [] } Try.f50 = some sf_rpad := by kernel_rfl
set_option maxHeartbeats 1600000 in
theorem rpad_c (G : Glob) (b : List UInt8) (n : Int) (hb : b.length ≤ 70368744177664) : Den Try.prog G 50 [.sl (b.map bD), .int .i64 n] (.w (.c (.fr 1 ((padN b n).map bD)))) := by
  refine den_walk Try.func50 cf_rpad rfl rfl ?_
  have hj := rjoin_c G [b] (by simp) (by simp; omega)
  have hf : [b].flatten = b := by simp
  rw [hf] at hj
  have h0 : padO b 0 = b := by simp [padO]
  by_cases hc : 1 ≤ n ∧ n ≤ 64
  · obtain ⟨m, rfl⟩ := Int.eq_ofNat_of_zero_le (show 0 ≤ n by omega)
    rw [padN_in b (by omega)]
    have hlt := padC0_lt b.length (n := m) (by omega)
    have hm : ((m : Int) = 0) = False := eq_false (by omega)
    have more : ∀ i, i < padC0 b.length m → (b.length + i) % m ≠ 0 := fun i h => pad_more (by omega) h
    have done : (b.length + padC0 b.length m) % m = 0 := pad_done (by omega)
    simp only [sf_rpad, putAll, wx, wy, wz, stV, seval, IntWalk.iteOmega, IntWalk.toNatUp, reduceCtorEq]
    refine st_call (hj) rfl (.inl rfl) ?_
    simp only [wx, wy, wz, stV, seval, IntWalk.iteOmega, IntWalk.toNatUp, reduceCtorEq]
    refine loop_st (rpadSt b m) (fun i => padC0 b.length m - i) (fun i => i ≤ padC0 b.length m) 0 (Nat.zero_le _) ?_ ?_
    · refine ent_l (fun _ => 64) ?_ ?_ rfl rfl <;> simp only [wx, wex, wez, stV, seval, IntWalk.iteOmega, IntWalk.toNatUp, reduceCtorEq, h0]
    · intro i hi
      have hl := padO_len b i
      have hl1 := padO_len b (i + 1)
      have e1 : Int.tmod ((b.length : Int) + (i : Int)) (m : Int) = (((b.length + i) % m : Nat) : Int) := rfl
      have hs := padO_snoc b i
      by_cases hk : i < padC0 b.length m
      · have hne := more i hk
        generalize (b.length + i) % m = q at *
        simp only [lp_rpad_0, rpadSt, wx, wy, wz, stV, seval, IntWalk.iteOmega, IntWalk.toNatUp, reduceCtorEq, hl, e1, hm, srcV, hs]
        refine lop_next (i + 1) (by omega) (by omega) (ent_l (fun _ => 192) ?_ ?_ rfl rfl) <;> simp only [wx, wex, wez, stV, seval, IntWalk.iteOmega, IntWalk.toNatUp, reduceCtorEq, hl1]
      · have hik : i = padC0 b.length m := by omega
        rw [← hik] at done ⊢
        simp only [done, Int.natCast_zero, Int.cast_ofNat_Int] at e1
        have hd : b ++ List.replicate i 0 = padO b i := rfl
        rw [hd]
        simp only [lp_rpad_0, rpadSt, wx, wy, wz, stV, seval, IntWalk.iteOmega, IntWalk.toNatUp, reduceCtorEq, hl, e1, hm]
        exact ret_own (id := 1) (n := b.length + i) (s := 1) (by simp only [wx, stV, seval, IntWalk.iteOmega, IntWalk.toNatUp, reduceCtorEq]) (by simp only [wx, stV, seval, IntWalk.iteOmega, IntWalk.toNatUp, reduceCtorEq]) (by simp [hl])
  · rw [padN_out b hc]
    simp only [sf_rpad, putAll, wx, wy, wz, stV, seval, IntWalk.iteOmega, IntWalk.toNatUp, reduceCtorEq]
    refine st_call (hj) rfl (.inl rfl) ?_
    simp only [wx, wy, wz, stV, seval, IntWalk.iteOmega, IntWalk.toNatUp, reduceCtorEq]
    refine loop_st (rpadSt b n) (fun i => 0 - i) (fun i => i = 0) 0 rfl ?_ ?_
    · refine ent_l (fun _ => 64) ?_ ?_ rfl rfl <;> simp only [wx, wex, wez, stV, seval, IntWalk.iteOmega, IntWalk.toNatUp, reduceCtorEq, h0]
    · rintro i rfl
      by_cases h1 : n < 1
      · simp only [lp_rpad_0, rpadSt, h0, wx, wy, wz, stV, seval, IntWalk.iteOmega, IntWalk.toNatUp, reduceCtorEq]
        exact ret_own (id := 1) (n := b.length) (s := 1) (by simp only [wx, stV, seval, IntWalk.iteOmega, IntWalk.toNatUp, reduceCtorEq]) (by simp only [wx, stV, seval, IntWalk.iteOmega, IntWalk.toNatUp, reduceCtorEq]) (by simp)
      · have h2 : 64 < n := by omega
        simp only [lp_rpad_0, rpadSt, h0, wx, wy, wz, stV, seval, IntWalk.iteOmega, IntWalk.toNatUp, reduceCtorEq]
        exact ret_own (id := 1) (n := b.length) (s := 1) (by simp only [wx, stV, seval, IntWalk.iteOmega, IntWalk.toNatUp, reduceCtorEq]) (by simp only [wx, stV, seval, IntWalk.iteOmega, IntWalk.toNatUp, reduceCtorEq]) (by simp)
end Go.Proofs.Ytipjekggnanffaa
set_option linter.unusedVariables false
set_option linter.unusedSimpArgs false
namespace Go.Proofs.Ytipjekggnanffaa
open Go.RowKit

/-! ### Double -/
/-- Shifted, without the reduction. -/
def dG (b : List UInt8) (j : Nat) : UInt8 := if j < 15 then orB (shlB (b.getD j 0) 1) (shrB (b.getD (j + 1) 0) 7) else shlB (b.getD j 0) 1
def dGL (b : List UInt8) : List UInt8 := (List.range 16).map (dG b)
theorem dGL_len (b : List UInt8) : (dGL b).length = 16 := by simp [dGL]
theorem dGL_get (b : List UInt8) {j : Nat} (h : j < 16) : (dGL b)[j]? = some (dG b j) := by simp [dGL, h]
def redB (b : List UInt8) : UInt8 := selB (bitB (b.getD 0 0) 7) 135
theorem dblL_set {b : List UInt8} (h : b.length = 16) : (dGL b).set 15 (xorB (dG b 15) (redB b)) = dblL b := by
  unfold dblL
  rw [if_pos h]
  apply List.ext_getElem?
  intro j
  rw [List.getElem?_set]
  by_cases hj : j < 16
  · rw [toL_get _ hj]
    have hd : ∀ k, ofB16 b k = b.getD k 0 := fun _ => rfl
    by_cases h15 : 15 = j
    · subst h15
      rw [if_pos rfl, if_pos (by rw [dGL_len]; decide)]
      simp only [dG, dblF, hd, redB, Nat.lt_irrefl, if_false, if_true, xorB_zero]
    · rw [if_neg h15, dGL_get _ hj]
      have : j < 15 := by omega
      simp only [dG, dblF, hd, if_pos this, if_neg (show ¬ j = 15 by omega), xorB_zero, or_low]
  · rw [if_neg (by omega), List.getElem?_eq_none (by rw [dGL_len]; omega), List.getElem?_eq_none (by rw [toL_len]; omega)]
theorem redB_mul (b : List UInt8) : binV .mul (.w (.c (.d (bD (shrB (b.getD 0 0) 7))))) (.w (.c (.d (.int .u8 135)))) = some (bD (redB b)) := by
  have key := all_b (p := fun x => (shrB x 7).toNat * 135 % 256 == (selB (bitB x 7) 135).toNat) (by decide +kernel) (b.getD 0 0)
  rw [beq_iff_eq] at key
  show binI .mul .u8 _ .u8 _ = _
  rw [binI_mul, IntKind.wrap_u8]
  unfold redB bD
  rw [← key]
  congr 2
theorem redB_eq (b : List UInt8) : (shrB (b.getD 0 0) 7 == 1) = bitB (b.getD 0 0) 7 := by
  have key := all_b (p := fun x => (shrB x 7 == 1) == bitB x 7) (by decide +kernel) (b.getD 0 0)
  rw [beq_iff_eq] at key
  exact key
theorem orB_zero (x : UInt8) : orB x 0 = x := by
  have key := all_b (p := fun x => orB x 0 == x) (by decide +kernel) x
  rw [beq_iff_eq] at key
  exact key
theorem bD0 : bD 0 = .int .u8 0 := rfl
def cyB (b : List UInt8) (m : Nat) : UInt8 := if m < 16 then shrB (b.getD m 0) 7 else 0
theorem cyB_step (b : List UInt8) {q : Nat} (h : q < 16) : orB (shlB (b.getD q 0) 1) (cyB b (q + 1)) = dG b q := by
  unfold cyB dG
  by_cases h2 : q < 15
  · rw [if_pos (by omega), if_pos h2]
  · rw [if_neg (by omega), if_neg h2, orB_zero]
theorem cyB_at (b : List UInt8) {q : Nat} (h : q < 16) : shrB (b.getD q 0) 7 = cyB b q := (if_pos h).symm
/-- From the end on: the places from m on are done. -/
def dnL (l : List UInt8) (m : Nat) : List UInt8 := List.replicate m 0 ++ l.drop m
theorem dnL_len {l : List UInt8} {m : Nat} (h : m ≤ l.length) : (dnL l m).length = l.length := by
  unfold dnL; rw [List.length_append, List.length_replicate, List.length_drop]; omega
theorem dnL_zero (l : List UInt8) : dnL l 0 = l := by simp [dnL]
theorem dnL_full {l : List UInt8} {m : Nat} (h : l.length = m) : dnL l m = List.replicate m 0 := by
  unfold dnL; rw [List.drop_eq_nil_of_le (by omega), List.append_nil]
theorem dnL_step {l : List UInt8} {q : Nat} (h : q < l.length) : (dnL l (q + 1)).set q (l.getD q 0) = dnL l q := by
  unfold dnL
  rw [List.replicate_succ', List.append_assoc, List.set_append_right _ _ (by simp), List.length_replicate, Nat.sub_self, List.drop_eq_getElem_cons h, List.getD_eq_getElem?_getD, List.getElem?_eq_getElem h]
  rfl
def dbSt (b : List UInt8) (m : Nat) : St := ⟨ofL [(0, .w (.c (.d (.sl (b.map bD))))), (3, .w (.c (.own 1 1 0 16))), (4, .w (.c (.d (bD (cyB b m))))), (5, .w (.c (.d (.int .i64 ((m : Int) - 1)))))], hL [(1, .row 1 ((dnL (dGL b) m).map bD))], uL [1]⟩
theorem dblL_no {b : List UInt8} (h : b.length ≠ 16) : dblL b = [] := if_neg h
def lp_dbb_0 : SCode :=
  .seq (.seq (.reg [⟨(some 10), .mv (.t 5), none⟩,
    ⟨(some 11), .bin .geq (.t 10) (.k (.c (.d (.int .i64 0)))), none⟩])
  (.cond (.t 11) (.skip)
   (.exit 0)))
  (.seq (.block 1 (.seq (.reg [⟨(some 14), .mv (.t 3), none⟩,
     ⟨(some 15), .mv (.t 5), none⟩,
     ⟨(some 16), .mv (.t 0), none⟩,
     ⟨(some 17), .mv (.t 5), none⟩,
     ⟨(some 18), .idxSl 1 (.t 16) (.t 17), none⟩,
     ⟨(some 19), .load .sc (.t 18), none⟩,
     ⟨(some 20), .bin .shl (.t 19) (.k (.c (.d (.int .u64 1)))), none⟩,
     ⟨(some 21), .mv (.t 4), none⟩,
     ⟨(some 22), .bin .or (.t 20) (.t 21), none⟩,
     ⟨(some 23), .idxSl 1 (.t 14) (.t 15), none⟩,
     ⟨none, .store .sc (.t 23) (.t 22), none⟩])
   (.reg [⟨(some 24), .mv (.t 0), none⟩,
     ⟨(some 25), .mv (.t 5), none⟩,
     ⟨(some 26), .idxSl 1 (.t 24) (.t 25), none⟩,
     ⟨(some 27), .load .sc (.t 26), none⟩,
     ⟨(some 28), .bin .shr (.t 27) (.k (.c (.d (.int .u64 7)))), none⟩,
     ⟨(some 4), .mv (.t 28), none⟩])))
  (.reg [⟨(some 12), .mv (.t 5), none⟩,
    ⟨(some 13), .bin .sub (.t 12) (.k (.c (.d (.int .i64 1)))), none⟩,
    ⟨(some 5), .mv (.t 13), none⟩]))
def sf_dbb : SFn := ⟨1, 37,
  .seq (.reg [⟨(some 2), .mv (.k (.c .nil)), none⟩])
  (.seq (.seq (.reg [⟨(some 6), .mv (.t 0), none⟩,
    ⟨(some 7), .len (.t 6), none⟩,
    ⟨(some 8), .bin .neq (.t 7) (.k (.c (.d (.int .i64 16)))), none⟩])
  (.cond (.t 8) (.seq (.reg [⟨(some 2), .mv (.k (.c .nil)), none⟩])
   (.ret))
   (.skip)))
  (.seq (.reg [⟨(some 9), .make 1 1 (.int .u8 0) (.k (.c (.d (.int .i64 16)))) (.k (.c (.d (.int .i64 16)))), none⟩,
    ⟨(some 3), .mv (.t 9), none⟩])
  (.seq (.reg [⟨(some 4), .mv (.k (.c (.d (.int .u8 0)))), none⟩])
  (.seq (.seq (.reg [⟨(some 5), .mv (.k (.c (.d (.int .i64 15)))), none⟩])
  (.block 0 (.loop lp_dbb_0)))
  (.seq (.reg [⟨(some 29), .mv (.t 3), none⟩,
    ⟨(some 30), .idxSl 1 (.t 29) (.k (.c (.d (.int .i64 15)))), none⟩,
    ⟨(some 31), .load .sc (.t 30), none⟩,
    ⟨(some 32), .mv (.t 4), none⟩,
    ⟨(some 33), .bin .mul (.t 32) (.k (.c (.d (.int .u8 135)))), none⟩,
    ⟨(some 34), .bin .xor (.t 31) (.t 33), none⟩,
    ⟨(some 35), .idxSl 1 (.t 29) (.k (.c (.d (.int .i64 15)))), none⟩,
    ⟨none, .store .sc (.t 35) (.t 34), none⟩])
  (.seq (.reg [⟨(some 36), .mv (.t 3), none⟩,
    ⟨(some 2), .mv (.t 36), none⟩])
  (.ret))))))),
  [(2, none)]⟩
theorem cf_dbb : compFn Try.prog { own := [], comp := [], frz := [], nils := [] } Try.f56 = some sf_dbb := by kernel_rfl
set_option maxHeartbeats 1600000 in
theorem dbb_c (G : Glob) (b : List UInt8) (hb : b.length ≤ 9223372036854775807) : Den Try.prog G 56 [.sl (b.map bD)] (.w (.c (.fr 1 ((dblL b).map bD)))) := by
  refine den_walk Try.func56 cf_dbb rfl rfl ?_
  by_cases h : b.length = 16
  · have hd := dblL_set h
    have hl := dGL_len b
    simp only [sf_dbb, putAll, wx, wy, wz, stV, seval, IntWalk.iteOmega, IntWalk.toNatUp, reduceCtorEq, h, z16]
    refine loop_st (dbSt b) (fun m => m) (fun m => m ≤ 16) 16 (Nat.le_refl _) ?_ ?_
    · have e1 : dnL (dGL b) 16 = repL 16 0 := dnL_full hl
      have e2 : cyB b 16 = 0 := rfl
      refine ent_l (fun i => 72) ?_ ?_ rfl rfl <;> simp only [wx, wex, wez, stV, seval, IntWalk.iteOmega, IntWalk.toNatUp, reduceCtorEq, e1, e2, bD0]
    · intro m hm
      rcases m with _ | q
      · have e0 := dnL_zero (dGL b)
        have c0 : cyB b 0 = shrB (b.getD 0 0) 7 := rfl
        have x1 := redB_mul b
        have g1 := dGL_get b (j := 15) (by decide)
        have x2 := binV_xorB (dG b 15) (redB b)
        have h3 : 15 < (dGL b).length := by omega
        have hdl : (dblL b).length = 16 := dblL_len h
        simp only [lp_dbb_0, dbSt, e0, c0, Int.natCast_zero, Int.zero_sub, wx, wy, wz, stV, seval, IntWalk.iteOmega, IntWalk.toNatUp, reduceCtorEq, get_map, g1, x1, x2, stO_bs h3 (one_b _), set_bs, hd]
        exact ret_own (id := 1) (n := 16) (s := 1) (by simp only [wx, stV, seval, IntWalk.iteOmega, IntWalk.toNatUp, reduceCtorEq]) (by simp only [wx, stV, seval, IntWalk.iteOmega, IntWalk.toNatUp, reduceCtorEq]) (by simp [hdl])
      · have hq : q < 16 := by omega
        have g1 : b[q]? = some (b.getD q 0) := get_lt (by omega)
        have hl1 := dnL_len (l := dGL b) (m := q + 1) (by omega)
        have h3 : q < (dnL (dGL b) (q + 1)).length := by omega
        have x1 := bl_shl (b.getD q 0) .u64 1 1 rfl (by decide)
        have x2 := binV_orB (shlB (b.getD q 0) 1) (cyB b (q + 1))
        have x3 := bl_shr (b.getD q 0) .u64 7 7 rfl (by decide)
        have c1 := cyB_step b hq
        have c2 := cyB_at b hq
        have hs := dnL_step (l := dGL b) (q := q) (by omega)
        have hg : (dGL b).getD q 0 = dG b q := by rw [List.getD_eq_getElem?_getD, dGL_get b hq]; rfl
        rw [hg] at hs
        have sub : ((q : Int) + 1 - 1) = (q : Int) := by omega
        simp only [lp_dbb_0, dbSt, wx, wy, wz, stV, seval, IntWalk.iteOmega, IntWalk.toNatUp, reduceCtorEq, sub, get_map, g1, x1, x2, x3, c1, c2, h, stO_bs h3 (one_b _), set_bs, hs]
        refine lop_next q (by omega) (by omega) (ent_l (fun i => i) ?_ ?_ rfl rfl) <;> simp only [wx, wex, wez, stV, seval, IntWalk.iteOmega, IntWalk.toNatUp, reduceCtorEq]
  · rw [dblL_no h]
    simp only [sf_dbb, putAll, wx, wy, wz, stV, seval, IntWalk.iteOmega, IntWalk.toNatUp, reduceCtorEq]
    exact ret_f1 (by simp only [wx, wy, wz, stV, seval, IntWalk.iteOmega, IntWalk.toNatUp, reduceCtorEq])
def rdbSt (b : List UInt8) (i : Nat) : St := ⟨ofL [(0, .w (.c (.d (.sl (b.map bD))))), (3, .w (.c (.own 1 1 0 16))), (4, .w (.c (.d (.int .i64 (i : Int)))))], hL [(1, .row 1 ((upL (dG b) (repL 16 0) i).map bD))], uL [1]⟩
def lp_rdbb_0 : SCode :=
  .seq (.seq (.reg [⟨(some 9), .mv (.t 4), none⟩,
    ⟨(some 10), .bin .lss (.t 9) (.k (.c (.d (.int .i64 16)))), none⟩])
  (.cond (.t 10) (.skip)
   (.exit 0)))
  (.seq (.block 1 (.seq (.reg [⟨(some 13), .mv (.t 3), none⟩,
     ⟨(some 14), .mv (.t 4), none⟩,
     ⟨(some 15), .mv (.t 0), none⟩,
     ⟨(some 16), .mv (.t 4), none⟩,
     ⟨(some 17), .idxSl 1 (.t 15) (.t 16), none⟩,
     ⟨(some 18), .load .sc (.t 17), none⟩,
     ⟨(some 19), .bin .shl (.t 18) (.k (.c (.d (.int .u64 1)))), none⟩,
     ⟨(some 20), .idxSl 1 (.t 13) (.t 14), none⟩,
     ⟨none, .store .sc (.t 20) (.t 19), none⟩])
   (.seq (.reg [⟨(some 21), .mv (.t 4), none⟩,
     ⟨(some 22), .bin .lss (.t 21) (.k (.c (.d (.int .i64 15)))), none⟩])
   (.cond (.t 22) (.reg [⟨(some 23), .mv (.t 3), none⟩,
      ⟨(some 24), .mv (.t 4), none⟩,
      ⟨(some 25), .mv (.t 3), none⟩,
      ⟨(some 26), .mv (.t 4), none⟩,
      ⟨(some 27), .idxSl 1 (.t 25) (.t 26), none⟩,
      ⟨(some 28), .load .sc (.t 27), none⟩,
      ⟨(some 29), .mv (.t 0), none⟩,
      ⟨(some 30), .mv (.t 4), none⟩,
      ⟨(some 31), .bin .add (.t 30) (.k (.c (.d (.int .i64 1)))), none⟩,
      ⟨(some 32), .idxSl 1 (.t 29) (.t 31), none⟩,
      ⟨(some 33), .load .sc (.t 32), none⟩,
      ⟨(some 34), .bin .shr (.t 33) (.k (.c (.d (.int .u64 7)))), none⟩,
      ⟨(some 35), .bin .or (.t 28) (.t 34), none⟩,
      ⟨(some 36), .idxSl 1 (.t 23) (.t 24), none⟩,
      ⟨none, .store .sc (.t 36) (.t 35), none⟩])
    (.skip)))))
  (.reg [⟨(some 11), .mv (.t 4), none⟩,
    ⟨(some 12), .bin .add (.t 11) (.k (.c (.d (.int .i64 1)))), none⟩,
    ⟨(some 4), .mv (.t 12), none⟩]))
def sf_rdbb : SFn := ⟨1, 49,
  .seq (.reg [⟨(some 2), .mv (.k (.c .nil)), none⟩])
  (.seq (.seq (.reg [⟨(some 5), .mv (.t 0), none⟩,
    ⟨(some 6), .len (.t 5), none⟩,
    ⟨(some 7), .bin .neq (.t 6) (.k (.c (.d (.int .i64 16)))), none⟩])
  (.cond (.t 7) (.seq (.reg [⟨(some 2), .mv (.k (.c .nil)), none⟩])
   (.ret))
   (.skip)))
  (.seq (.reg [⟨(some 8), .make 1 1 (.int .u8 0) (.k (.c (.d (.int .i64 16)))) (.k (.c (.d (.int .i64 16)))), none⟩,
    ⟨(some 3), .mv (.t 8), none⟩])
  (.seq (.seq (.reg [⟨(some 4), .mv (.k (.c (.d (.int .i64 0)))), none⟩])
  (.block 0 (.loop lp_rdbb_0)))
  (.seq (.seq (.reg [⟨(some 37), .mv (.t 0), none⟩,
    ⟨(some 38), .idxSl 1 (.t 37) (.k (.c (.d (.int .i64 0)))), none⟩,
    ⟨(some 39), .load .sc (.t 38), none⟩,
    ⟨(some 40), .bin .shr (.t 39) (.k (.c (.d (.int .u64 7)))), none⟩,
    ⟨(some 41), .bin .eql (.t 40) (.k (.c (.d (.int .u8 1)))), none⟩])
  (.cond (.t 41) (.reg [⟨(some 42), .mv (.t 3), none⟩,
     ⟨(some 43), .mv (.t 3), none⟩,
     ⟨(some 44), .idxSl 1 (.t 43) (.k (.c (.d (.int .i64 15)))), none⟩,
     ⟨(some 45), .load .sc (.t 44), none⟩,
     ⟨(some 46), .bin .xor (.t 45) (.k (.c (.d (.int .u8 135)))), none⟩,
     ⟨(some 47), .idxSl 1 (.t 42) (.k (.c (.d (.int .i64 15)))), none⟩,
     ⟨none, .store .sc (.t 47) (.t 46), none⟩])
   (.skip)))
  (.seq (.reg [⟨(some 48), .mv (.t 3), none⟩,
    ⟨(some 2), .mv (.t 48), none⟩])
  (.ret)))))),
  [(2, none)]⟩
theorem cf_rdbb : compFn Try.prog { own := [], comp := [], frz := [], nils := [] } Try.f49 = some sf_rdbb := by kernel_rfl
set_option maxHeartbeats 1600000 in
theorem rdbb_c (G : Glob) (b : List UInt8) (hb : b.length ≤ 9223372036854775807) : Den Try.prog G 49 [.sl (b.map bD)] (.w (.c (.fr 1 ((dblL b).map bD)))) := by
  refine den_walk Try.func49 cf_rdbb rfl rfl ?_
  by_cases h : b.length = 16
  · have hd := dblL_set h
    have hl := dGL_len b
    have zl : (repL 16 (0 : UInt8)).length = 16 := repL_len _ _
    simp only [sf_rdbb, putAll, wx, wy, wz, stV, seval, IntWalk.iteOmega, IntWalk.toNatUp, reduceCtorEq, h, z16]
    refine loop_st (rdbSt b) (fun i => 16 - i) (fun i => i ≤ 16) 0 (Nat.zero_le _) ?_ ?_
    · have e1 := upL_zero (dG b) (repL 16 0)
      refine ent_l (fun i => 64) ?_ ?_ rfl rfl <;> simp only [wx, wex, wez, stV, seval, IntWalk.iteOmega, IntWalk.toNatUp, reduceCtorEq, e1]
    · intro i hi
      by_cases hlt : i < 16
      · have g1 : b[i]? = some (b.getD i 0) := get_lt (by omega)
        have hl1 := upL_len (dG b) (repL 16 0) (i := i) (by omega)
        have h3 : i < (upL (dG b) (repL 16 0) i).length := by omega
        have x1 := bl_shl (b.getD i 0) .u64 1 1 rfl (by decide)
        have hs := upL_step (dG b) (repL 16 0) (i := i) (by omega)
        by_cases h15 : i < 15
        · have g2 : b[i + 1]? = some (b.getD (i + 1) 0) := get_lt (by omega)
          have x2 := bl_shr (b.getD (i + 1) 0) .u64 7 7 rfl (by decide)
          have x3 := binV_orB (shlB (b.getD i 0) 1) (shrB (b.getD (i + 1) 0) 7)
          have hdg : orB (shlB (b.getD i 0) 1) (shrB (b.getD (i + 1) 0) 7) = dG b i := (if_pos h15).symm
          have h4 : i < ((upL (dG b) (repL 16 0) i).set i (shlB (b.getD i 0) 1)).length := by rw [List.length_set]; omega
          have g3 : ((upL (dG b) (repL 16 0) i).set i (shlB (b.getD i 0) 1))[i]? = some (shlB (b.getD i 0) 1) := List.getElem?_set_self (by omega)
          have hs2 : ((upL (dG b) (repL 16 0) i).set i (shlB (b.getD i 0) 1)).set i (dG b i) = upL (dG b) (repL 16 0) (i + 1) := by rw [List.set_set, hs]
          simp only [lp_rdbb_0, rdbSt, wx, wy, wz, stV, seval, IntWalk.iteOmega, IntWalk.toNatUp, reduceCtorEq, get_map, g1, x1, h, stO_bs h3 (one_b _), set_bs, g3, g2, x2, x3, stO_bs h4 (one_b _), hdg, hs2]
          refine lop_next (i + 1) (by omega) (by omega) (ent_l (fun i => i) ?_ ?_ rfl rfl) <;> simp only [wx, wex, wez, stV, seval, IntWalk.iteOmega, IntWalk.toNatUp, reduceCtorEq]
        · have hdg : shlB (b.getD i 0) 1 = dG b i := (if_neg h15).symm
          rw [hdg] at x1
          simp only [lp_rdbb_0, rdbSt, wx, wy, wz, stV, seval, IntWalk.iteOmega, IntWalk.toNatUp, reduceCtorEq, get_map, g1, x1, h, stO_bs h3 (one_b _), set_bs, hs]
          refine lop_next (i + 1) (by omega) (by omega) (ent_l (fun i => i) ?_ ?_ rfl rfl) <;> simp only [wx, wex, wez, stV, seval, IntWalk.iteOmega, IntWalk.toNatUp, reduceCtorEq]
      · obtain rfl : i = 16 := by omega
        have e1 : upL (dG b) (repL 16 0) 16 = dGL b := upL_full _ _ (by rw [repL_len]; decide)
        have g0 : b[0]? = some (b.getD 0 0) := get_lt (by omega)
        have x1 := bl_shr (b.getD 0 0) .u64 7 7 rfl (by decide)
        have x2 := bl_eql (shrB (b.getD 0 0) 7) 1 1 rfl
        have hr := redB_eq b
        rw [hr] at x2
        have g1 := dGL_get b (j := 15) (by decide)
        have h3 : 15 < (dGL b).length := by omega
        have hdl : (dblL b).length = 16 := dblL_len h
        have hrb : redB b = selB (bitB (b.getD 0 0) 7) 135 := rfl
        cases hb7 : bitB (b.getD 0 0) 7
        · rw [hb7] at x2 hrb
          rw [hrb, show selB false 135 = 0 from rfl, xorB_zero] at hd
          have hs : (dGL b).set 15 (dG b 15) = dGL b := by
            apply List.ext_getElem?
            intro j
            rw [List.getElem?_set]
            by_cases hj : 15 = j
            · subst hj
              rw [if_pos rfl, if_pos h3, g1]
            · rw [if_neg hj]
          rw [hs] at hd
          simp only [lp_rdbb_0, rdbSt, e1, wx, wy, wz, stV, seval, IntWalk.iteOmega, IntWalk.toNatUp, reduceCtorEq, get_map, g0, x1, x2, h, hd]
          exact ret_own (id := 1) (n := 16) (s := 1) (by simp only [wx, stV, seval, IntWalk.iteOmega, IntWalk.toNatUp, reduceCtorEq]) (by simp only [wx, stV, seval, IntWalk.iteOmega, IntWalk.toNatUp, reduceCtorEq]) (by simp [hdl])
        · rw [hb7] at x2 hrb
          rw [hrb, show selB true 135 = 135 from rfl] at hd
          have x3 := bl_xor (dG b 15) 135 135 rfl
          simp only [lp_rdbb_0, rdbSt, e1, wx, wy, wz, stV, seval, IntWalk.iteOmega, IntWalk.toNatUp, reduceCtorEq, get_map, g0, x1, x2, h, g1, x3, stO_bs h3 (one_b _), set_bs, hd]
          exact ret_own (id := 1) (n := 16) (s := 1) (by simp only [wx, stV, seval, IntWalk.iteOmega, IntWalk.toNatUp, reduceCtorEq]) (by simp only [wx, stV, seval, IntWalk.iteOmega, IntWalk.toNatUp, reduceCtorEq]) (by simp [hdl])
  · rw [dblL_no h]
    simp only [sf_rdbb, putAll, wx, wy, wz, stV, seval, IntWalk.iteOmega, IntWalk.toNatUp, reduceCtorEq]
    exact ret_f1 (by simp only [wx, wy, wz, stV, seval, IntWalk.iteOmega, IntWalk.toNatUp, reduceCtorEq])
/-! ### Lists combined -/
def xrF (a b : List UInt8) (j : Nat) : UInt8 := xorB (a.getD j 0) (b.getD j 0)
theorem xorP_up {a b : List UInt8} {n : Nat} (ha : a.length = n) (hb : b.length = n) : (List.range n).map (xrF a b) = xorP a b := by
  apply List.ext_getElem?
  intro j
  by_cases hj : j < n
  · have := xorP_get a b j (by omega) (by omega)
    have hl : j < (xorP a b).length := by rw [xorP_len]; omega
    rw [get_lt hl, this]
    simp [hj, xrF]
  · rw [List.getElem?_eq_none (by simpa using hj), List.getElem?_eq_none (by rw [xorP_len]; omega)]
def cmbSt (a b : List UInt8) (i : Nat) : St := ⟨ofL [(0, .w (.c (.d (.sl (a.map bD))))), (1, .w (.c (.d (.sl (b.map bD))))), (5, .w (.c (.own 1 1 0 16))), (9, .w (.c (.d (.int .i64 16)))), (10, .w (.c (.d (.int .i64 (i : Int)))))], hL [(1, .row 1 ((upL (xrF a b) (repL 16 0) i).map bD))], uL [1]⟩
def lp_cmb_0 : SCode :=
  .seq (.reg [⟨(some 11), .bin .lss (.t 10) (.t 9), none⟩])
  (.seq (.cond (.t 11) (.skip)
   (.exit 0))
  (.seq (.block 1 (.seq (.reg [⟨(some 12), .mv (.t 10), none⟩,
     ⟨(some 6), .mv (.t 12), none⟩])
   (.reg [⟨(some 13), .mv (.t 5), none⟩,
     ⟨(some 14), .mv (.t 6), none⟩,
     ⟨(some 15), .mv (.t 0), none⟩,
     ⟨(some 16), .mv (.t 6), none⟩,
     ⟨(some 17), .idxSl 1 (.t 15) (.t 16), none⟩,
     ⟨(some 18), .load .sc (.t 17), none⟩,
     ⟨(some 19), .mv (.t 1), none⟩,
     ⟨(some 20), .mv (.t 6), none⟩,
     ⟨(some 21), .idxSl 1 (.t 19) (.t 20), none⟩,
     ⟨(some 22), .load .sc (.t 21), none⟩,
     ⟨(some 23), .bin .xor (.t 18) (.t 22), none⟩,
     ⟨(some 24), .idxSl 1 (.t 13) (.t 14), none⟩,
     ⟨none, .store .sc (.t 24) (.t 23), none⟩])))
  (.reg [⟨(some 25), .bin .add (.t 10) (.k (.c (.d (.int .i64 1)))), none⟩,
    ⟨(some 10), .mv (.t 25), none⟩])))
def sf_cmb : SFn := ⟨2, 27,
  .seq (.reg [⟨(some 4), .mv (.k (.c .nil)), none⟩])
  (.seq (.reg [⟨(some 7), .make 1 1 (.int .u8 0) (.k (.c (.d (.int .i64 16)))) (.k (.c (.d (.int .i64 16)))), none⟩,
    ⟨(some 5), .mv (.t 7), none⟩])
  (.seq (.seq (.reg [⟨(some 8), .mv (.t 5), none⟩,
    ⟨(some 9), .len (.t 8), none⟩,
    ⟨(some 10), .mv (.k (.c (.d (.int .i64 0)))), none⟩])
  (.block 0 (.loop lp_cmb_0)))
  (.seq (.reg [⟨(some 26), .mv (.t 5), none⟩,
    ⟨(some 4), .mv (.t 26), none⟩])
  (.ret)))),
  [(4, none)]⟩
theorem cf_cmb : compFn Try.prog { own := [], comp := [], frz := [], nils := [] } Try.f59 = some sf_cmb := by kernel_rfl
set_option maxHeartbeats 1600000 in
theorem cmb_c (G : Glob) (a b : List UInt8) (ha : a.length = 16) (hb : b.length = 16) : Den Try.prog G 59 [.sl (a.map bD), .sl (b.map bD)] (.w (.c (.fr 1 ((xorP a b).map bD)))) := by
  refine den_walk Try.func59 cf_cmb rfl rfl ?_
  have zl : (repL 16 (0 : UInt8)).length = 16 := repL_len _ _
  simp only [sf_cmb, putAll, wx, wy, wz, stV, seval, IntWalk.iteOmega, IntWalk.toNatUp, reduceCtorEq, z16]
  refine loop_st (cmbSt a b) (fun i => 16 - i) (fun i => i ≤ 16) 0 (Nat.zero_le _) ?_ ?_
  · have e1 := upL_zero (xrF a b) (repL 16 0)
    refine ent_l (fun i => 56) ?_ ?_ rfl rfl <;> simp only [wx, wex, wez, stV, seval, IntWalk.iteOmega, IntWalk.toNatUp, reduceCtorEq, e1]
  · intro i hi
    by_cases hlt : i < 16
    · have g1 : a[i]? = some (a.getD i 0) := get_lt (by omega)
      have g2 : b[i]? = some (b.getD i 0) := get_lt (by omega)
      have hl1 := upL_len (xrF a b) (repL 16 0) (i := i) (by omega)
      have h3 : i < (upL (xrF a b) (repL 16 0) i).length := by omega
      have x1 := binV_xorB (a.getD i 0) (b.getD i 0)
      have hx : xorB (a.getD i 0) (b.getD i 0) = xrF a b i := rfl
      have hs := upL_step (xrF a b) (repL 16 0) (i := i) (by omega)
      simp only [lp_cmb_0, cmbSt, wx, wy, wz, stV, seval, IntWalk.iteOmega, IntWalk.toNatUp, reduceCtorEq, get_map, g1, g2, x1, ha, hb, stO_bs h3 (one_b _), set_bs, hx, hs]
      refine lop_next (i + 1) (by omega) (by omega) (ent_l (fun i => i) ?_ ?_ rfl rfl) <;> simp only [wx, wex, wez, stV, seval, IntWalk.iteOmega, IntWalk.toNatUp, reduceCtorEq]
    · obtain rfl : i = 16 := by omega
      have e1 : upL (xrF a b) (repL 16 0) 16 = xorP a b := by rw [upL_full _ _ (by rw [repL_len]; decide), xorP_up ha hb]
      have hl : (xorP a b).length = 16 := by rw [xorP_len]; exact ha
      simp only [lp_cmb_0, cmbSt, e1, wx, wy, wz, stV, seval, IntWalk.iteOmega, IntWalk.toNatUp, reduceCtorEq]
      exact ret_own (id := 1) (n := 16) (s := 1) (by simp only [wx, stV, seval, IntWalk.iteOmega, IntWalk.toNatUp, reduceCtorEq]) (by simp only [wx, stV, seval, IntWalk.iteOmega, IntWalk.toNatUp, reduceCtorEq]) (by simp [hl])
/-- The first i places combined. -/
def xorI (a b : List UInt8) (i : Nat) : List UInt8 := xorP a (b.take i)
theorem xorI_len (a b : List UInt8) (i : Nat) : (xorI a b i).length = a.length := xorP_len _ _
theorem xorI_at : ∀ (a b : List UInt8) (i : Nat), i < b.length → (xorI a b i)[i]? = a[i]?
  | [], _, _, _ => by simp [xorI, xorP]
  | x :: a, b, 0, _ => by simp [xorI, xorP_nil]
  | x :: a, [], i + 1, h => by simp at h
  | x :: a, y :: b, i + 1, h => by
    show (xorI a b i)[i]? = a[i]?
    exact xorI_at a b i (by simpa using h)
theorem xorI_step : ∀ (a b : List UInt8) (i : Nat), i < a.length → i < b.length → (xorI a b i).set i (xorB (a.getD i 0) (b.getD i 0)) = xorI a b (i + 1)
  | [], _, _, h, _ => by simp at h
  | x :: a, [], _, _, h => by simp at h
  | x :: a, y :: b, 0, _, _ => by simp [xorI, xorP_nil, xorP]
  | x :: a, y :: b, i + 1, h, g => by
    show xorB x y :: (xorI a b i).set i _ = xorB x y :: xorI a b (i + 1)
    rw [← xorI_step a b i (by simpa using h) (by simpa using g)]
    rfl
theorem xorI_end : ∀ (a b : List UInt8) (i : Nat), min a.length b.length ≤ i → xorI a b i = xorP a b
  | [], _, _, _ => by simp [xorI, xorP]
  | x :: a, [], i, _ => by simp [xorI]
  | x :: a, y :: b, 0, h => by simp at h
  | x :: a, y :: b, i + 1, h => by
    show xorB x y :: xorI a b i = xorB x y :: xorP a b
    rw [xorI_end a b i (by simp at h; omega)]
def rxrSt (a b : List UInt8) (i : Nat) : St := ⟨ofL [(1, .w (.c (.d (.sl (b.map bD))))), (5, .w (.c (.own 1 1 0 a.length))), (6, .w (.c (.d (.int .i64 (i : Int)))))], hL [(1, .row 1 ((xorI a b i).map bD))], uL [1]⟩
def lp_rxor_0 : SCode :=
  .seq (.seq (.reg [⟨(some 10), .mv (.t 6), none⟩,
    ⟨(some 11), .mv (.t 5), none⟩,
    ⟨(some 12), .len (.t 11), none⟩,
    ⟨(some 13), .bin .lss (.t 10) (.t 12), none⟩,
    ⟨(some 14), .mv (.t 13), none⟩,
    ⟨(some 15), .mv (.t 6), (some (14, true))⟩,
    ⟨(some 16), .mv (.t 1), (some (14, true))⟩,
    ⟨(some 17), .len (.t 16), (some (14, true))⟩,
    ⟨(some 18), .bin .lss (.t 15) (.t 17), (some (14, true))⟩,
    ⟨(some 19), .pick (.t 14) (.t 18) (.k (.c (.d (.bool false)))), none⟩])
  (.cond (.t 19) (.skip)
   (.exit 0)))
  (.seq (.block 1 (.reg [⟨(some 22), .mv (.t 5), none⟩,
     ⟨(some 23), .mv (.t 6), none⟩,
     ⟨(some 24), .mv (.t 5), none⟩,
     ⟨(some 25), .mv (.t 6), none⟩,
     ⟨(some 26), .idxSl 1 (.t 24) (.t 25), none⟩,
     ⟨(some 27), .load .sc (.t 26), none⟩,
     ⟨(some 28), .mv (.t 1), none⟩,
     ⟨(some 29), .mv (.t 6), none⟩,
     ⟨(some 30), .idxSl 1 (.t 28) (.t 29), none⟩,
     ⟨(some 31), .load .sc (.t 30), none⟩,
     ⟨(some 32), .bin .xor (.t 27) (.t 31), none⟩,
     ⟨(some 33), .idxSl 1 (.t 22) (.t 23), none⟩,
     ⟨none, .store .sc (.t 33) (.t 32), none⟩]))
  (.reg [⟨(some 20), .mv (.t 6), none⟩,
    ⟨(some 21), .bin .add (.t 20) (.k (.c (.d (.int .i64 1)))), none⟩,
    ⟨(some 6), .mv (.t 21), none⟩]))
def sf_rxor : SFn := ⟨2, 35,
  .seq (.reg [⟨(some 4), .mv (.k (.c .nil)), none⟩])
  (.seq (.reg [⟨(some 7), .mv (.t 0), none⟩,
    ⟨(some 8), .bldSl false 1 1 (.sl []) [(0, (.t 7))], none⟩,
    ⟨(some 9), .call 19 [(.t 8)] (some (0, 1)), none⟩,
    ⟨(some 5), .mv (.t 9), none⟩])
  (.seq (.seq (.reg [⟨(some 6), .mv (.k (.c (.d (.int .i64 0)))), none⟩])
  (.block 0 (.loop lp_rxor_0)))
  (.seq (.reg [⟨(some 34), .mv (.t 5), none⟩,
    ⟨(some 4), .mv (.t 34), none⟩])
  (.ret)))),
  [(4, none)]⟩
theorem cf_rxor : compFn Try.prog { own := [9], comp := [], frz := [], nils := [] } Try.f48 = some sf_rxor := by kernel_rfl
set_option maxHeartbeats 1600000 in
theorem rxor_c (G : Glob) (a b : List UInt8) (ha : a.length ≤ 140737488355328) (hb : b.length ≤ 9223372036854775807) : Den Try.prog G 48 [.sl (a.map bD), .sl (b.map bD)] (.w (.c (.fr 1 ((xorP a b).map bD)))) := by
  refine den_walk Try.func48 cf_rxor rfl rfl ?_
  have hj := rjoin_c G [a] (by simp) (by simp; omega)
  have hf : [a].flatten = a := by simp
  rw [hf] at hj
  simp only [sf_rxor, putAll, wx, wy, wz, stV, seval, IntWalk.iteOmega, IntWalk.toNatUp, reduceCtorEq]
  refine st_call (hj) rfl (.inl rfl) ?_
  simp only [wx, wy, wz, stV, seval, IntWalk.iteOmega, IntWalk.toNatUp, reduceCtorEq]
  obtain ⟨M, hM⟩ : ∃ M, M = min a.length b.length := ⟨_, rfl⟩
  refine loop_st (rxrSt a b) (fun i => M - i) (fun i => i ≤ M) 0 (Nat.zero_le _) ?_ ?_
  · have e1 : xorI a b 0 = a := by simp [xorI, xorP_nil]
    refine ent_l (fun i => 72) ?_ ?_ rfl rfl <;> simp only [wx, wex, wez, stV, seval, IntWalk.iteOmega, IntWalk.toNatUp, reduceCtorEq, e1]
  · intro i hi
    have hl := xorI_len a b i
    by_cases h1 : i < a.length
    · by_cases h2 : i < b.length
      · have g1 : a[i]? = some (a.getD i 0) := get_lt (by omega)
        have g2 : b[i]? = some (b.getD i 0) := get_lt (by omega)
        have g3 := xorI_at a b i h2
        rw [g1] at g3
        have h3 : i < (xorI a b i).length := by omega
        have x1 := binV_xorB (a.getD i 0) (b.getD i 0)
        have hs := xorI_step a b i h1 h2
        simp only [lp_rxor_0, rxrSt, wx, wy, wz, stV, seval, IntWalk.iteOmega, IntWalk.toNatUp, reduceCtorEq, get_map, g3, g2, x1, hl, stO_bs h3 (one_b _), set_bs, hs]
        refine lop_next (i + 1) (by omega) (by omega) (ent_l (fun i => i) ?_ ?_ rfl rfl) <;> simp only [wx, wex, wez, stV, seval, IntWalk.iteOmega, IntWalk.toNatUp, reduceCtorEq]
      · have e1 := xorI_end a b i (by omega)
        rw [e1] at hl
        simp only [lp_rxor_0, rxrSt, e1, wx, wy, wz, stV, seval, IntWalk.iteOmega, IntWalk.toNatUp, reduceCtorEq]
        exact ret_own (id := 1) (n := a.length) (s := 1) (by simp only [wx, stV, seval, IntWalk.iteOmega, IntWalk.toNatUp, reduceCtorEq]) (by simp only [wx, stV, seval, IntWalk.iteOmega, IntWalk.toNatUp, reduceCtorEq]) (by simp [hl])
    · have e1 := xorI_end a b i (by omega)
      rw [e1] at hl
      simp only [lp_rxor_0, rxrSt, e1, wx, wy, wz, stV, seval, IntWalk.iteOmega, IntWalk.toNatUp, reduceCtorEq]
      exact ret_own (id := 1) (n := a.length) (s := 1) (by simp only [wx, stV, seval, IntWalk.iteOmega, IntWalk.toNatUp, reduceCtorEq]) (by simp only [wx, stV, seval, IntWalk.iteOmega, IntWalk.toNatUp, reduceCtorEq]) (by simp [hl])
end Go.Proofs.Ytipjekggnanffaa
set_option linter.unusedVariables false
set_option linter.unusedSimpArgs false
namespace Go.Proofs.Ytipjekggnanffaa
open Go.RowKit

theorem blkV_ok {key b : List UInt8} (h : key.length = 16) (hb : b.length = 16) : blkV key b = encK (rkK key) b := if_pos ⟨h, hb⟩
theorem blkE_ok {key b : List UInt8} (h : key.length = 16) (hb : b.length = 16) : blkE key b = 0 := by unfold blkE; rw [if_neg (by omega), if_neg (by omega)]
theorem padN_16 (b : List UInt8) : padN b 16 = padL b := rfl
/-- A key and what follows from it. -/
def cdD (key : List UInt8) : D := .agg [.sl (key.map bD), .sl ((sub1 (rkK key)).map bD), .sl ((sub2 (rkK key)).map bD)]
def cdV (key : List UInt8) : D := if key.length = 16 then cdD key else .agg [.sl [], .sl [], .sl []]
theorem fl_bt (s : Nat) (l : List UInt8) (k : IntKind) (n : Int) : V.flat (.tup [.c (.fr s (l.map bD)), .c (.d (.int k n))]) = true := by
  have := fl_b s l
  simp only [V.flat, W.flat, List.all_cons, List.all_nil, Bool.and_true] at this ⊢
  rw [this]; rfl
def sf_kenc : SFn := ⟨2, 15,
  .seq (.reg [⟨(some 2), .box .roBox (.t 0), none⟩,
    ⟨(some 4), .mv (.k (.c .nil)), none⟩])
  (.seq (.reg [⟨(some 8), .fieldAddr 0 (.t 2), none⟩,
    ⟨(some 9), .load .sc (.t 8), none⟩,
    ⟨(some 10), .mv (.t 1), none⟩,
    ⟨(some 11), .call 55 [(.t 9), (.t 10)] (some (0, 1)), none⟩,
    ⟨(some 7), .mv (.t 11), none⟩,
    ⟨(some 12), .extract (.t 7) 0, none⟩,
    ⟨(some 13), .extract (.t 7) 1, none⟩,
    ⟨(some 5), .mv (.t 12), none⟩,
    ⟨(some 6), .mv (.t 13), none⟩])
  (.seq (.reg [⟨(some 14), .mv (.t 5), none⟩,
    ⟨(some 4), .mv (.t 14), none⟩])
  (.ret))),
  [(4, none)]⟩
theorem cf_kenc : compFn Try.prog { own := [], comp := [(11, 0)], frz := [], nils := [] } Try.f75 = some sf_kenc := by kernel_rfl
set_option maxHeartbeats 1600000 in
theorem kenc_f (G : Glob) (key b : List UInt8) (h : key.length = 16) (hb : b.length = 16) : Den Try.prog G 75 [.agg [.sl (key.map bD)], .sl (b.map bD)] (.w (.c (.fr 1 ((encK (rkK key) b).map bD)))) := by
  refine den_walk Try.func75 cf_kenc rfl rfl ?_
  have hx := blk_f G key b (by omega) (by omega)
  rw [blkV_ok h hb, blkE_ok h hb] at hx
  simp only [sf_kenc, putAll, wx, wy, wz, stV, seval, IntWalk.iteOmega, IntWalk.toNatUp, reduceCtorEq]
  refine st_call (hx) rfl (.inl rfl) ?_
  simp only [wx, wy, wz, stV, seval, IntWalk.iteOmega, IntWalk.toNatUp, reduceCtorEq]
  exact ret_f1 (by simp only [wx, wy, wz, stV, seval, IntWalk.iteOmega, IntWalk.toNatUp, reduceCtorEq])
theorem kenc_c (G : Glob) (key b : List UInt8) (h : key.length = 16) (hb : b.length = 16) : Den Try.prog G 75 [.agg [.sl (key.map bD)], .sl (b.map bD)] (.w (.c (.d (.sl ((encK (rkK key) b).map bD))))) := den_ro (kenc_f G key b h hb)
def sf_cdof : SFn := ⟨1, 25,
  .seq (.reg [⟨(some 2), .alloc [.nil, .nil, .nil], none⟩,
    ⟨(some 3), .mv (.k (.c (.d (.int .i64 0)))), none⟩])
  (.seq (.reg [⟨(some 8), .mv (.t 0), none⟩,
    ⟨(some 9), .make 1 1 (.int .u8 0) (.k (.c (.d (.int .i64 16)))) (.k (.c (.d (.int .i64 16)))), none⟩,
    ⟨(some 10), .call 55 [(.t 8), (.t 9)] none, none⟩,
    ⟨(some 7), .mv (.t 10), none⟩,
    ⟨(some 11), .extract (.t 7) 0, none⟩,
    ⟨(some 12), .extract (.t 7) 1, none⟩,
    ⟨(some 4), .mv (.t 11), none⟩,
    ⟨(some 5), .mv (.t 12), none⟩])
  (.seq (.seq (.reg [⟨(some 13), .mv (.t 5), none⟩,
    ⟨(some 14), .bin .neq (.t 13) (.k (.c (.d (.int .i64 0)))), none⟩])
  (.cond (.t 14) (.seq (.reg [⟨(some 15), .build [.nil, .nil, .nil] [], none⟩,
     ⟨(some 16), .mv (.t 5), none⟩,
     ⟨none, .store (.ag 3) (.t 2) (.t 15), none⟩,
     ⟨(some 3), .mv (.t 16), none⟩])
   (.ret))
   (.skip)))
  (.seq (.reg [⟨(some 17), .mv (.t 4), none⟩,
    ⟨(some 18), .call 56 [(.t 17)] none, none⟩,
    ⟨(some 6), .mv (.t 18), none⟩])
  (.seq (.reg [⟨(some 19), .mv (.t 0), none⟩,
    ⟨(some 20), .build [.nil] [(0, 1, (.t 19))], none⟩,
    ⟨(some 21), .mv (.t 6), none⟩,
    ⟨(some 22), .mv (.t 6), none⟩,
    ⟨(some 23), .call 56 [(.t 22)] none, none⟩,
    ⟨(some 24), .build [.nil, .nil, .nil] [(0, 1, (.t 20)), (1, 1, (.t 21)), (2, 1, (.t 23))], none⟩,
    ⟨none, .store (.ag 3) (.t 2) (.t 24), none⟩,
    ⟨(some 3), .mv (.k (.c (.d (.int .i64 0)))), none⟩])
  (.ret))))),
  [(2, (some (.ag 3))), (3, none)]⟩
theorem cf_cdof : compFn Try.prog { own := [], comp := [], frz := [], nils := [] } Try.f34 = some sf_cdof := by kernel_rfl
set_option maxHeartbeats 1600000 in
theorem cdof_c (G : Glob) (key : List UInt8) (hk : key.length ≤ 9223372036854775807) : Den Try.prog G 34 [.sl (key.map bD)] (.tup [.c (.d (cdV key)), .c (.d (.int .i64 (keyE key)))]) := by
  refine den_walk Try.func34 cf_cdof rfl rfl ?_
  have t0 : (repL 16 (0 : UInt8)).take 16 = zero16 := rfl
  by_cases h : key.length = 16
  · have hx := blk_f G key zero16 (by omega) (by decide)
    rw [blkV_ok h (by decide), blkE_ok h (by decide)] at hx
    have hv : cdV key = cdD key := if_pos h
    have he : keyE key = 0 := by unfold keyE; rw [if_neg (by omega)]
    have h1 := dbb_c G (encK (rkK key) zero16) (by rw [encK_len]; decide)
    have h2 := dbb_c G (sub1 (rkK key)) (by rw [sub1_len]; decide)
    have s1 : dblL (encK (rkK key) zero16) = sub1 (rkK key) := rfl
    have s2 : dblL (sub1 (rkK key)) = sub2 (rkK key) := rfl
    rw [s1] at h1
    rw [s2] at h2
    rw [hv, he]
    simp only [sf_cdof, putAll, wx, wy, wz, stV, seval, IntWalk.iteOmega, IntWalk.toNatUp, reduceCtorEq, z16]
    refine st_call hx (by simp only [wx, wy, wz, stV, seval, IntWalk.iteOmega, IntWalk.toNatUp, reduceCtorEq, take_map, t0, repL_len]) (.inr (fl_bt _ _ _ _)) ?_
    simp only [wx, wy, wz, stV, seval, IntWalk.iteOmega, IntWalk.toNatUp, reduceCtorEq]
    refine st_call (h1) rfl (.inl rfl) ?_
    simp only [wx, wy, wz, stV, seval, IntWalk.iteOmega, IntWalk.toNatUp, reduceCtorEq]
    refine st_call (h2) rfl (.inl rfl) ?_
    simp only [wx, wy, wz, stV, seval, IntWalk.iteOmega, IntWalk.toNatUp, reduceCtorEq]
    exact ret_d2 (by simp only [wx, wy, wz, stV, seval, IntWalk.iteOmega, IntWalk.toNatUp, reduceCtorEq, cdD]) (by simp only [wx, wy, wz, stV, seval, IntWalk.iteOmega, IntWalk.toNatUp, reduceCtorEq])
  · have hv : cdV key = .agg [.sl [], .sl [], .sl []] := if_neg h
    have he : keyE key = 5 := if_pos h
    have hx := blk_f G key zero16 (by omega) (by decide)
    have v1 : blkV key zero16 = [] := if_neg (fun k => h k.1)
    have v2 : blkE key zero16 = 5 := if_pos h
    rw [v1, v2] at hx
    rw [hv, he]
    simp only [sf_cdof, putAll, wx, wy, wz, stV, seval, IntWalk.iteOmega, IntWalk.toNatUp, reduceCtorEq, z16]
    refine st_call hx (by simp only [wx, wy, wz, stV, seval, IntWalk.iteOmega, IntWalk.toNatUp, reduceCtorEq, take_map, t0, repL_len]) (.inr (fl_bt _ _ _ _)) ?_
    simp only [wx, wy, wz, stV, seval, IntWalk.iteOmega, IntWalk.toNatUp, reduceCtorEq]
    exact ret_d2 (by simp only [wx, wy, wz, stV, seval, IntWalk.iteOmega, IntWalk.toNatUp, reduceCtorEq]) (by simp only [wx, wy, wz, stV, seval, IntWalk.iteOmega, IntWalk.toNatUp, reduceCtorEq])
def sf_fild : SFn := ⟨1, 8,
  .seq (.reg [⟨(some 2), .mv (.k (.c .nil)), none⟩])
  (.seq (.reg [⟨(some 3), .mv (.t 0), none⟩,
    ⟨(some 4), .bldSl false 1 1 (.int .u8 0) [(0, (.k (.c (.d (.int .u8 128)))))], none⟩,
    ⟨(some 5), .bldSl false 2 1 (.sl []) [(0, (.t 3)), (1, (.t 4))], none⟩,
    ⟨(some 6), .call 29 [(.t 5)] none, none⟩,
    ⟨(some 7), .call 81 [(.t 6), (.k (.c (.d (.int .i64 16))))] none, none⟩,
    ⟨(some 2), .mv (.t 7), none⟩])
  (.ret)),
  [(2, none)]⟩
theorem cf_fild : compFn Try.prog { own := [], comp := [], frz := [], nils := [] } Try.f77 = some sf_fild := by kernel_rfl
set_option maxHeartbeats 1600000 in
theorem fild_c (G : Glob) (b : List UInt8) (hb : b.length ≤ 70000) : Den Try.prog G 77 [.sl (b.map bD)] (.w (.c (.d (.sl ((padL (b ++ [128])).map bD))))) := by
  refine den_walk Try.func77 cf_fild rfl rfl ?_
  have hj := join_c G [b, [128]] (by simp) (by simp; omega)
  have hf : [b, [128]].flatten = b ++ [128] := by simp
  rw [hf] at hj
  have hp := pad_c G (b ++ [128]) 16 (by simp; omega)
  rw [padN_16] at hp
  simp only [sf_fild, putAll, wx, wy, wz, stV, seval, IntWalk.iteOmega, IntWalk.toNatUp, reduceCtorEq]
  refine st_call (hj) rfl (.inl rfl) ?_
  simp only [wx, wy, wz, stV, seval, IntWalk.iteOmega, IntWalk.toNatUp, reduceCtorEq]
  refine st_call (hp) rfl (.inl rfl) ?_
  simp only [wx, wy, wz, stV, seval, IntWalk.iteOmega, IntWalk.toNatUp, reduceCtorEq]
  exact ret_d1 (by simp only [wx, wy, wz, stV, seval, IntWalk.iteOmega, IntWalk.toNatUp, reduceCtorEq])
theorem endM_full (rk : List UInt8) {e : List UInt8} (h : e.length = 16) : endM rk e = xorP e (sub1 rk) := if_pos h
theorem endM_part (rk : List UInt8) {e : List UInt8} (h : e.length ≠ 16) : endM rk e = xorP (padL (e ++ [128])) (sub2 rk) := if_neg h
def sf_clast : SFn := ⟨2, 17,
  .seq (.reg [⟨(some 2), .box .roBox (.t 0), none⟩,
    ⟨(some 4), .mv (.k (.c .nil)), none⟩])
  (.seq (.seq (.reg [⟨(some 5), .mv (.t 1), none⟩,
    ⟨(some 6), .len (.t 5), none⟩,
    ⟨(some 7), .bin .eql (.t 6) (.k (.c (.d (.int .i64 16)))), none⟩])
  (.cond (.t 7) (.seq (.reg [⟨(some 8), .mv (.t 1), none⟩,
     ⟨(some 9), .fieldAddr 1 (.t 2), none⟩,
     ⟨(some 10), .load .sc (.t 9), none⟩,
     ⟨(some 11), .call 59 [(.t 8), (.t 10)] none, none⟩,
     ⟨(some 4), .mv (.t 11), none⟩])
   (.ret))
   (.skip)))
  (.seq (.reg [⟨(some 12), .mv (.t 1), none⟩,
    ⟨(some 13), .call 77 [(.t 12)] none, none⟩,
    ⟨(some 14), .fieldAddr 2 (.t 2), none⟩,
    ⟨(some 15), .load .sc (.t 14), none⟩,
    ⟨(some 16), .call 59 [(.t 13), (.t 15)] none, none⟩,
    ⟨(some 4), .mv (.t 16), none⟩])
  (.ret))),
  [(4, none)]⟩
theorem cf_clast : compFn Try.prog { own := [], comp := [], frz := [], nils := [] } Try.f76 = some sf_clast := by kernel_rfl
set_option maxHeartbeats 1600000 in
theorem clast_c (G : Glob) (key b : List UInt8) (hb : b.length ≤ 16) : Den Try.prog G 76 [cdD key, .sl (b.map bD)] (.w (.c (.d (.sl ((endM (rkK key) b).map bD))))) := by
  refine den_walk Try.func76 cf_clast rfl rfl ?_
  by_cases h : b.length = 16
  · rw [endM_full _ h]
    simp only [sf_clast, putAll, cdD, wx, wy, wz, stV, seval, IntWalk.iteOmega, IntWalk.toNatUp, reduceCtorEq, h]
    refine st_call (cmb_c G b (sub1 (rkK key)) h (sub1_len _)) rfl (.inl rfl) ?_
    simp only [wx, wy, wz, stV, seval, IntWalk.iteOmega, IntWalk.toNatUp, reduceCtorEq]
    exact ret_d1 (by simp only [wx, wy, wz, stV, seval, IntWalk.iteOmega, IntWalk.toNatUp, reduceCtorEq])
  · rw [endM_part _ h]
    simp only [sf_clast, putAll, cdD, wx, wy, wz, stV, seval, IntWalk.iteOmega, IntWalk.toNatUp, reduceCtorEq]
    refine st_call (fild_c G b (by omega)) rfl (.inl rfl) ?_
    simp only [wx, wy, wz, stV, seval, IntWalk.iteOmega, IntWalk.toNatUp, reduceCtorEq]
    refine st_call (cmb_c G (padL (b ++ [128])) (sub2 (rkK key)) (padL_short (by omega)) (sub2_len _)) rfl (.inl rfl) ?_
    simp only [wx, wy, wz, stV, seval, IntWalk.iteOmega, IntWalk.toNatUp, reduceCtorEq]
    exact ret_d1 (by simp only [wx, wy, wz, stV, seval, IntWalk.iteOmega, IntWalk.toNatUp, reduceCtorEq])
def codV (key b : List UInt8) : Nat → V
  | 0 => .w (.c (.own 1 1 0 16))
  | i + 1 => .w (.c (.d (.sl ((cbcM (rkK key) b (i + 1)).map bD))))
def codSt (key b : List UInt8) (i : Nat) : St := ⟨ofL [(1, .w (.c (.d (.sl ((b.drop (16 * i)).map bD))))), (2, .w (.c (.rp [.sl (key.map bD), .sl ((sub1 (rkK key)).map bD), .sl ((sub2 (rkK key)).map bD)]))), (5, codV key b i)], hL [(1, .row 1 ((repL 16 (0 : UInt8)).map bD))], uL [1]⟩
theorem drop16 (b : List UInt8) (i : Nat) : ((b.drop (16 * i)).drop 16).take ((b.drop (16 * i)).length - 16) = b.drop (16 * (i + 1)) := by
  rw [List.drop_drop, List.take_of_length_le (by simp only [List.length_drop]; omega)]; rfl
def lp_code_0 : SCode :=
  .seq (.seq (.reg [⟨(some 7), .mv (.t 1), none⟩,
    ⟨(some 8), .len (.t 7), none⟩,
    ⟨(some 9), .bin .gtr (.t 8) (.k (.c (.d (.int .i64 16)))), none⟩])
  (.cond (.t 9) (.skip)
   (.exit 0)))
  (.block 1 (.seq (.reg [⟨(some 10), .fieldAddr 0 (.t 2), none⟩,
     ⟨(some 11), .load (.ag 1) (.t 10), none⟩,
     ⟨(some 12), .mv (.t 5), none⟩,
     ⟨(some 13), .mv (.t 1), none⟩,
     ⟨(some 14), .slice 1 (.t 13) none (some (.k (.c (.d (.int .i64 16))))) none, none⟩,
     ⟨(some 15), .call 59 [(.t 12), (.t 14)] none, none⟩,
     ⟨(some 16), .call 75 [(.t 11), (.t 15)] none, none⟩,
     ⟨(some 5), .mv (.t 16), none⟩])
   (.reg [⟨(some 17), .mv (.t 1), none⟩,
     ⟨(some 18), .slice 1 (.t 17) (some (.k (.c (.d (.int .i64 16))))) none none, none⟩,
     ⟨(some 1), .mv (.t 18), none⟩])))
def sf_code : SFn := ⟨2, 27,
  .seq (.reg [⟨(some 2), .box .roBox (.t 0), none⟩,
    ⟨(some 4), .mv (.k (.c .nil)), none⟩])
  (.seq (.reg [⟨(some 6), .make 1 1 (.int .u8 0) (.k (.c (.d (.int .i64 16)))) (.k (.c (.d (.int .i64 16)))), none⟩,
    ⟨(some 5), .mv (.t 6), none⟩])
  (.seq (.block 0 (.loop lp_code_0))
  (.seq (.reg [⟨(some 19), .fieldAddr 0 (.t 2), none⟩,
    ⟨(some 20), .load (.ag 1) (.t 19), none⟩,
    ⟨(some 21), .mv (.t 5), none⟩,
    ⟨(some 22), .load (.ag 3) (.t 2), none⟩,
    ⟨(some 23), .mv (.t 1), none⟩,
    ⟨(some 24), .call 76 [(.t 22), (.t 23)] none, none⟩,
    ⟨(some 25), .call 59 [(.t 21), (.t 24)] none, none⟩,
    ⟨(some 26), .call 75 [(.t 20), (.t 25)] (some (0, 1)), none⟩,
    ⟨(some 4), .mv (.t 26), none⟩])
  (.ret)))),
  [(4, none)]⟩
theorem cf_code : compFn Try.prog { own := [26], comp := [], frz := [], nils := [] } Try.f57 = some sf_code := by kernel_rfl
set_option maxHeartbeats 3200000 in
theorem code_f (G : Glob) (key b : List UInt8) (h : key.length = 16) (hb : b.length ≤ 70000) : Den Try.prog G 57 [cdD key, .sl (b.map bD)] (.w (.c (.fr 1 ((macM (rkK key) b).map bD)))) := by
  refine den_walk Try.func57 cf_code rfl rfl ?_
  have t0 : (repL 16 (0 : UInt8)).take 16 = zero16 := rfl
  have hah : aheadM b = (b.length + 15) / 16 - 1 := rfl
  have hm : ∀ i, i = aheadM b → macM (rkK key) b = encK (rkK key) (xorP (cbcM (rkK key) b i) (endM (rkK key) (b.drop (16 * i)))) := fun i e => by rw [e]; rfl
  simp only [sf_code, putAll, cdD, wx, wy, wz, stV, seval, IntWalk.iteOmega, IntWalk.toNatUp, reduceCtorEq, z16]
  refine loop_st (codSt key b) (fun i => aheadM b - i) (fun i => i ≤ aheadM b) 0 (Nat.zero_le _) ?_ ?_
  · refine ent_l (fun i => 48) ?_ ?_ rfl rfl <;> simp only [wx, wex, wez, stV, seval, IntWalk.iteOmega, IntWalk.toNatUp, reduceCtorEq, codV]
  · intro i hi
    have hcl : (b.drop (16 * i)).length = b.length - 16 * i := List.length_drop
    have hdr := drop16 b i
    by_cases hlt : i < aheadM b
    · have hT : ((b.drop (16 * i)).take 16).length = 16 := by rw [List.length_take]; omega
      have hstep : encK (rkK key) (xorP (cbcM (rkK key) b i) ((b.drop (16 * i)).take 16)) = cbcM (rkK key) b (i + 1) := rfl
      have h1 := cmb_c G (cbcM (rkK key) b i) ((b.drop (16 * i)).take 16) (cbcM_len _ _ _) hT
      have h2 := kenc_c G key (xorP (cbcM (rkK key) b i) ((b.drop (16 * i)).take 16)) h (by rw [xorP_len, cbcM_len])
      rw [hstep] at h2
      rcases i with _ | i
      · have hz : cbcM (rkK key) b 0 = zero16 := rfl
        rw [hz] at h1 h2
        simp only [Nat.mul_zero, List.drop_zero, Nat.zero_add, Nat.mul_one] at hdr
        simp only [lp_code_0, codSt, codV, wx, wy, wz, stV, seval, IntWalk.iteOmega, IntWalk.toNatUp, reduceCtorEq]
        refine st_call h1 (by simp only [wx, wy, wz, stV, seval, IntWalk.iteOmega, IntWalk.toNatUp, reduceCtorEq, take_map, t0, repL_len]) (.inr (fl_b _ _)) ?_
        simp only [wx, wy, wz, stV, seval, IntWalk.iteOmega, IntWalk.toNatUp, reduceCtorEq]
        refine st_call (h2) rfl (.inl rfl) ?_
        simp only [hdr, wx, wy, wz, stV, seval, IntWalk.iteOmega, IntWalk.toNatUp, reduceCtorEq]
        refine lop_next (0 + 1) (by omega) (by omega) (ent_l (fun i => i) ?_ ?_ rfl rfl) <;> simp only [wx, wex, wez, stV, seval, IntWalk.iteOmega, IntWalk.toNatUp, reduceCtorEq, codV]
      · simp only [lp_code_0, codSt, codV, wx, wy, wz, stV, seval, IntWalk.iteOmega, IntWalk.toNatUp, reduceCtorEq]
        refine st_call (h1) rfl (.inl rfl) ?_
        simp only [wx, wy, wz, stV, seval, IntWalk.iteOmega, IntWalk.toNatUp, reduceCtorEq]
        refine st_call (h2) rfl (.inl rfl) ?_
        simp only [hdr, wx, wy, wz, stV, seval, IntWalk.iteOmega, IntWalk.toNatUp, reduceCtorEq]
        refine lop_next (i + 1 + 1) (by omega) (by omega) (ent_l (fun i => i) ?_ ?_ rfl rfl) <;> simp only [wx, wex, wez, stV, seval, IntWalk.iteOmega, IntWalk.toNatUp, reduceCtorEq, codV]
    · rw [hm i (by omega)]
      have hl16 : (b.drop (16 * i)).length ≤ 16 := by omega
      have h1 := clast_c G key (b.drop (16 * i)) hl16
      have h2 := cmb_c G (cbcM (rkK key) b i) (endM (rkK key) (b.drop (16 * i))) (cbcM_len _ _ _) (endM_len hl16)
      have h3 := kenc_f G key (xorP (cbcM (rkK key) b i) (endM (rkK key) (b.drop (16 * i)))) h (by rw [xorP_len, cbcM_len])
      rcases i with _ | i
      · have hz : cbcM (rkK key) b 0 = zero16 := rfl
        rw [hz] at h2 h3 ⊢
        simp only [lp_code_0, codSt, codV, wx, wy, wz, stV, seval, IntWalk.iteOmega, IntWalk.toNatUp, reduceCtorEq]
        refine st_call (h1) rfl (.inl rfl) ?_
        simp only [wx, wy, wz, stV, seval, IntWalk.iteOmega, IntWalk.toNatUp, reduceCtorEq]
        refine st_call h2 (by simp only [wx, wy, wz, stV, seval, IntWalk.iteOmega, IntWalk.toNatUp, reduceCtorEq, take_map, t0, repL_len]) (.inr (fl_b _ _)) ?_
        simp only [wx, wy, wz, stV, seval, IntWalk.iteOmega, IntWalk.toNatUp, reduceCtorEq]
        refine st_call (h3) rfl (.inl rfl) ?_
        simp only [wx, wy, wz, stV, seval, IntWalk.iteOmega, IntWalk.toNatUp, reduceCtorEq]
        exact ret_f1 (by simp only [wx, wy, wz, stV, seval, IntWalk.iteOmega, IntWalk.toNatUp, reduceCtorEq])
      · simp only [lp_code_0, codSt, codV, wx, wy, wz, stV, seval, IntWalk.iteOmega, IntWalk.toNatUp, reduceCtorEq]
        refine st_call (h1) rfl (.inl rfl) ?_
        simp only [wx, wy, wz, stV, seval, IntWalk.iteOmega, IntWalk.toNatUp, reduceCtorEq]
        refine st_call (h2) rfl (.inl rfl) ?_
        simp only [wx, wy, wz, stV, seval, IntWalk.iteOmega, IntWalk.toNatUp, reduceCtorEq]
        refine st_call (h3) rfl (.inl rfl) ?_
        simp only [wx, wy, wz, stV, seval, IntWalk.iteOmega, IntWalk.toNatUp, reduceCtorEq]
        exact ret_f1 (by simp only [wx, wy, wz, stV, seval, IntWalk.iteOmega, IntWalk.toNatUp, reduceCtorEq])
theorem code_c (G : Glob) (key b : List UInt8) (h : key.length = 16) (hb : b.length ≤ 70000) : Den Try.prog G 57 [cdD key, .sl (b.map bD)] (.w (.c (.d (.sl ((macM (rkK key) b).map bD))))) := den_ro (code_f G key b h hb)
def sf_clsd : SFn := ⟨2, 26,
  .seq (.reg [⟨(some 4), .mv (.k (.c .nil)), none⟩])
  (.seq (.reg [⟨(some 6), .mv (.t 0), none⟩,
    ⟨(some 7), .len (.t 6), none⟩,
    ⟨(some 8), .bin .sub (.t 7) (.k (.c (.d (.int .i64 16)))), none⟩,
    ⟨(some 5), .mv (.t 8), none⟩])
  (.seq (.seq (.reg [⟨(some 9), .mv (.t 5), none⟩,
    ⟨(some 10), .bin .lss (.t 9) (.k (.c (.d (.int .i64 0)))), none⟩])
  (.cond (.t 10) (.seq (.reg [⟨(some 11), .mv (.t 1), none⟩,
     ⟨(some 12), .call 56 [(.t 11)] none, none⟩,
     ⟨(some 13), .mv (.t 0), none⟩,
     ⟨(some 14), .call 77 [(.t 13)] none, none⟩,
     ⟨(some 15), .call 59 [(.t 12), (.t 14)] none, none⟩,
     ⟨(some 4), .mv (.t 15), none⟩])
   (.ret))
   (.skip)))
  (.seq (.reg [⟨(some 16), .mv (.t 0), none⟩,
    ⟨(some 17), .mv (.t 5), none⟩,
    ⟨(some 18), .slice 1 (.t 16) none (some (.t 17)) none, none⟩,
    ⟨(some 19), .mv (.t 0), none⟩,
    ⟨(some 20), .mv (.t 5), none⟩,
    ⟨(some 21), .slice 1 (.t 19) (some (.t 20)) none none, none⟩,
    ⟨(some 22), .mv (.t 1), none⟩,
    ⟨(some 23), .call 59 [(.t 21), (.t 22)] none, none⟩,
    ⟨(some 24), .bldSl false 2 1 (.sl []) [(0, (.t 18)), (1, (.t 23))], none⟩,
    ⟨(some 25), .call 29 [(.t 24)] none, none⟩,
    ⟨(some 4), .mv (.t 25), none⟩])
  (.ret)))),
  [(4, none)]⟩
theorem cf_clsd : compFn Try.prog { own := [], comp := [], frz := [], nils := [] } Try.f60 = some sf_clsd := by kernel_rfl
set_option maxHeartbeats 1600000 in
theorem clsd_c (G : Glob) (s d : List UInt8) (hs : s.length ≤ 70000) (hd : d.length = 16) : Den Try.prog G 60 [.sl (s.map bD), .sl (d.map bD)] (.w (.c (.d (.sl ((if 16 ≤ s.length then s.take (s.length - 16) ++ xorP (s.drop (s.length - 16)) d else xorP (dblL d) (padL (s ++ [128]))).map bD))))) := by
  refine den_walk Try.func60 cf_clsd rfl rfl ?_
  by_cases h : 16 ≤ s.length
  · rw [if_pos h]
    have hl : (s.drop (s.length - 16)).length = 16 := by rw [List.length_drop]; omega
    have ht : (s.drop (s.length - 16)).take (s.length - (s.length - 16)) = s.drop (s.length - 16) := List.take_of_length_le (by omega)
    have hj := join_c G [s.take (s.length - 16), xorP (s.drop (s.length - 16)) d] (by simp) (by simp [xorP_len]; omega)
    have hf : [s.take (s.length - 16), xorP (s.drop (s.length - 16)) d].flatten = s.take (s.length - 16) ++ xorP (s.drop (s.length - 16)) d := by simp
    rw [hf] at hj
    have e1 : (((s.length : Int) - 16).toNat) = s.length - 16 := by omega
    simp only [sf_clsd, putAll, wx, wy, wz, stV, seval, IntWalk.iteOmega, IntWalk.toNatUp, reduceCtorEq, e1, ht]
    refine st_call (cmb_c G (s.drop (s.length - 16)) d hl hd) rfl (.inl rfl) ?_
    simp only [wx, wy, wz, stV, seval, IntWalk.iteOmega, IntWalk.toNatUp, reduceCtorEq]
    refine st_call (hj) rfl (.inl rfl) ?_
    simp only [wx, wy, wz, stV, seval, IntWalk.iteOmega, IntWalk.toNatUp, reduceCtorEq]
    exact ret_d1 (by simp only [wx, wy, wz, stV, seval, IntWalk.iteOmega, IntWalk.toNatUp, reduceCtorEq])
  · rw [if_neg h]
    simp only [sf_clsd, putAll, wx, wy, wz, stV, seval, IntWalk.iteOmega, IntWalk.toNatUp, reduceCtorEq]
    refine st_call (dbb_c G d (by omega)) rfl (.inl rfl) ?_
    simp only [wx, wy, wz, stV, seval, IntWalk.iteOmega, IntWalk.toNatUp, reduceCtorEq]
    refine st_call (fild_c G s (by omega)) rfl (.inl rfl) ?_
    simp only [wx, wy, wz, stV, seval, IntWalk.iteOmega, IntWalk.toNatUp, reduceCtorEq]
    refine st_call (cmb_c G (dblL d) (padL (s ++ [128])) (dblL_len hd) (padL_short (by omega))) rfl (.inl rfl) ?_
    simp only [wx, wy, wz, stV, seval, IntWalk.iteOmega, IntWalk.toNatUp, reduceCtorEq]
    exact ret_d1 (by simp only [wx, wy, wz, stV, seval, IntWalk.iteOmega, IntWalk.toNatUp, reduceCtorEq])
def vecSt (key : List UInt8) (l : List (List UInt8)) (i : Nat) : St := ⟨ofL [(1, .w (.c (.d (.sl (l.map fun l => D.sl (l.map bD)))))), (2, .w (.c (.rp [.sl (key.map bD), .sl ((sub1 (rkK key)).map bD), .sl ((sub2 (rkK key)).map bD)]))), (5, .w (.c (.d (.sl ((vecD (rkK key) l i).map bD))))), (6, .w (.c (.d (.int .i64 ((l.length : Int) - 1))))), (23, .w (.c (.d (.sl ((l.take (l.length - 1)).map fun l => D.sl (l.map bD)))))), (24, .w (.c (.d (.int .i64 ((l.length : Int) - 1))))), (25, .w (.c (.d (.int .i64 (i : Int)))))], hL [(1, .row 1 ((repL 16 (0 : UInt8)).map bD))], uL [1]⟩
theorem vecM_none (rk : List UInt8) {l : List (List UInt8)} (h : l.length = 0) : vecM rk l = macM rk (putL 1 16) := by
  unfold vecM; rw [if_pos h]; congr 1
theorem vecM_some (rk : List UInt8) {l : List (List UInt8)} (h : l.length ≠ 0) : vecM rk l = macM rk (if 16 ≤ (l.getD (l.length - 1) []).length then (l.getD (l.length - 1) []).take ((l.getD (l.length - 1) []).length - 16) ++ xorP ((l.getD (l.length - 1) []).drop ((l.getD (l.length - 1) []).length - 16)) (vecD rk l (l.length - 1)) else xorP (dblL (vecD rk l (l.length - 1))) (padL (l.getD (l.length - 1) [] ++ [128]))) := by
  unfold vecM; rw [if_neg h]; dsimp only; split <;> rfl
theorem getL_lt {l : List (List UInt8)} {j : Nat} (h : j < l.length) : l[j]? = some (l.getD j []) := by
  rw [List.getD_eq_getElem?_getD, List.getElem?_eq_getElem h]; rfl
theorem getL_mem {l : List (List UInt8)} {j : Nat} (h : j < l.length) : l.getD j [] ∈ l := by
  rw [List.getD_eq_getElem?_getD, List.getElem?_eq_getElem h]; exact List.getElem_mem h
def lp_vect_0 : SCode :=
  .seq (.reg [⟨(some 26), .bin .lss (.t 25) (.t 24), none⟩])
  (.seq (.cond (.t 26) (.skip)
   (.exit 0))
  (.seq (.block 1 (.seq (.reg [⟨(some 27), .idxSl 1 (.t 23) (.t 25), none⟩,
     ⟨(some 28), .load .sc (.t 27), none⟩,
     ⟨(some 8), .mv (.t 28), none⟩])
   (.reg [⟨(some 29), .mv (.t 5), none⟩,
     ⟨(some 30), .call 56 [(.t 29)] none, none⟩,
     ⟨(some 31), .load (.ag 3) (.t 2), none⟩,
     ⟨(some 32), .mv (.t 8), none⟩,
     ⟨(some 33), .call 57 [(.t 31), (.t 32)] none, none⟩,
     ⟨(some 34), .call 59 [(.t 30), (.t 33)] none, none⟩,
     ⟨(some 5), .mv (.t 34), none⟩])))
  (.reg [⟨(some 35), .bin .add (.t 25) (.k (.c (.d (.int .i64 1)))), none⟩,
    ⟨(some 25), .mv (.t 35), none⟩])))
def sf_vect : SFn := ⟨2, 44,
  .seq (.reg [⟨(some 2), .box .roBox (.t 0), none⟩,
    ⟨(some 4), .mv (.k (.c .nil)), none⟩])
  (.seq (.seq (.reg [⟨(some 9), .mv (.t 1), none⟩,
    ⟨(some 10), .len (.t 9), none⟩,
    ⟨(some 11), .bin .eql (.t 10) (.k (.c (.d (.int .i64 0)))), none⟩])
  (.cond (.t 11) (.seq (.reg [⟨(some 12), .load (.ag 3) (.t 2), none⟩,
     ⟨(some 13), .call 58 [(.k (.c (.d (.int .u64 1)))), (.k (.c (.d (.int .i64 16))))] none, none⟩,
     ⟨(some 14), .call 57 [(.t 12), (.t 13)] (some (0, 1)), none⟩,
     ⟨(some 4), .mv (.t 14), none⟩])
   (.ret))
   (.skip)))
  (.seq (.reg [⟨(some 15), .load (.ag 3) (.t 2), none⟩,
    ⟨(some 16), .make 1 1 (.int .u8 0) (.k (.c (.d (.int .i64 16)))) (.k (.c (.d (.int .i64 16)))), none⟩,
    ⟨(some 17), .call 57 [(.t 15), (.t 16)] none, none⟩,
    ⟨(some 5), .mv (.t 17), none⟩])
  (.seq (.reg [⟨(some 18), .mv (.t 1), none⟩,
    ⟨(some 19), .len (.t 18), none⟩,
    ⟨(some 20), .bin .sub (.t 19) (.k (.c (.d (.int .i64 1)))), none⟩,
    ⟨(some 6), .mv (.t 20), none⟩])
  (.seq (.seq (.reg [⟨(some 21), .mv (.t 1), none⟩,
    ⟨(some 22), .mv (.t 6), none⟩,
    ⟨(some 23), .slice 1 (.t 21) none (some (.t 22)) none, none⟩,
    ⟨(some 24), .len (.t 23), none⟩,
    ⟨(some 25), .mv (.k (.c (.d (.int .i64 0)))), none⟩])
  (.block 0 (.loop lp_vect_0)))
  (.seq (.reg [⟨(some 36), .load (.ag 3) (.t 2), none⟩,
    ⟨(some 37), .mv (.t 1), none⟩,
    ⟨(some 38), .mv (.t 6), none⟩,
    ⟨(some 39), .idxSl 1 (.t 37) (.t 38), none⟩,
    ⟨(some 40), .load .sc (.t 39), none⟩,
    ⟨(some 41), .mv (.t 5), none⟩,
    ⟨(some 42), .call 60 [(.t 40), (.t 41)] none, none⟩,
    ⟨(some 43), .call 57 [(.t 36), (.t 42)] (some (0, 1)), none⟩,
    ⟨(some 4), .mv (.t 43), none⟩])
  (.ret)))))),
  [(4, none)]⟩
theorem cf_vect : compFn Try.prog { own := [14, 43], comp := [], frz := [], nils := [] } Try.f35 = some sf_vect := by kernel_rfl
set_option maxHeartbeats 3200000 in
theorem vect_f (G : Glob) (key : List UInt8) (l : List (List UInt8)) (h : key.length = 16) (hl : l.length ≤ 17) (hb : ∀ x ∈ l, x.length ≤ 65535) : Den Try.prog G 35 [cdD key, .sl (l.map fun l => D.sl (l.map bD))] (.w (.c (.fr 1 ((vecM (rkK key) l).map bD)))) := by
  refine den_walk Try.func35 cf_vect rfl rfl ?_
  have t0 : (repL 16 (0 : UInt8)).take 16 = zero16 := rfl
  by_cases h0 : l.length = 0
  · rw [vecM_none _ h0]
    simp only [sf_vect, putAll, cdD, wx, wy, wz, stV, seval, IntWalk.iteOmega, IntWalk.toNatUp, reduceCtorEq, h0]
    refine st_call (put_in G 1 16 (by decide)) rfl (.inl rfl) ?_
    simp only [wx, wy, wz, stV, seval, IntWalk.iteOmega, IntWalk.toNatUp, reduceCtorEq]
    refine st_call (code_f G key (putL 1 16) h (by rw [putL_length]; decide)) rfl (.inl rfl) ?_
    simp only [wx, wy, wz, stV, seval, IntWalk.iteOmega, IntWalk.toNatUp, reduceCtorEq]
    exact ret_f1 (by simp only [wx, wy, wz, stV, seval, IntWalk.iteOmega, IntWalk.toNatUp, reduceCtorEq])
  · rw [vecM_some _ h0]
    have e1 : (((l.length : Int) - 1).toNat) = l.length - 1 := by omega
    have e2 : (l.take (l.length - 1)).length = l.length - 1 := by rw [List.length_take]; omega
    have e3 : ((l.length - 1 : Nat) : Int) = (l.length : Int) - 1 := by omega
    simp only [sf_vect, putAll, cdD, wx, wy, wz, stV, seval, IntWalk.iteOmega, IntWalk.toNatUp, reduceCtorEq, z16]
    refine st_call (code_f G key zero16 h (by decide)) (by simp only [wx, wy, wz, stV, seval, IntWalk.iteOmega, IntWalk.toNatUp, reduceCtorEq, take_map, t0, repL_len, cdD]) (.inr (fl_b _ _)) ?_
    simp only [wx, wy, wz, stV, seval, IntWalk.iteOmega, IntWalk.toNatUp, reduceCtorEq, e1, e2, e3, allSz_ls]
    refine loop_st (vecSt key l) (fun i => l.length - 1 - i) (fun i => i ≤ l.length - 1) 0 (Nat.zero_le _) ?_ ?_
    · refine ent_l (fun i => 128) ?_ ?_ rfl rfl <;> simp only [wx, wex, wez, stV, seval, IntWalk.iteOmega, IntWalk.toNatUp, reduceCtorEq, vecD, e2, e3]
    · intro i hi
      have hd := vecD_len (rkK key) l i
      by_cases hlt : i < l.length - 1
      · have g1 : (l.take (l.length - 1))[i]? = some (l.getD i []) := by rw [List.getElem?_take, if_pos hlt, getL_lt (by omega)]
        have hx := hb _ (getL_mem (l := l) (j := i) (by omega))
        have hs : xorP (dblL (vecD (rkK key) l i)) (macM (rkK key) (l.getD i [])) = vecD (rkK key) l (i + 1) := rfl
        have h1 := dbb_c G (vecD (rkK key) l i) (by omega)
        have h2 := code_c G key (l.getD i []) h (by omega)
        have h3 := cmb_c G (dblL (vecD (rkK key) l i)) (macM (rkK key) (l.getD i [])) (dblL_len hd) (macM_len _ _)
        rw [hs] at h3
        simp only [lp_vect_0, vecSt, wx, wy, wz, stV, seval, IntWalk.iteOmega, IntWalk.toNatUp, reduceCtorEq, get_map, g1, e2, e3]
        refine st_call (h1) rfl (.inl rfl) ?_
        simp only [wx, wy, wz, stV, seval, IntWalk.iteOmega, IntWalk.toNatUp, reduceCtorEq]
        refine st_call (h2) rfl (.inl rfl) ?_
        simp only [wx, wy, wz, stV, seval, IntWalk.iteOmega, IntWalk.toNatUp, reduceCtorEq]
        refine st_call (h3) rfl (.inl rfl) ?_
        simp only [wx, wy, wz, stV, seval, IntWalk.iteOmega, IntWalk.toNatUp, reduceCtorEq]
        refine lop_next (i + 1) (by omega) (by omega) (ent_l (fun i => i) ?_ ?_ rfl rfl) <;> simp only [wx, wex, wez, stV, seval, IntWalk.iteOmega, IntWalk.toNatUp, reduceCtorEq]
      · obtain rfl : i = l.length - 1 := by omega
        have g1 : l[l.length - 1]? = some (l.getD (l.length - 1) []) := getL_lt (by omega)
        have hx := hb _ (getL_mem (l := l) (j := l.length - 1) (by omega))
        have h1 := clsd_c G (l.getD (l.length - 1) []) (vecD (rkK key) l (l.length - 1)) (by omega) hd
        have hcl : ∀ s d : List UInt8, s.length ≤ 65535 → d.length = 16 → (if 16 ≤ s.length then s.take (s.length - 16) ++ xorP (s.drop (s.length - 16)) d else xorP (dblL d) (padL (s ++ [128]))).length ≤ 70000 := by
          intro s d h1 h2
          split
          · rw [List.length_append, xorP_len, ← List.length_append, List.take_append_drop]; omega
          · rw [xorP_len, dblL_len h2]; decide
        have h2 := code_f G key _ h (hcl _ _ hx hd)
        simp only [lp_vect_0, vecSt, wx, wy, wz, stV, seval, IntWalk.iteOmega, IntWalk.toNatUp, reduceCtorEq, get_map, g1, e1, e3]
        refine st_call (h1) rfl (.inl rfl) ?_
        simp only [wx, wy, wz, stV, seval, IntWalk.iteOmega, IntWalk.toNatUp, reduceCtorEq]
        refine st_call (h2) rfl (.inl rfl) ?_
        simp only [wx, wy, wz, stV, seval, IntWalk.iteOmega, IntWalk.toNatUp, reduceCtorEq]
        exact ret_f1 (by simp only [wx, wy, wz, stV, seval, IntWalk.iteOmega, IntWalk.toNatUp, reduceCtorEq])
theorem vect_c (G : Glob) (key : List UInt8) (l : List (List UInt8)) (h : key.length = 16) (hl : l.length ≤ 17) (hb : ∀ x ∈ l, x.length ≤ 65535) : Den Try.prog G 35 [cdD key, .sl (l.map fun l => D.sl (l.map bD))] (.w (.c (.d (.sl ((vecM (rkK key) l).map bD))))) := den_ro (vect_f G key l h hl hb)
/-! ### The calls -/
def subV (f : List UInt8 → List UInt8) (key : List UInt8) : List UInt8 := if key.length = 16 then f (rkK key) else []
def macE (key b : List UInt8) : Int := if key.length ≠ 16 then 5 else if 65535 < b.length then 2 else 0
def macV (key b : List UInt8) : List UInt8 := if key.length = 16 ∧ b.length ≤ 65535 then macM (rkK key) b else []
def longL (l : List (List UInt8)) : Bool := l.any fun x => decide (65535 < x.length)
def vctE (key : List UInt8) (l : List (List UInt8)) : Int := if key.length ≠ 16 then 5 else if 17 < l.length then 8 else if longL l = true then 2 else 0
def vctV (key : List UInt8) (l : List (List UInt8)) : List UInt8 := if key.length = 16 ∧ l.length ≤ 17 ∧ longL l = false then vecM (rkK key) l else []
theorem longL_no {l : List (List UInt8)} (h : ∀ j, j < l.length → (l.getD j []).length ≤ 65535) : longL l = false := by
  unfold longL
  rw [List.any_eq_false]
  intro x hx
  obtain ⟨j, hj, rfl⟩ := List.getElem_of_mem hx
  have := h j hj
  rw [List.getD_eq_getElem?_getD, List.getElem?_eq_getElem hj] at this
  simpa using this
theorem longL_yes {l : List (List UInt8)} {j : Nat} (hj : j < l.length) (h : 65535 < (l.getD j []).length) : longL l = true := by
  unfold longL
  rw [List.any_eq_true]
  exact ⟨_, getL_mem hj, decide_eq_true h⟩
theorem longL_all {l : List (List UInt8)} (h : longL l = false) : ∀ x ∈ l, x.length ≤ 65535 := by
  unfold longL at h
  rw [List.any_eq_false] at h
  intro x hx
  have := h x hx
  simpa using this
def vctSt (key : List UInt8) (l : List (List UInt8)) (i : Nat) : St := ⟨ofL [(1, .w (.c (.d (.sl (l.map fun l => D.sl (l.map bD)))))), (6, .w (.c (.ptr 1 1 0 0))), (21, .w (.c (.d (.sl (l.map fun l => D.sl (l.map bD)))))), (22, .w (.c (.d (.int .i64 (l.length : Int))))), (23, .w (.c (.d (.int .i64 (i : Int)))))], hL [(1, .box [.d (.sl (key.map bD)), .d (.sl ((sub1 (rkK key)).map bD)), .d (.sl ((sub2 (rkK key)).map bD))])], uL [1]⟩
def lp_vctr_0 : SCode :=
  .seq (.reg [⟨(some 24), .bin .lss (.t 23) (.t 22), none⟩])
  (.seq (.cond (.t 24) (.skip)
   (.exit 0))
  (.seq (.block 1 (.seq (.reg [⟨(some 25), .idxSl 1 (.t 21) (.t 23), none⟩,
     ⟨(some 26), .load .sc (.t 25), none⟩,
     ⟨(some 9), .mv (.t 26), none⟩])
   (.seq (.reg [⟨(some 27), .mv (.t 9), none⟩,
     ⟨(some 28), .len (.t 27), none⟩,
     ⟨(some 29), .bin .gtr (.t 28) (.k (.c (.d (.int .i64 65535)))), none⟩])
   (.cond (.t 29) (.seq (.reg [⟨(some 4), .mv (.k (.c .nil)), none⟩,
      ⟨(some 5), .mv (.k (.c (.d (.int .i64 2)))), none⟩])
    (.ret))
    (.skip)))))
  (.reg [⟨(some 30), .bin .add (.t 23) (.k (.c (.d (.int .i64 1)))), none⟩,
    ⟨(some 23), .mv (.t 30), none⟩])))
def sf_vctr : SFn := ⟨2, 34,
  .seq (.reg [⟨(some 4), .mv (.k (.c .nil)), none⟩,
    ⟨(some 5), .mv (.k (.c (.d (.int .i64 0)))), none⟩])
  (.seq (.reg [⟨(some 11), .mv (.t 0), none⟩,
    ⟨(some 12), .call 34 [(.t 11)] none, none⟩,
    ⟨(some 10), .mv (.t 12), none⟩,
    ⟨(some 13), .extract (.t 10) 0, none⟩,
    ⟨(some 14), .extract (.t 10) 1, none⟩,
    ⟨(some 6), .alloc [.nil, .nil, .nil], none⟩,
    ⟨none, .store (.ag 3) (.t 6) (.t 13), none⟩,
    ⟨(some 7), .mv (.t 14), none⟩])
  (.seq (.seq (.reg [⟨(some 15), .mv (.t 7), none⟩,
    ⟨(some 16), .bin .neq (.t 15) (.k (.c (.d (.int .i64 0)))), none⟩])
  (.cond (.t 16) (.seq (.reg [⟨(some 17), .mv (.t 7), none⟩,
     ⟨(some 4), .mv (.k (.c .nil)), none⟩,
     ⟨(some 5), .mv (.t 17), none⟩])
   (.ret))
   (.skip)))
  (.seq (.seq (.reg [⟨(some 18), .mv (.t 1), none⟩,
    ⟨(some 19), .len (.t 18), none⟩,
    ⟨(some 20), .bin .gtr (.t 19) (.k (.c (.d (.int .i64 17)))), none⟩])
  (.cond (.t 20) (.seq (.reg [⟨(some 4), .mv (.k (.c .nil)), none⟩,
     ⟨(some 5), .mv (.k (.c (.d (.int .i64 8)))), none⟩])
   (.ret))
   (.skip)))
  (.seq (.seq (.reg [⟨(some 21), .mv (.t 1), none⟩,
    ⟨(some 22), .len (.t 21), none⟩,
    ⟨(some 23), .mv (.k (.c (.d (.int .i64 0)))), none⟩])
  (.block 0 (.loop lp_vctr_0)))
  (.seq (.reg [⟨(some 31), .load (.ag 3) (.t 6), none⟩,
    ⟨(some 32), .mv (.t 1), none⟩,
    ⟨(some 33), .call 35 [(.t 31), (.t 32)] (some (0, 1)), none⟩,
    ⟨(some 4), .mv (.t 33), none⟩,
    ⟨(some 5), .mv (.k (.c (.d (.int .i64 0)))), none⟩])
  (.ret)))))),
  [(4, none), (5, none)]⟩
theorem cf_vctr : compFn Try.prog { own := [33], comp := [], frz := [], nils := [] } Try.f18 = some sf_vctr := by kernel_rfl
set_option maxHeartbeats 3200000 in
theorem vctr_f (G : Glob) (key : List UInt8) (l : List (List UInt8)) (hk : key.length ≤ 9223372036854775807) (hl : l.length ≤ 9223372036854775807) (hb : ∀ x ∈ l, x.length ≤ 9223372036854775807) : Den Try.prog G 18 [.sl (key.map bD), .sl (l.map fun l => D.sl (l.map bD))] (.tup [.c (.fr 1 ((vctV key l).map bD)), .c (.d (.int .i64 (vctE key l)))]) := by
  refine den_walk Try.func18 cf_vctr rfl rfl ?_
  have hx := cdof_c G key hk
  unfold vctV vctE
  by_cases h : key.length = 16
  · have hv : cdV key = cdD key := if_pos h
    have he : keyE key = 0 := by unfold keyE; rw [if_neg (by omega)]
    rw [hv, he] at hx
    by_cases h2 : l.length ≤ 17
    · rw [if_neg (by omega : ¬ key.length ≠ 16), if_neg (by omega : ¬ 17 < l.length)]
      simp only [sf_vctr, putAll, wx, wy, wz, stV, seval, IntWalk.iteOmega, IntWalk.toNatUp, reduceCtorEq]
      refine st_call (hx) rfl (.inl rfl) ?_
      simp only [cdD, wx, wy, wz, stV, seval, IntWalk.iteOmega, IntWalk.toNatUp, reduceCtorEq]
      refine loop_st (vctSt key l) (fun i => l.length - i) (fun i => i ≤ l.length ∧ ∀ j, j < i → (l.getD j []).length ≤ 65535) 0 ⟨Nat.zero_le _, fun j hj => by omega⟩ ?_ ?_
      · refine ent_l (fun i => 48) ?_ ?_ rfl rfl <;> simp only [wx, wex, wez, stV, seval, IntWalk.iteOmega, IntWalk.toNatUp, reduceCtorEq]
      · rintro i ⟨hi, hok⟩
        by_cases hlt : i < l.length
        · have g1 := getL_lt hlt
          have hx := hb _ (getL_mem hlt)
          by_cases hlong : 65535 < (l.getD i []).length
          · have hL := longL_yes hlt hlong
            rw [hL, if_neg (by simp), if_pos rfl]
            simp only [lp_vctr_0, vctSt, wx, wy, wz, stV, seval, IntWalk.iteOmega, IntWalk.toNatUp, reduceCtorEq, get_map, g1]
            exact ret_f2 (by simp only [wx, wy, wz, stV, seval, IntWalk.iteOmega, IntWalk.toNatUp, reduceCtorEq]) (by simp only [wx, wy, wz, stV, seval, IntWalk.iteOmega, IntWalk.toNatUp, reduceCtorEq])
          · simp only [lp_vctr_0, vctSt, wx, wy, wz, stV, seval, IntWalk.iteOmega, IntWalk.toNatUp, reduceCtorEq, get_map, g1]
            refine lop_next (i + 1) (by omega) ⟨by omega, fun j hj => ?_⟩ (ent_l (fun i => i) ?_ ?_ rfl rfl)
            · rcases Nat.lt_or_ge j i with h | h
              · exact hok j h
              · obtain rfl : j = i := by omega
                omega
            all_goals simp only [wx, wex, wez, stV, seval, IntWalk.iteOmega, IntWalk.toNatUp, reduceCtorEq]
        · have hL := longL_no (l := l) (fun j hj => hok j (by omega))
          rw [hL, if_pos ⟨h, h2, rfl⟩, if_neg (by simp)]
          simp only [lp_vctr_0, vctSt, wx, wy, wz, stV, seval, IntWalk.iteOmega, IntWalk.toNatUp, reduceCtorEq]
          refine st_call (vect_f G key l h h2 (longL_all hL)) rfl (.inl rfl) ?_
          simp only [wx, wy, wz, stV, seval, IntWalk.iteOmega, IntWalk.toNatUp, reduceCtorEq]
          exact ret_f2 (by simp only [wx, wy, wz, stV, seval, IntWalk.iteOmega, IntWalk.toNatUp, reduceCtorEq]) (by simp only [wx, wy, wz, stV, seval, IntWalk.iteOmega, IntWalk.toNatUp, reduceCtorEq])
    · rw [if_neg (by omega), if_neg (by omega), if_pos (by omega)]
      have h3 : 17 < l.length := by omega
      simp only [sf_vctr, putAll, wx, wy, wz, stV, seval, IntWalk.iteOmega, IntWalk.toNatUp, reduceCtorEq]
      refine st_call (hx) rfl (.inl rfl) ?_
      simp only [cdD, wx, wy, wz, stV, seval, IntWalk.iteOmega, IntWalk.toNatUp, reduceCtorEq]
      exact ret_f2 (by simp only [wx, wy, wz, stV, seval, IntWalk.iteOmega, IntWalk.toNatUp, reduceCtorEq]) (by simp only [wx, wy, wz, stV, seval, IntWalk.iteOmega, IntWalk.toNatUp, reduceCtorEq])
  · have hv : cdV key = .agg [.sl [], .sl [], .sl []] := if_neg h
    have he : keyE key = 5 := if_pos h
    rw [hv, he] at hx
    rw [if_neg (by omega), if_pos h]
    simp only [sf_vctr, putAll, wx, wy, wz, stV, seval, IntWalk.iteOmega, IntWalk.toNatUp, reduceCtorEq]
    refine st_call (hx) rfl (.inl rfl) ?_
    simp only [wx, wy, wz, stV, seval, IntWalk.iteOmega, IntWalk.toNatUp, reduceCtorEq]
    exact ret_f2 (by simp only [wx, wy, wz, stV, seval, IntWalk.iteOmega, IntWalk.toNatUp, reduceCtorEq]) (by simp only [wx, wy, wz, stV, seval, IntWalk.iteOmega, IntWalk.toNatUp, reduceCtorEq])
theorem vctr_c (G : Glob) (key : List UInt8) (l : List (List UInt8)) (hk : key.length ≤ 9223372036854775807) (hl : l.length ≤ 9223372036854775807) (hb : ∀ x ∈ l, x.length ≤ 9223372036854775807) : Den Try.prog G 18 [.sl (key.map bD), .sl (l.map fun l => D.sl (l.map bD))] (.tup [.c (.d (.sl ((vctV key l).map bD))), .c (.d (.int .i64 (vctE key l)))]) := den_ro2 (vctr_f G key l hk hl hb)
end Go.Proofs.Ytipjekggnanffaa
set_option linter.unusedVariables false
set_option linter.unusedSimpArgs false
namespace Go.Proofs.Ytipjekggnanffaa
open Go.RowKit

theorem blockC_rk (key b : List UInt8) : blockC key b = encK (rkK key) b := rfl
def rcV (key b : List UInt8) : Nat → V
  | 0 => .w (.c (.own 1 1 0 16))
  | i + 1 => .w (.c (.d (.sl ((cbcM (rkK key) b (i + 1)).map bD))))
def rcSt (key b : List UInt8) (last : Int) (i : Nat) : St := ⟨ofL [(1, .w (.c (.d (.sl (b.map bD))))), (2, .w (.c (.rp ((macM4 key).map bD)))), (5, .w (.c (.d (.sl ((sub1 (rkK key)).map bD))))), (6, .w (.c (.d (.int .i64 last)))), (7, rcV key b i), (8, .w (.c (.d (.int .i64 ((16 * i : Nat) : Int)))))], hL [(1, .row 1 ((repL 16 (0 : UInt8)).map bD))], uL [1]⟩
theorem slice16 (b : List UInt8) (i : Nat) : (b.drop (16 * i)).take (16 * i + 16 - 16 * i) = (b.drop (16 * i)).take 16 := by rw [show 16 * i + 16 - 16 * i = 16 by omega]
def lp_rmcc_0 : SCode :=
  .seq (.seq (.reg [⟨(some 24), .mv (.t 8), none⟩,
    ⟨(some 25), .mv (.t 6), none⟩,
    ⟨(some 26), .bin .lss (.t 24) (.t 25), none⟩])
  (.cond (.t 26) (.skip)
   (.exit 0)))
  (.seq (.block 1 (.reg [⟨(some 29), .load (.ag 688) (.t 2), none⟩,
     ⟨(some 30), .mv (.t 7), none⟩,
     ⟨(some 31), .mv (.t 1), none⟩,
     ⟨(some 32), .mv (.t 8), none⟩,
     ⟨(some 33), .mv (.t 8), none⟩,
     ⟨(some 34), .bin .add (.t 33) (.k (.c (.d (.int .i64 16)))), none⟩,
     ⟨(some 35), .slice 1 (.t 31) (some (.t 32)) (some (.t 34)) none, none⟩,
     ⟨(some 36), .call 48 [(.t 30), (.t 35)] none, none⟩,
     ⟨(some 37), .call 52 [(.t 29), (.t 36)] none, none⟩,
     ⟨(some 7), .mv (.t 37), none⟩]))
  (.reg [⟨(some 27), .mv (.t 8), none⟩,
    ⟨(some 28), .bin .add (.t 27) (.k (.c (.d (.int .i64 16)))), none⟩,
    ⟨(some 8), .mv (.t 28), none⟩]))
def sf_rmcc : SFn := ⟨2, 61,
  .seq (.reg [⟨(some 2), .box .roBox (.t 0), none⟩,
    ⟨(some 4), .mv (.k (.c .nil)), none⟩])
  (.seq (.reg [⟨(some 10), .load (.ag 688) (.t 2), none⟩,
    ⟨(some 11), .make 1 1 (.int .u8 0) (.k (.c (.d (.int .i64 16)))) (.k (.c (.d (.int .i64 16)))), none⟩,
    ⟨(some 12), .call 52 [(.t 10), (.t 11)] none, none⟩,
    ⟨(some 13), .call 49 [(.t 12)] none, none⟩,
    ⟨(some 5), .mv (.t 13), none⟩])
  (.seq (.reg [⟨(some 14), .mv (.t 1), none⟩,
    ⟨(some 15), .len (.t 14), none⟩,
    ⟨(some 16), .bin .add (.t 15) (.k (.c (.d (.int .i64 15)))), none⟩,
    ⟨(some 17), .bin .quo (.t 16) (.k (.c (.d (.int .i64 16)))), none⟩,
    ⟨(some 18), .bin .mul (.t 17) (.k (.c (.d (.int .i64 16)))), none⟩,
    ⟨(some 19), .bin .sub (.t 18) (.k (.c (.d (.int .i64 16)))), none⟩,
    ⟨(some 6), .mv (.t 19), none⟩])
  (.seq (.seq (.reg [⟨(some 20), .mv (.t 1), none⟩,
    ⟨(some 21), .len (.t 20), none⟩,
    ⟨(some 22), .bin .eql (.t 21) (.k (.c (.d (.int .i64 0)))), none⟩])
  (.cond (.t 22) (.reg [⟨(some 6), .mv (.k (.c (.d (.int .i64 0)))), none⟩])
   (.skip)))
  (.seq (.reg [⟨(some 23), .make 1 1 (.int .u8 0) (.k (.c (.d (.int .i64 16)))) (.k (.c (.d (.int .i64 16)))), none⟩,
    ⟨(some 7), .mv (.t 23), none⟩])
  (.seq (.seq (.reg [⟨(some 8), .mv (.k (.c (.d (.int .i64 0)))), none⟩])
  (.block 0 (.loop lp_rmcc_0)))
  (.seq (.reg [⟨(some 38), .mv (.t 1), none⟩,
    ⟨(some 39), .mv (.t 6), none⟩,
    ⟨(some 40), .slice 1 (.t 38) (some (.t 39)) none none, none⟩,
    ⟨(some 41), .bldSl false 1 1 (.sl []) [(0, (.t 40))], none⟩,
    ⟨(some 42), .call 19 [(.t 41)] (some (0, 1)), none⟩,
    ⟨(some 9), .mv (.t 42), none⟩])
  (.seq (.seq (.reg [⟨(some 43), .mv (.t 9), none⟩,
    ⟨(some 44), .len (.t 43), none⟩,
    ⟨(some 45), .bin .eql (.t 44) (.k (.c (.d (.int .i64 16)))), none⟩])
  (.cond (.t 45) (.reg [⟨(some 46), .mv (.t 9), none⟩,
     ⟨(some 47), .mv (.t 5), none⟩,
     ⟨(some 48), .call 48 [(.t 46), (.t 47)] none, none⟩,
     ⟨(some 9), .mv (.t 48), none⟩])
   (.reg [⟨(some 49), .mv (.t 9), none⟩,
     ⟨(some 50), .bldSl false 1 1 (.int .u8 0) [(0, (.k (.c (.d (.int .u8 128)))))], none⟩,
     ⟨(some 51), .app false 1 1 (.t 49) (.t 50), none⟩,
     ⟨(some 52), .call 50 [(.t 51), (.k (.c (.d (.int .i64 16))))] none, none⟩,
     ⟨(some 53), .mv (.t 5), none⟩,
     ⟨(some 54), .call 49 [(.t 53)] none, none⟩,
     ⟨(some 55), .call 48 [(.t 52), (.t 54)] none, none⟩,
     ⟨(some 9), .mv (.t 55), none⟩])))
  (.seq (.reg [⟨(some 56), .load (.ag 688) (.t 2), none⟩,
    ⟨(some 57), .mv (.t 7), none⟩,
    ⟨(some 58), .mv (.t 9), none⟩,
    ⟨(some 59), .call 48 [(.t 57), (.t 58)] none, none⟩,
    ⟨(some 60), .call 52 [(.t 56), (.t 59)] (some (0, 1)), none⟩,
    ⟨(some 4), .mv (.t 60), none⟩])
  (.ret))))))))),
  [(4, none)]⟩
theorem cf_rmcc : compFn Try.prog { own := [42, 60], comp := [], frz := [], nils := [] } Try.f47 = some sf_rmcc := by kernel_rfl
set_option maxRecDepth 20000 in
set_option maxHeartbeats 3200000 in
theorem rmcc_f (G : Glob) (key b : List UInt8) (h : key.length = 16) (hb : b.length ≤ 70000) : Den Try.prog G 47 [.agg ((macM4 key).map bD), .sl (b.map bD)] (.w (.c (.fr 1 ((macM (rkK key) b).map bD)))) := by
  refine den_walk Try.func47 cf_rmcc rfl rfl ?_
  have t0 : (repL 16 (0 : UInt8)).take 16 = zero16 := rfl
  have hM := macM4_len h
  have t1 : (macM4 key).take 688 = macM4 key := List.take_of_length_le (by omega)
  have hah : aheadM b = (b.length + 15) / 16 - 1 := rfl
  have hm : ∀ i, i = aheadM b → macM (rkK key) b = encK (rkK key) (xorP (cbcM (rkK key) b i) (endM (rkK key) (b.drop (16 * i)))) := fun i e => by rw [e]; rfl
  have hr0 := renc_c G key zero16 h (by decide)
  have h1 := rdbb_c G (encK (rkK key) zero16) (by rw [encK_len]; decide)
  have s1 : dblL (encK (rkK key) zero16) = sub1 (rkK key) := rfl
  rw [s1] at h1
  rw [blockC_rk] at hr0
  have td : Int.tdiv ((b.length : Int) + 15) 16 = (((b.length + 15) / 16 : Nat) : Int) := rfl
  have step : ∀ i, i < aheadM b → ((b.drop (16 * i)).take 16).length = 16 := fun i hi => by rw [List.length_take, List.length_drop]; omega
  simp only [sf_rmcc, putAll, wx, wy, wz, stV, seval, IntWalk.iteOmega, IntWalk.toNatUp, reduceCtorEq, z16, allDn_bs, len_map, hM, take_map, t1]
  refine st_call hr0 (by simp only [wx, wy, wz, stV, seval, IntWalk.iteOmega, IntWalk.toNatUp, reduceCtorEq, take_map, t0, repL_len]) (.inr (fl_b _ _)) ?_
  simp only [wx, wy, wz, stV, seval, IntWalk.iteOmega, IntWalk.toNatUp, reduceCtorEq]
  refine st_call (h1) rfl (.inl rfl) ?_
  simp only [td, z16, wx, wy, wz, stV, seval, IntWalk.iteOmega, IntWalk.toNatUp, reduceCtorEq]
  by_cases hb0 : b.length = 0
  · have hz0 : aheadM b = 0 := by omega
    simp only [wx, wy, wz, stV, seval, IntWalk.iteOmega, IntWalk.toNatUp, reduceCtorEq, z16]
    refine loop_st (rcSt key b (0)) (fun i => aheadM b - i) (fun i => i ≤ aheadM b) 0 (Nat.zero_le _) ?_ ?_
    · refine ent_l (fun i => 184) ?_ ?_ rfl rfl <;> simp only [wx, wex, wez, stV, seval, IntWalk.iteOmega, IntWalk.toNatUp, reduceCtorEq, rcV]
    · intro i hi
      have hcl : (b.drop (16 * i)).length = b.length - 16 * i := List.length_drop
      have hsl := slice16 b i
      by_cases hlt : i < aheadM b
      · exact absurd hlt (by omega)
      · rw [hm i (by omega)]
        have hie : 16 * (aheadM b : Int) = 16 * (i : Int) := by omega
        have hl16 : (b.drop (16 * i)).length ≤ 16 := by omega
        have ht : (b.drop (16 * i)).take (b.length - 16 * i) = b.drop (16 * i) := List.take_of_length_le (by omega)
        have toN : (0 : Int).toNat = 16 * i := by omega
        have e1 := rjoin_c G [b.drop (16 * i)] (by simp) (by simp; omega)
        have hf : [b.drop (16 * i)].flatten = b.drop (16 * i) := by simp
        rw [hf] at e1
        have k1 := rxor_c G (cbcM (rkK key) b i) (endM (rkK key) (b.drop (16 * i))) (by rw [cbcM_len]; decide) (by rw [endM_len hl16]; decide)
        have k2 := renc_c G key (xorP (cbcM (rkK key) b i) (endM (rkK key) (b.drop (16 * i)))) h (by rw [xorP_len, cbcM_len])
        rw [blockC_rk] at k2
        have ht2 : (b.drop (16 * i)).take b.length = b.drop (16 * i) := List.take_of_length_le (by omega)
        generalize hc : b.drop (16 * i) = c at *
        have tc : c.take c.length = c := List.take_length
        by_cases h16 : c.length = 16
        · have tc16 : c.take 16 = c := by rw [← h16]; exact tc
          have q1 := rxor_c G c (sub1 (rkK key)) (by omega) (by rw [sub1_len]; decide)
          rw [endM_full _ h16] at k1 k2 ⊢
          rcases i with _ | i
          · have hz : cbcM (rkK key) b 0 = zero16 := rfl
            rw [hz] at k1 k2 ⊢
            simp only [lp_rmcc_0, rcSt, rcV, wx, wy, wz, stV, seval, IntWalk.iteOmega, IntWalk.toNatUp, reduceCtorEq, toN, hc, ht, ht2]
            refine st_call (e1) rfl (.inl rfl) ?_
            simp only [h16, wx, wy, wz, stV, seval, IntWalk.iteOmega, IntWalk.toNatUp, reduceCtorEq]
            refine st_call q1 (by simp only [wx, wy, wz, stV, seval, IntWalk.iteOmega, IntWalk.toNatUp, reduceCtorEq, take_map, tc16, h16]) (.inr (fl_b _ _)) ?_
            simp only [wx, wy, wz, stV, seval, IntWalk.iteOmega, IntWalk.toNatUp, reduceCtorEq, len_map, hM, take_map, t1]
            refine st_call k1 (by simp only [wx, wy, wz, stV, seval, IntWalk.iteOmega, IntWalk.toNatUp, reduceCtorEq, take_map, t0, repL_len]) (.inr (fl_b _ _)) ?_
            simp only [wx, wy, wz, stV, seval, IntWalk.iteOmega, IntWalk.toNatUp, reduceCtorEq]
            refine st_call (k2) rfl (.inl rfl) ?_
            simp only [wx, wy, wz, stV, seval, IntWalk.iteOmega, IntWalk.toNatUp, reduceCtorEq]
            exact ret_f1 (by simp only [wx, wy, wz, stV, seval, IntWalk.iteOmega, IntWalk.toNatUp, reduceCtorEq])
          · exact absurd hi (by omega)
        · have p1 := rpad_c G (c ++ [128]) 16 (by simp; omega)
          rw [padN_16] at p1
          have p2 := rdbb_c G (sub1 (rkK key)) (by rw [sub1_len]; decide)
          have s2 : dblL (sub1 (rkK key)) = sub2 (rkK key) := rfl
          rw [s2] at p2
          have p3 := rxor_c G (padL (c ++ [128])) (sub2 (rkK key)) (by rw [padL_short (by omega)]; decide) (by rw [sub2_len]; decide)
          have b128 : c.map bD ++ [D.int .u8 128] = (c ++ [128]).map bD := by rw [List.map_append]; rfl
          have tc2 : (c ++ [128]).take (c.length + 1) = c ++ [128] := List.take_of_length_le (by simp)
          rw [endM_part _ h16] at k1 k2 ⊢
          have lc : (c ++ [(128 : UInt8)]).length = c.length + 1 := by simp
          rcases i with _ | i
          · have hz : cbcM (rkK key) b 0 = zero16 := rfl
            rw [hz] at k1 k2 ⊢
            simp only [lp_rmcc_0, rcSt, rcV, wx, wy, wz, stV, seval, IntWalk.iteOmega, IntWalk.toNatUp, reduceCtorEq, toN, hc, ht, ht2]
            refine st_call (e1) rfl (.inl rfl) ?_
            simp only [srcV, b128, wx, wy, wz, stV, seval, IntWalk.iteOmega, IntWalk.toNatUp, reduceCtorEq]
            refine st_call p1 (by simp only [wx, wy, wz, stV, seval, IntWalk.iteOmega, IntWalk.toNatUp, reduceCtorEq, take_map, tc2, lc]) (.inr (fl_b _ _)) ?_
            simp only [wx, wy, wz, stV, seval, IntWalk.iteOmega, IntWalk.toNatUp, reduceCtorEq]
            refine st_call (p2) rfl (.inl rfl) ?_
            simp only [wx, wy, wz, stV, seval, IntWalk.iteOmega, IntWalk.toNatUp, reduceCtorEq]
            refine st_call (p3) rfl (.inl rfl) ?_
            simp only [len_map, hM, take_map, t1, wx, wy, wz, stV, seval, IntWalk.iteOmega, IntWalk.toNatUp, reduceCtorEq]
            refine st_call k1 (by simp only [wx, wy, wz, stV, seval, IntWalk.iteOmega, IntWalk.toNatUp, reduceCtorEq, take_map, t0, repL_len]) (.inr (fl_b _ _)) ?_
            simp only [wx, wy, wz, stV, seval, IntWalk.iteOmega, IntWalk.toNatUp, reduceCtorEq]
            refine st_call (k2) rfl (.inl rfl) ?_
            simp only [wx, wy, wz, stV, seval, IntWalk.iteOmega, IntWalk.toNatUp, reduceCtorEq]
            exact ret_f1 (by simp only [wx, wy, wz, stV, seval, IntWalk.iteOmega, IntWalk.toNatUp, reduceCtorEq])
          · exact absurd hi (by omega)
  · have hp : 0 < b.length := by omega
    simp only [wx, wy, wz, stV, seval, IntWalk.iteOmega, IntWalk.toNatUp, reduceCtorEq, z16]
    refine loop_st (rcSt key b (((((b.length + 15) / 16 : Nat) : Int) * 16 - 16))) (fun i => aheadM b - i) (fun i => i ≤ aheadM b) 0 (Nat.zero_le _) ?_ ?_
    · refine ent_l (fun i => 184) ?_ ?_ rfl rfl <;> simp only [wx, wex, wez, stV, seval, IntWalk.iteOmega, IntWalk.toNatUp, reduceCtorEq, rcV]
    · intro i hi
      have hcl : (b.drop (16 * i)).length = b.length - 16 * i := List.length_drop
      have hsl := slice16 b i
      by_cases hlt : i < aheadM b
      · have hT := step i hlt
        have hstep : encK (rkK key) (xorP (cbcM (rkK key) b i) ((b.drop (16 * i)).take 16)) = cbcM (rkK key) b (i + 1) := rfl
        have k1 := rxor_c G (cbcM (rkK key) b i) ((b.drop (16 * i)).take 16) (by rw [cbcM_len]; decide) (by omega)
        have k2 := renc_c G key (xorP (cbcM (rkK key) b i) ((b.drop (16 * i)).take 16)) h (by rw [xorP_len, cbcM_len])
        rw [blockC_rk, hstep] at k2
        rcases i with _ | i
        · have hz : cbcM (rkK key) b 0 = zero16 := rfl
          rw [hz] at k1 k2
          simp only [Nat.mul_zero, List.drop_zero, Nat.zero_add, Nat.sub_zero] at hsl
          simp only [lp_rmcc_0, rcSt, rcV, wx, wy, wz, stV, seval, IntWalk.iteOmega, IntWalk.toNatUp, reduceCtorEq, len_map, hM, take_map, t1, hsl]
          refine st_call k1 (by simp only [wx, wy, wz, stV, seval, IntWalk.iteOmega, IntWalk.toNatUp, reduceCtorEq, take_map, t0, repL_len]) (.inr (fl_b _ _)) ?_
          simp only [wx, wy, wz, stV, seval, IntWalk.iteOmega, IntWalk.toNatUp, reduceCtorEq]
          refine st_call (k2) rfl (.inl rfl) ?_
          simp only [wx, wy, wz, stV, seval, IntWalk.iteOmega, IntWalk.toNatUp, reduceCtorEq]
          refine lop_next (0 + 1) (by omega) (by omega) (ent_l (fun i => i) ?_ ?_ rfl rfl) <;> simp only [wx, wex, wez, stV, seval, IntWalk.iteOmega, IntWalk.toNatUp, reduceCtorEq, rcV]
        · simp only [lp_rmcc_0, rcSt, rcV, wx, wy, wz, stV, seval, IntWalk.iteOmega, IntWalk.toNatUp, reduceCtorEq, len_map, hM, take_map, t1, hsl]
          refine st_call (k1) rfl (.inl rfl) ?_
          simp only [wx, wy, wz, stV, seval, IntWalk.iteOmega, IntWalk.toNatUp, reduceCtorEq]
          refine st_call (k2) rfl (.inl rfl) ?_
          simp only [wx, wy, wz, stV, seval, IntWalk.iteOmega, IntWalk.toNatUp, reduceCtorEq]
          refine lop_next (i + 1 + 1) (by omega) (by omega) (ent_l (fun i => i) ?_ ?_ rfl rfl) <;> simp only [wx, wex, wez, stV, seval, IntWalk.iteOmega, IntWalk.toNatUp, reduceCtorEq, rcV]
          rw [show (16 * ((i : Int) + 1) + 16) = 16 * ((i : Int) + 1 + 1) by omega]
      · rw [hm i (by omega)]
        have hie : 16 * (aheadM b : Int) = 16 * (i : Int) := by omega
        have hl16 : (b.drop (16 * i)).length ≤ 16 := by omega
        have ht : (b.drop (16 * i)).take (b.length - 16 * i) = b.drop (16 * i) := List.take_of_length_le (by omega)
        have toN : (((((b.length + 15) / 16 : Nat) : Int) * 16 - 16) : Int).toNat = 16 * i := by omega
        have e1 := rjoin_c G [b.drop (16 * i)] (by simp) (by simp; omega)
        have hf : [b.drop (16 * i)].flatten = b.drop (16 * i) := by simp
        rw [hf] at e1
        have k1 := rxor_c G (cbcM (rkK key) b i) (endM (rkK key) (b.drop (16 * i))) (by rw [cbcM_len]; decide) (by rw [endM_len hl16]; decide)
        have k2 := renc_c G key (xorP (cbcM (rkK key) b i) (endM (rkK key) (b.drop (16 * i)))) h (by rw [xorP_len, cbcM_len])
        rw [blockC_rk] at k2
        have ht2 : (b.drop (16 * i)).take b.length = b.drop (16 * i) := List.take_of_length_le (by omega)
        generalize hc : b.drop (16 * i) = c at *
        have tc : c.take c.length = c := List.take_length
        by_cases h16 : c.length = 16
        · have tc16 : c.take 16 = c := by rw [← h16]; exact tc
          have q1 := rxor_c G c (sub1 (rkK key)) (by omega) (by rw [sub1_len]; decide)
          rw [endM_full _ h16] at k1 k2 ⊢
          rcases i with _ | i
          · have hz : cbcM (rkK key) b 0 = zero16 := rfl
            rw [hz] at k1 k2 ⊢
            simp only [lp_rmcc_0, rcSt, rcV, wx, wy, wz, stV, seval, IntWalk.iteOmega, IntWalk.toNatUp, reduceCtorEq, toN, hc, ht, ht2]
            refine st_call (e1) rfl (.inl rfl) ?_
            simp only [h16, wx, wy, wz, stV, seval, IntWalk.iteOmega, IntWalk.toNatUp, reduceCtorEq]
            refine st_call q1 (by simp only [wx, wy, wz, stV, seval, IntWalk.iteOmega, IntWalk.toNatUp, reduceCtorEq, take_map, tc16, h16]) (.inr (fl_b _ _)) ?_
            simp only [wx, wy, wz, stV, seval, IntWalk.iteOmega, IntWalk.toNatUp, reduceCtorEq, len_map, hM, take_map, t1]
            refine st_call k1 (by simp only [wx, wy, wz, stV, seval, IntWalk.iteOmega, IntWalk.toNatUp, reduceCtorEq, take_map, t0, repL_len]) (.inr (fl_b _ _)) ?_
            simp only [wx, wy, wz, stV, seval, IntWalk.iteOmega, IntWalk.toNatUp, reduceCtorEq]
            refine st_call (k2) rfl (.inl rfl) ?_
            simp only [wx, wy, wz, stV, seval, IntWalk.iteOmega, IntWalk.toNatUp, reduceCtorEq]
            exact ret_f1 (by simp only [wx, wy, wz, stV, seval, IntWalk.iteOmega, IntWalk.toNatUp, reduceCtorEq])
          · simp only [lp_rmcc_0, rcSt, rcV, wx, wy, wz, stV, seval, IntWalk.iteOmega, IntWalk.toNatUp, reduceCtorEq, toN, hc, ht, ht2]
            refine st_call (e1) rfl (.inl rfl) ?_
            simp only [h16, wx, wy, wz, stV, seval, IntWalk.iteOmega, IntWalk.toNatUp, reduceCtorEq]
            refine st_call q1 (by simp only [wx, wy, wz, stV, seval, IntWalk.iteOmega, IntWalk.toNatUp, reduceCtorEq, take_map, tc16, h16]) (.inr (fl_b _ _)) ?_
            simp only [wx, wy, wz, stV, seval, IntWalk.iteOmega, IntWalk.toNatUp, reduceCtorEq, len_map, hM, take_map, t1]
            refine st_call (k1) rfl (.inl rfl) ?_
            simp only [wx, wy, wz, stV, seval, IntWalk.iteOmega, IntWalk.toNatUp, reduceCtorEq]
            refine st_call (k2) rfl (.inl rfl) ?_
            simp only [wx, wy, wz, stV, seval, IntWalk.iteOmega, IntWalk.toNatUp, reduceCtorEq]
            exact ret_f1 (by simp only [wx, wy, wz, stV, seval, IntWalk.iteOmega, IntWalk.toNatUp, reduceCtorEq])
        · have p1 := rpad_c G (c ++ [128]) 16 (by simp; omega)
          rw [padN_16] at p1
          have p2 := rdbb_c G (sub1 (rkK key)) (by rw [sub1_len]; decide)
          have s2 : dblL (sub1 (rkK key)) = sub2 (rkK key) := rfl
          rw [s2] at p2
          have p3 := rxor_c G (padL (c ++ [128])) (sub2 (rkK key)) (by rw [padL_short (by omega)]; decide) (by rw [sub2_len]; decide)
          have b128 : c.map bD ++ [D.int .u8 128] = (c ++ [128]).map bD := by rw [List.map_append]; rfl
          have tc2 : (c ++ [128]).take (c.length + 1) = c ++ [128] := List.take_of_length_le (by simp)
          rw [endM_part _ h16] at k1 k2 ⊢
          have lc : (c ++ [(128 : UInt8)]).length = c.length + 1 := by simp
          rcases i with _ | i
          · have hz : cbcM (rkK key) b 0 = zero16 := rfl
            rw [hz] at k1 k2 ⊢
            simp only [lp_rmcc_0, rcSt, rcV, wx, wy, wz, stV, seval, IntWalk.iteOmega, IntWalk.toNatUp, reduceCtorEq, toN, hc, ht, ht2]
            refine st_call (e1) rfl (.inl rfl) ?_
            simp only [srcV, b128, wx, wy, wz, stV, seval, IntWalk.iteOmega, IntWalk.toNatUp, reduceCtorEq]
            refine st_call p1 (by simp only [wx, wy, wz, stV, seval, IntWalk.iteOmega, IntWalk.toNatUp, reduceCtorEq, take_map, tc2, lc]) (.inr (fl_b _ _)) ?_
            simp only [wx, wy, wz, stV, seval, IntWalk.iteOmega, IntWalk.toNatUp, reduceCtorEq]
            refine st_call (p2) rfl (.inl rfl) ?_
            simp only [wx, wy, wz, stV, seval, IntWalk.iteOmega, IntWalk.toNatUp, reduceCtorEq]
            refine st_call (p3) rfl (.inl rfl) ?_
            simp only [len_map, hM, take_map, t1, wx, wy, wz, stV, seval, IntWalk.iteOmega, IntWalk.toNatUp, reduceCtorEq]
            refine st_call k1 (by simp only [wx, wy, wz, stV, seval, IntWalk.iteOmega, IntWalk.toNatUp, reduceCtorEq, take_map, t0, repL_len]) (.inr (fl_b _ _)) ?_
            simp only [wx, wy, wz, stV, seval, IntWalk.iteOmega, IntWalk.toNatUp, reduceCtorEq]
            refine st_call (k2) rfl (.inl rfl) ?_
            simp only [wx, wy, wz, stV, seval, IntWalk.iteOmega, IntWalk.toNatUp, reduceCtorEq]
            exact ret_f1 (by simp only [wx, wy, wz, stV, seval, IntWalk.iteOmega, IntWalk.toNatUp, reduceCtorEq])
          · simp only [lp_rmcc_0, rcSt, rcV, wx, wy, wz, stV, seval, IntWalk.iteOmega, IntWalk.toNatUp, reduceCtorEq, toN, hc, ht, ht2]
            refine st_call (e1) rfl (.inl rfl) ?_
            simp only [srcV, b128, wx, wy, wz, stV, seval, IntWalk.iteOmega, IntWalk.toNatUp, reduceCtorEq]
            refine st_call p1 (by simp only [wx, wy, wz, stV, seval, IntWalk.iteOmega, IntWalk.toNatUp, reduceCtorEq, take_map, tc2, lc]) (.inr (fl_b _ _)) ?_
            simp only [wx, wy, wz, stV, seval, IntWalk.iteOmega, IntWalk.toNatUp, reduceCtorEq]
            refine st_call (p2) rfl (.inl rfl) ?_
            simp only [wx, wy, wz, stV, seval, IntWalk.iteOmega, IntWalk.toNatUp, reduceCtorEq]
            refine st_call (p3) rfl (.inl rfl) ?_
            simp only [len_map, hM, take_map, t1, wx, wy, wz, stV, seval, IntWalk.iteOmega, IntWalk.toNatUp, reduceCtorEq]
            refine st_call (k1) rfl (.inl rfl) ?_
            simp only [wx, wy, wz, stV, seval, IntWalk.iteOmega, IntWalk.toNatUp, reduceCtorEq]
            refine st_call (k2) rfl (.inl rfl) ?_
            simp only [wx, wy, wz, stV, seval, IntWalk.iteOmega, IntWalk.toNatUp, reduceCtorEq]
            exact ret_f1 (by simp only [wx, wy, wz, stV, seval, IntWalk.iteOmega, IntWalk.toNatUp, reduceCtorEq])
theorem rmcc_c (G : Glob) (key b : List UInt8) (h : key.length = 16) (hb : b.length ≤ 70000) : Den Try.prog G 47 [.agg ((macM4 key).map bD), .sl (b.map bD)] (.w (.c (.d (.sl ((macM (rkK key) b).map bD))))) := den_ro (rmcc_f G key b h hb)
def rv0St (key : List UInt8) (l : List (List UInt8)) (i : Nat) : St := ⟨ofL [(0, .w (.c (.d (.sl (key.map bD))))), (1, .w (.c (.d (.sl (l.map fun l => D.sl (l.map bD)))))), (6, .w (.c (.d (.int .i64 (i : Int)))))], hL [], uL []⟩
def rv1St (key : List UInt8) (l : List (List UInt8)) (i : Nat) : St := ⟨ofL [(1, .w (.c (.d (.sl (l.map fun l => D.sl (l.map bD)))))), (7, .w (.c (.ptr 2 1 0 0))), (9, .w (.c (.d (.sl ((vecD (rkK key) l i).map bD))))), (10, .w (.c (.d (.int .i64 (i : Int)))))], hL [(1, .row 1 ((repL 16 (0 : UInt8)).map bD)), (2, .box ((macM4 key).map bC))], uL [1, 2]⟩
theorem one16 : (repL 16 (0 : UInt8)).set 15 1 = putL 1 16 := by decide
theorem vecM_long (rk : List UInt8) {l : List (List UInt8)} {s d : List UInt8} (h : l.length ≠ 0) (hs : l.getD (l.length - 1) [] = s) (hd : vecD rk l (l.length - 1) = d) (h16 : 16 ≤ s.length) : vecM rk l = macM rk (s.take (s.length - 16) ++ xorP (s.drop (s.length - 16)) d) := by
  rw [vecM_some rk h, hs, hd, if_pos h16]
theorem vecM_short (rk : List UInt8) {l : List (List UInt8)} {s d : List UInt8} (h : l.length ≠ 0) (hs : l.getD (l.length - 1) [] = s) (hd : vecD rk l (l.length - 1) = d) (h16 : s.length < 16) : vecM rk l = macM rk (xorP (dblL d) (padL (s ++ [128]))) := by
  rw [vecM_some rk h, hs, hd, if_neg (by omega)]
def lp_rvctr_0 : SCode :=
  .seq (.seq (.reg [⟨(some 19), .mv (.t 6), none⟩,
    ⟨(some 20), .mv (.t 1), none⟩,
    ⟨(some 21), .len (.t 20), none⟩,
    ⟨(some 22), .bin .lss (.t 19) (.t 21), none⟩])
  (.cond (.t 22) (.skip)
   (.exit 0)))
  (.seq (.block 1 (.seq (.reg [⟨(some 25), .mv (.t 1), none⟩,
     ⟨(some 26), .mv (.t 6), none⟩,
     ⟨(some 27), .idxSl 1 (.t 25) (.t 26), none⟩,
     ⟨(some 28), .load .sc (.t 27), none⟩,
     ⟨(some 29), .len (.t 28), none⟩,
     ⟨(some 30), .bin .gtr (.t 29) (.k (.c (.d (.int .i64 65535)))), none⟩])
   (.cond (.t 30) (.seq (.reg [⟨(some 4), .mv (.k (.c .nil)), none⟩,
      ⟨(some 5), .mv (.k (.c (.d (.int .i64 2)))), none⟩])
    (.ret))
    (.skip))))
  (.reg [⟨(some 23), .mv (.t 6), none⟩,
    ⟨(some 24), .bin .add (.t 23) (.k (.c (.d (.int .i64 1)))), none⟩,
    ⟨(some 6), .mv (.t 24), none⟩]))
def lp_rvctr_1 : SCode :=
  .seq (.seq (.reg [⟨(some 45), .mv (.t 10), none⟩,
    ⟨(some 46), .mv (.t 1), none⟩,
    ⟨(some 47), .len (.t 46), none⟩,
    ⟨(some 48), .bin .sub (.t 47) (.k (.c (.d (.int .i64 1)))), none⟩,
    ⟨(some 49), .bin .lss (.t 45) (.t 48), none⟩])
  (.cond (.t 49) (.skip)
   (.exit 2)))
  (.seq (.block 3 (.reg [⟨(some 52), .mv (.t 9), none⟩,
     ⟨(some 53), .call 49 [(.t 52)] none, none⟩,
     ⟨(some 54), .loadB (.ag 688) (.t 7), none⟩,
     ⟨(some 55), .mv (.t 1), none⟩,
     ⟨(some 56), .mv (.t 10), none⟩,
     ⟨(some 57), .idxSl 1 (.t 55) (.t 56), none⟩,
     ⟨(some 58), .load .sc (.t 57), none⟩,
     ⟨(some 59), .call 47 [(.t 54), (.t 58)] none, none⟩,
     ⟨(some 60), .call 48 [(.t 53), (.t 59)] none, none⟩,
     ⟨(some 9), .mv (.t 60), none⟩]))
  (.reg [⟨(some 50), .mv (.t 10), none⟩,
    ⟨(some 51), .bin .add (.t 50) (.k (.c (.d (.int .i64 1)))), none⟩,
    ⟨(some 10), .mv (.t 51), none⟩]))
def sf_rvctr : SFn := ⟨2, 96,
  .seq (.reg [⟨(some 4), .mv (.k (.c .nil)), none⟩,
    ⟨(some 5), .mv (.k (.c (.d (.int .i64 0)))), none⟩])
  (.seq (.seq (.reg [⟨(some 13), .mv (.t 0), none⟩,
    ⟨(some 14), .len (.t 13), none⟩,
    ⟨(some 15), .bin .neq (.t 14) (.k (.c (.d (.int .i64 16)))), none⟩])
  (.cond (.t 15) (.seq (.reg [⟨(some 4), .mv (.k (.c .nil)), none⟩,
     ⟨(some 5), .mv (.k (.c (.d (.int .i64 5)))), none⟩])
   (.ret))
   (.skip)))
  (.seq (.seq (.reg [⟨(some 16), .mv (.t 1), none⟩,
    ⟨(some 17), .len (.t 16), none⟩,
    ⟨(some 18), .bin .gtr (.t 17) (.k (.c (.d (.int .i64 17)))), none⟩])
  (.cond (.t 18) (.seq (.reg [⟨(some 4), .mv (.k (.c .nil)), none⟩,
     ⟨(some 5), .mv (.k (.c (.d (.int .i64 8)))), none⟩])
   (.ret))
   (.skip)))
  (.seq (.seq (.reg [⟨(some 6), .mv (.k (.c (.d (.int .i64 0)))), none⟩])
  (.block 0 (.loop lp_rvctr_0)))
  (.seq (.reg [⟨(some 31), .mv (.t 0), none⟩,
    ⟨(some 32), .call 46 [(.t 31)] none, none⟩,
    ⟨(some 7), .alloc (repL 688 (.d (.int .u8 0))), none⟩,
    ⟨none, .store (.ag 688) (.t 7) (.t 32), none⟩])
  (.seq (.reg [⟨(some 33), .make 1 1 (.int .u8 0) (.k (.c (.d (.int .i64 16)))) (.k (.c (.d (.int .i64 16)))), none⟩,
    ⟨(some 8), .mv (.t 33), none⟩])
  (.seq (.seq (.reg [⟨(some 34), .mv (.t 1), none⟩,
    ⟨(some 35), .len (.t 34), none⟩,
    ⟨(some 36), .bin .eql (.t 35) (.k (.c (.d (.int .i64 0)))), none⟩])
  (.cond (.t 36) (.seq (.reg [⟨(some 37), .mv (.t 8), none⟩,
     ⟨(some 38), .idxSl 1 (.t 37) (.k (.c (.d (.int .i64 15)))), none⟩,
     ⟨none, .store .sc (.t 38) (.k (.c (.d (.int .u8 1)))), none⟩])
   (.seq (.reg [⟨(some 39), .loadB (.ag 688) (.t 7), none⟩,
     ⟨(some 40), .mv (.t 8), none⟩,
     ⟨(some 41), .call 47 [(.t 39), (.t 40)] (some (0, 1)), none⟩,
     ⟨(some 4), .mv (.t 41), none⟩,
     ⟨(some 5), .mv (.k (.c (.d (.int .i64 0)))), none⟩])
   (.ret)))
   (.skip)))
  (.seq (.reg [⟨(some 42), .loadB (.ag 688) (.t 7), none⟩,
    ⟨(some 43), .mv (.t 8), none⟩,
    ⟨(some 44), .call 47 [(.t 42), (.t 43)] none, none⟩,
    ⟨(some 9), .mv (.t 44), none⟩])
  (.seq (.seq (.reg [⟨(some 10), .mv (.k (.c (.d (.int .i64 0)))), none⟩])
  (.block 2 (.loop lp_rvctr_1)))
  (.seq (.reg [⟨(some 61), .mv (.t 1), none⟩,
    ⟨(some 62), .mv (.t 1), none⟩,
    ⟨(some 63), .len (.t 62), none⟩,
    ⟨(some 64), .bin .sub (.t 63) (.k (.c (.d (.int .i64 1)))), none⟩,
    ⟨(some 65), .idxSl 1 (.t 61) (.t 64), none⟩,
    ⟨(some 66), .load .sc (.t 65), none⟩,
    ⟨(some 11), .mv (.t 66), none⟩])
  (.seq (.seq (.reg [⟨(some 67), .mv (.t 11), none⟩,
    ⟨(some 68), .len (.t 67), none⟩,
    ⟨(some 69), .bin .geq (.t 68) (.k (.c (.d (.int .i64 16)))), none⟩])
  (.cond (.t 69) (.seq (.reg [⟨(some 70), .mv (.t 11), none⟩,
     ⟨(some 71), .len (.t 70), none⟩,
     ⟨(some 72), .bin .sub (.t 71) (.k (.c (.d (.int .i64 16)))), none⟩,
     ⟨(some 12), .mv (.t 72), none⟩])
   (.seq (.reg [⟨(some 73), .loadB (.ag 688) (.t 7), none⟩,
     ⟨(some 74), .mv (.t 11), none⟩,
     ⟨(some 75), .mv (.t 12), none⟩,
     ⟨(some 76), .slice 1 (.t 74) none (some (.t 75)) none, none⟩,
     ⟨(some 77), .mv (.t 11), none⟩,
     ⟨(some 78), .mv (.t 12), none⟩,
     ⟨(some 79), .slice 1 (.t 77) (some (.t 78)) none none, none⟩,
     ⟨(some 80), .mv (.t 9), none⟩,
     ⟨(some 81), .call 48 [(.t 79), (.t 80)] none, none⟩,
     ⟨(some 82), .bldSl false 2 1 (.sl []) [(0, (.t 76)), (1, (.t 81))], none⟩,
     ⟨(some 83), .call 19 [(.t 82)] none, none⟩,
     ⟨(some 84), .call 47 [(.t 73), (.t 83)] (some (0, 1)), none⟩,
     ⟨(some 4), .mv (.t 84), none⟩,
     ⟨(some 5), .mv (.k (.c (.d (.int .i64 0)))), none⟩])
   (.ret)))
   (.skip)))
  (.seq (.reg [⟨(some 85), .loadB (.ag 688) (.t 7), none⟩,
    ⟨(some 86), .mv (.t 9), none⟩,
    ⟨(some 87), .call 49 [(.t 86)] none, none⟩,
    ⟨(some 88), .mv (.t 11), none⟩,
    ⟨(some 89), .bldSl false 1 1 (.sl []) [(0, (.t 88))], none⟩,
    ⟨(some 90), .call 19 [(.t 89)] (some (0, 1)), none⟩,
    ⟨(some 91), .bldSl false 1 1 (.int .u8 0) [(0, (.k (.c (.d (.int .u8 128)))))], none⟩,
    ⟨(some 92), .app false 1 1 (.t 90) (.t 91), none⟩,
    ⟨(some 93), .call 50 [(.t 92), (.k (.c (.d (.int .i64 16))))] none, none⟩,
    ⟨(some 94), .call 48 [(.t 87), (.t 93)] none, none⟩,
    ⟨(some 95), .call 47 [(.t 85), (.t 94)] (some (0, 1)), none⟩,
    ⟨(some 4), .mv (.t 95), none⟩,
    ⟨(some 5), .mv (.k (.c (.d (.int .i64 0)))), none⟩])
  (.ret)))))))))))),
  [(4, none), (5, none)]⟩
theorem cf_rvctr : compFn Try.prog { own := [41, 84, 90, 95], comp := [], frz := [], nils := [], bx := [39, 42, 54, 73, 85] } Try.f28 = some sf_rvctr := by kernel_rfl
set_option maxRecDepth 20000 in
set_option maxHeartbeats 6400000 in
theorem rvctr_f (G : Glob) (key : List UInt8) (l : List (List UInt8)) (hk : key.length ≤ 9223372036854775807) (hl : l.length ≤ 9223372036854775807) (hb : ∀ x ∈ l, x.length ≤ 9223372036854775807) : Den Try.prog G 28 [.sl (key.map bD), .sl (l.map fun l => D.sl (l.map bD))] (.tup [.c (.fr 1 ((vctV key l).map bD)), .c (.d (.int .i64 (vctE key l)))]) := by
  refine den_walk Try.func28 cf_rvctr rfl rfl ?_
  unfold vctV vctE
  by_cases h : key.length = 16
  · by_cases h2 : l.length ≤ 17
    · rw [if_neg (by omega : ¬ key.length ≠ 16), if_neg (by omega : ¬ 17 < l.length)]
      simp only [sf_rvctr, putAll, wx, wy, wz, stV, seval, IntWalk.iteOmega, IntWalk.toNatUp, reduceCtorEq]
      refine loop_st (rv0St key l) (fun i => l.length - i) (fun i => i ≤ l.length ∧ ∀ j, j < i → (l.getD j []).length ≤ 65535) 0 ⟨Nat.zero_le _, fun j hj => by omega⟩ ?_ ?_
      · refine ent_l (fun i => 0) ?_ ?_ rfl rfl <;> simp only [wx, wex, wez, stV, seval, IntWalk.iteOmega, IntWalk.toNatUp, reduceCtorEq] <;> rfl
      · rintro i ⟨hi, hok⟩
        by_cases hlt : i < l.length
        · have g1 := getL_lt hlt
          have hx := hb _ (getL_mem hlt)
          by_cases hlong : 65535 < (l.getD i []).length
          · have hL := longL_yes hlt hlong
            rw [hL, if_neg (by simp), if_pos rfl]
            simp only [lp_rvctr_0, rv0St, wx, wy, wz, stV, seval, IntWalk.iteOmega, IntWalk.toNatUp, reduceCtorEq, get_map, g1]
            exact ret_f2 (by simp only [wx, wy, wz, stV, seval, IntWalk.iteOmega, IntWalk.toNatUp, reduceCtorEq]) (by simp only [wx, wy, wz, stV, seval, IntWalk.iteOmega, IntWalk.toNatUp, reduceCtorEq])
          · simp only [lp_rvctr_0, rv0St, wx, wy, wz, stV, seval, IntWalk.iteOmega, IntWalk.toNatUp, reduceCtorEq, get_map, g1]
            refine lop_next (i + 1) (by omega) ⟨by omega, fun j hj => ?_⟩ (ent_l (fun i => i) ?_ ?_ rfl rfl)
            · rcases Nat.lt_or_ge j i with h | h
              · exact hok j h
              · obtain rfl : j = i := by omega
                omega
            all_goals simp only [wx, wex, wez, stV, seval, IntWalk.iteOmega, IntWalk.toNatUp, reduceCtorEq]
        · have hL := longL_no (l := l) (fun j hj => hok j (by omega))
          rw [hL, if_pos ⟨h, h2, rfl⟩, if_neg (by simp)]
          have hall := longL_all hL
          have hM := macM4_len h
          have r4 : List.drop 688 (repL 688 (0 : UInt8)) = [] := List.drop_eq_nil_of_le (by rw [repL_len]; omega)
          have t0 : (repL 16 (0 : UInt8)).take 16 = zero16 := rfl
          have t1 : (macM4 key).take 688 = macM4 key := List.take_of_length_le (by omega)
          simp only [lp_rvctr_0, rv0St, wx, wy, wz, stV, seval, IntWalk.iteOmega, IntWalk.toNatUp, reduceCtorEq, repL_bC]
          have k0 := rmcc_f G key zero16 h (by decide)
          by_cases h0 : l.length = 0
          · rw [vecM_none _ h0]
            have z3 : 15 < (repL 16 (0 : UInt8)).length := by rw [repL_len]; decide
            have z4 : ((repL 16 (0 : UInt8)).map bD).set 15 (D.int .u8 1) = (putL 1 16).map bD := by rw [← one16]; exact set_map bD _ 15 1
            have z5 : (putL 1 16).take 16 = putL 1 16 := List.take_of_length_le (by rw [putL_length]; decide)
            have z6 : (putL 1 16).length = 16 := putL_length _ _
            refine st_call (prep_c G key h) rfl (.inl rfl) ?_
            simp only [len_map, hM, repL_len, map_C, drop_map, app_map, r4, List.append_nil, z16, stO_bs z3 (one_int _ _), z4, take_map, t1, allD_bs, wx, wy, wz, stV, seval, IntWalk.iteOmega, IntWalk.toNatUp, reduceCtorEq]
            have k1 := rmcc_f G key (putL 1 16) h (by rw [putL_length]; decide)
            refine st_call k1 (by simp only [wx, wy, wz, stV, seval, IntWalk.iteOmega, IntWalk.toNatUp, reduceCtorEq, take_map, z5, repL_len]) (.inr (fl_b _ _)) ?_
            simp only [wx, wy, wz, stV, seval, IntWalk.iteOmega, IntWalk.toNatUp, reduceCtorEq]
            exact ret_f2 (by simp only [wx, wy, wz, stV, seval, IntWalk.iteOmega, IntWalk.toNatUp, reduceCtorEq]) (by simp only [wx, wy, wz, stV, seval, IntWalk.iteOmega, IntWalk.toNatUp, reduceCtorEq])
          · refine st_call (prep_c G key h) rfl (.inl rfl) ?_
            simp only [len_map, hM, repL_len, map_C, drop_map, app_map, r4, List.append_nil, z16, take_map, t1, allD_bs, wx, wy, wz, stV, seval, IntWalk.iteOmega, IntWalk.toNatUp, reduceCtorEq]
            refine st_call k0 (by simp only [wx, wy, wz, stV, seval, IntWalk.iteOmega, IntWalk.toNatUp, reduceCtorEq, take_map, t0, repL_len]) (.inr (fl_b _ _)) ?_
            simp only [wx, wy, wz, stV, seval, IntWalk.iteOmega, IntWalk.toNatUp, reduceCtorEq]
            refine loop_st (rv1St key l) (fun i => l.length - 1 - i) (fun i => i ≤ l.length - 1) 0 (Nat.zero_le _) ?_ ?_
            · refine ent_l (fun i => if i = 1 then 264 else 56) ?_ ?_ rfl (by simp [V.ids, W.ids, C.ids, Ob.ids, ids_bC]) <;> simp only [wx, wex, wez, stV, seval, IntWalk.iteOmega, IntWalk.toNatUp, reduceCtorEq, ren_bC, ids_bC, vecD] <;> rfl
            · intro i hi
              have hd := vecD_len (rkK key) l i
              by_cases hlt : i < l.length - 1
              · have g1 := getL_lt (l := l) (j := i) (by omega)
                have hx := hall _ (getL_mem (l := l) (j := i) (by omega))
                have hs : xorP (dblL (vecD (rkK key) l i)) (macM (rkK key) (l.getD i [])) = vecD (rkK key) l (i + 1) := rfl
                have h1 := rdbb_c G (vecD (rkK key) l i) (by omega)
                have h2 := rmcc_c G key (l.getD i []) h (by omega)
                have h3 := rxor_c G (dblL (vecD (rkK key) l i)) (macM (rkK key) (l.getD i [])) (by rw [dblL_len hd]; decide) (by rw [macM_len]; decide)
                rw [hs] at h3
                simp only [lp_rvctr_1, rv1St, wx, wy, wz, stV, seval, IntWalk.iteOmega, IntWalk.toNatUp, reduceCtorEq, len_map, hM, take_map, t1, allD_bs, get_map, g1]
                refine st_call (h1) rfl (.inl rfl) ?_
                simp only [len_map, hM, take_map, t1, allD_bs, get_map, g1, wx, wy, wz, stV, seval, IntWalk.iteOmega, IntWalk.toNatUp, reduceCtorEq]
                refine st_call (h2) rfl (.inl rfl) ?_
                simp only [wx, wy, wz, stV, seval, IntWalk.iteOmega, IntWalk.toNatUp, reduceCtorEq]
                refine st_call (h3) rfl (.inl rfl) ?_
                simp only [wx, wy, wz, stV, seval, IntWalk.iteOmega, IntWalk.toNatUp, reduceCtorEq]
                refine lop_next (i + 1) (by omega) (by omega) (ent_l (fun i => i) ?_ ?_ rfl (by simp [V.ids, W.ids, C.ids, Ob.ids, ids_bC])) <;> simp only [wx, wex, wez, stV, seval, IntWalk.iteOmega, IntWalk.toNatUp, reduceCtorEq, ren_bC, ids_bC]
              · obtain rfl : i = l.length - 1 := by omega
                have g1 := getL_lt (l := l) (j := l.length - 1) (by omega)
                have hx := hall _ (getL_mem (l := l) (j := l.length - 1) (by omega))
                have e1 : (((l.length : Int) - 1).toNat) = l.length - 1 := by omega
                generalize hs : l.getD (l.length - 1) [] = s at *
                generalize hdd : vecD (rkK key) l (l.length - 1) = d at *
                have e2 : (((s.length : Int) - 16).toNat) = s.length - 16 := by omega
                by_cases h16 : 16 ≤ s.length
                · rw [vecM_long _ h0 hs hdd h16]
                  have hl : (s.drop (s.length - 16)).length = 16 := by rw [List.length_drop]; omega
                  have ht : (s.drop (s.length - 16)).take (s.length - (s.length - 16)) = s.drop (s.length - 16) := List.take_of_length_le (by omega)
                  have hj := rjoin_c G [s.take (s.length - 16), xorP (s.drop (s.length - 16)) d] (by simp) (by simp [xorP_len]; omega)
                  have hf : [s.take (s.length - 16), xorP (s.drop (s.length - 16)) d].flatten = s.take (s.length - 16) ++ xorP (s.drop (s.length - 16)) d := by simp
                  rw [hf] at hj
                  have k3 := rmcc_f G key (s.take (s.length - 16) ++ xorP (s.drop (s.length - 16)) d) h (by rw [List.length_append, xorP_len, ← List.length_append, List.take_append_drop]; omega)
                  simp only [lp_rvctr_1, rv1St, hdd, wx, wy, wz, stV, seval, IntWalk.iteOmega, IntWalk.toNatUp, reduceCtorEq, len_map, hM, take_map, t1, allD_bs, get_map, g1, e1, e2, ht]
                  refine st_call (rxor_c G (s.drop (s.length - 16)) d (by omega) (by omega)) rfl (.inl rfl) ?_
                  simp only [wx, wy, wz, stV, seval, IntWalk.iteOmega, IntWalk.toNatUp, reduceCtorEq]
                  refine st_call (hj) rfl (.inl rfl) ?_
                  simp only [wx, wy, wz, stV, seval, IntWalk.iteOmega, IntWalk.toNatUp, reduceCtorEq]
                  refine st_call (k3) rfl (.inl rfl) ?_
                  simp only [wx, wy, wz, stV, seval, IntWalk.iteOmega, IntWalk.toNatUp, reduceCtorEq]
                  exact ret_f2 (by simp only [wx, wy, wz, stV, seval, IntWalk.iteOmega, IntWalk.toNatUp, reduceCtorEq]) (by simp only [wx, wy, wz, stV, seval, IntWalk.iteOmega, IntWalk.toNatUp, reduceCtorEq])
                · have h15 : s.length < 16 := by omega
                  rw [vecM_short _ h0 hs hdd h15]
                  have hj := rjoin_c G [s] (by simp) (by simp; omega)
                  have hf : [s].flatten = s := by simp
                  rw [hf] at hj
                  have p1 := rpad_c G (s ++ [128]) 16 (by simp; omega)
                  rw [padN_16] at p1
                  have b128 : s.map bD ++ [D.int .u8 128] = (s ++ [128]).map bD := by rw [List.map_append]; rfl
                  have tc2 : (s ++ [128]).take (s.length + 1) = s ++ [128] := List.take_of_length_le (by simp)
                  have lc : (s ++ [(128 : UInt8)]).length = s.length + 1 := by simp
                  have p3 := rxor_c G (dblL d) (padL (s ++ [128])) (by rw [dblL_len hd]; decide) (by rw [padL_short h15]; decide)
                  have k3 := rmcc_f G key (xorP (dblL d) (padL (s ++ [128]))) h (by rw [xorP_len, dblL_len hd]; decide)
                  simp only [lp_rvctr_1, rv1St, hdd, wx, wy, wz, stV, seval, IntWalk.iteOmega, IntWalk.toNatUp, reduceCtorEq, len_map, hM, take_map, t1, allD_bs, get_map, g1, e1]
                  refine st_call (rdbb_c G d (by omega)) rfl (.inl rfl) ?_
                  simp only [wx, wy, wz, stV, seval, IntWalk.iteOmega, IntWalk.toNatUp, reduceCtorEq]
                  refine st_call (hj) rfl (.inl rfl) ?_
                  simp only [srcV, b128, wx, wy, wz, stV, seval, IntWalk.iteOmega, IntWalk.toNatUp, reduceCtorEq]
                  refine st_call p1 (by simp only [wx, wy, wz, stV, seval, IntWalk.iteOmega, IntWalk.toNatUp, reduceCtorEq, take_map, tc2, lc]) (.inr (fl_b _ _)) ?_
                  simp only [wx, wy, wz, stV, seval, IntWalk.iteOmega, IntWalk.toNatUp, reduceCtorEq]
                  refine st_call (p3) rfl (.inl rfl) ?_
                  simp only [wx, wy, wz, stV, seval, IntWalk.iteOmega, IntWalk.toNatUp, reduceCtorEq]
                  refine st_call (k3) rfl (.inl rfl) ?_
                  simp only [wx, wy, wz, stV, seval, IntWalk.iteOmega, IntWalk.toNatUp, reduceCtorEq]
                  exact ret_f2 (by simp only [wx, wy, wz, stV, seval, IntWalk.iteOmega, IntWalk.toNatUp, reduceCtorEq]) (by simp only [wx, wy, wz, stV, seval, IntWalk.iteOmega, IntWalk.toNatUp, reduceCtorEq])
    · rw [if_neg (by omega), if_neg (by omega), if_pos (by omega)]
      have h3 : 17 < l.length := by omega
      simp only [sf_rvctr, putAll, wx, wy, wz, stV, seval, IntWalk.iteOmega, IntWalk.toNatUp, reduceCtorEq]
      exact ret_f2 (by simp only [wx, wy, wz, stV, seval, IntWalk.iteOmega, IntWalk.toNatUp, reduceCtorEq]) (by simp only [wx, wy, wz, stV, seval, IntWalk.iteOmega, IntWalk.toNatUp, reduceCtorEq])
  · rw [if_neg (by omega), if_pos h]
    simp only [sf_rvctr, putAll, wx, wy, wz, stV, seval, IntWalk.iteOmega, IntWalk.toNatUp, reduceCtorEq]
    exact ret_f2 (by simp only [wx, wy, wz, stV, seval, IntWalk.iteOmega, IntWalk.toNatUp, reduceCtorEq]) (by simp only [wx, wy, wz, stV, seval, IntWalk.iteOmega, IntWalk.toNatUp, reduceCtorEq])
theorem rvctr_c (G : Glob) (key : List UInt8) (l : List (List UInt8)) (hk : key.length ≤ 9223372036854775807) (hl : l.length ≤ 9223372036854775807) (hb : ∀ x ∈ l, x.length ≤ 9223372036854775807) : Den Try.prog G 28 [.sl (key.map bD), .sl (l.map fun l => D.sl (l.map bD))] (.tup [.c (.d (.sl ((vctV key l).map bD))), .c (.d (.int .i64 (vctE key l)))]) := den_ro2 (rvctr_f G key l hk hl hb)
end Go.Proofs.Ytipjekggnanffaa
set_option linter.unusedVariables false
set_option linter.unusedSimpArgs false
namespace Go.Proofs.Ytipjekggnanffaa
open Go.RowKit

theorem padC_get (rk c : List UInt8) {n k : Nat} (hk : k < 16) : ∀ {m : Nat}, n < m → (padC rk c m)[16 * n + k]? = (encK rk (ctrC c n))[k]?
  | 0, h => by omega
  | m + 1, h => by
    rw [padC]
    by_cases e : n = m
    · subst e
      rw [List.getElem?_append_right (by rw [padC_len]; omega), padC_len, Nat.add_sub_cancel_left]
    · rw [List.getElem?_append_left (by rw [padC_len]; omega)]
      exact padC_get rk c hk (by omega)
theorem strm_get (rk c b : List UInt8) {n k : Nat} (hk : k < 16) (h : 16 * n + k < b.length) : (strmC rk c b)[16 * n + k]? = some (xorB (b.getD (16 * n + k) 0) ((encK rk (ctrC c n)).getD k 0)) := by
  unfold strmC xorL
  rw [List.getElem?_zipWith, padC_get rk c hk (by omega), get_lt h, get_lt (by rw [encK_len]; exact hk)]
def oT (rk c b : List UInt8) (j : Nat) : List UInt8 := (strmC rk c b).take j
theorem oT_len (rk c b : List UInt8) (j : Nat) : (oT rk c b j).length = min j b.length := by unfold oT; rw [List.length_take, strmC_len]
theorem oT_full (rk c b : List UInt8) {j : Nat} (h : b.length ≤ j) : oT rk c b j = strmC rk c b := List.take_of_length_le (by rw [strmC_len]; exact h)
theorem oT_step (rk c b : List UInt8) {n k : Nat} (hk : k < 16) (h : 16 * n + k < b.length) : oT rk c b (16 * n + k) ++ [xorB (b.getD (16 * n + k) 0) ((encK rk (ctrC c n)).getD k 0)] = oT rk c b (16 * n + k + 1) := by
  unfold oT; rw [List.take_add_one, strm_get rk c b hk h]; rfl
theorem ctrC_16 {c : List UInt8} (h : c.length = 16) (n : Nat) : (ctrC c n).length = 16 := by rw [ctrC_len]; exact h
theorem nexV_ctr {c : List UInt8} (h : c.length = 16) (n : Nat) : nexV (ctrC c n) = ctrC c (n + 1) := by unfold nexV; rw [if_pos (ctrC_16 h n)]; rfl
def strmE (key c b : List UInt8) : Int := if key.length ≠ 16 then 5 else if c.length ≠ 16 then 3 else if 65535 < b.length then 2 else 0
def strmV (key c b : List UInt8) : List UInt8 := if key.length = 16 ∧ c.length = 16 ∧ b.length ≤ 65535 then strmC (rkK key) c b else []
theorem strmE_key {key : List UInt8} (c b : List UInt8) (h : key.length ≠ 16) : strmE key c b = 5 := if_pos h
theorem strmE_ctr {key c : List UInt8} (b : List UInt8) (h : key.length = 16) (h2 : c.length ≠ 16) : strmE key c b = 3 := by unfold strmE; rw [if_neg (by simp [h]), if_pos h2]
theorem strmE_long {key c b : List UInt8} (h : key.length = 16) (h2 : c.length = 16) (h3 : 65535 < b.length) : strmE key c b = 2 := by unfold strmE; rw [if_neg (by simp [h]), if_neg (by simp [h2]), if_pos h3]
theorem strmE_ok {key c b : List UInt8} (h : key.length = 16) (h2 : c.length = 16) (h3 : b.length ≤ 65535) : strmE key c b = 0 := by unfold strmE; rw [if_neg (by simp [h]), if_neg (by simp [h2]), if_neg (by omega)]
theorem strmV_ok {key c b : List UInt8} (h : key.length = 16) (h2 : c.length = 16) (h3 : b.length ≤ 65535) : strmV key c b = strmC (rkK key) c b := if_pos ⟨h, h2, h3⟩
theorem strmV_no {key c b : List UInt8} (h : ¬ (key.length = 16 ∧ c.length = 16 ∧ b.length ≤ 65535)) : strmV key c b = [] := if_neg h

theorem oT0 (rk c b : List UInt8) : oT rk c b 0 = [] := List.take_zero
def rst1 (key c b : List UInt8) (n : Nat) : St := ⟨ofL [(1, .w (.c (.d (.sl ((ctrC c n).map bD))))), (2, .w (.c (.d (.sl (b.map bD))))), (8, .w (.c (.ptr 2 1 0 0))), (9, .w (.c (.own 1 1 0 (oT (rkK key) c b (16 * n)).length))), (10, .w (.c (.d (.int .i64 ((16 * n : Nat) : Int)))))], hL [(1, .row 1 ((oT (rkK key) c b (16 * n)).map bD)), (2, .box ((macM4 key).map bC))], uL [1, 2]⟩
def rst0 (key c b : List UInt8) (n k : Nat) : St := ⟨ofL [(1, .w (.c (.d (.sl ((ctrC c n).map bD))))), (2, .w (.c (.d (.sl (b.map bD))))), (8, .w (.c (.ptr 2 1 0 0))), (9, .w (.c (.own 1 1 0 (oT (rkK key) c b (16 * n + k)).length))), (10, .w (.c (.d (.int .i64 ((16 * n : Nat) : Int))))), (11, .w (.c (.d (.sl ((encK (rkK key) (ctrC c n)).map bD))))), (12, .w (.c (.d (.int .i64 (k : Int)))))], hL [(1, .row 1 ((oT (rkK key) c b (16 * n + k)).map bD)), (2, .box ((macM4 key).map bC))], uL [1, 2]⟩
def lp_rstm_0 : SCode :=
  .seq (.seq (.reg [⟨(some 34), .mv (.t 12), none⟩,
    ⟨(some 35), .bin .lss (.t 34) (.k (.c (.d (.int .i64 16)))), none⟩,
    ⟨(some 36), .mv (.t 35), none⟩,
    ⟨(some 37), .mv (.t 10), (some (36, true))⟩,
    ⟨(some 38), .mv (.t 12), (some (36, true))⟩,
    ⟨(some 39), .bin .add (.t 37) (.t 38), (some (36, true))⟩,
    ⟨(some 40), .mv (.t 2), (some (36, true))⟩,
    ⟨(some 41), .len (.t 40), (some (36, true))⟩,
    ⟨(some 42), .bin .lss (.t 39) (.t 41), (some (36, true))⟩,
    ⟨(some 43), .pick (.t 36) (.t 42) (.k (.c (.d (.bool false)))), none⟩])
  (.cond (.t 43) (.skip)
   (.exit 2)))
  (.seq (.block 3 (.reg [⟨(some 46), .mv (.t 9), none⟩,
     ⟨(some 47), .mv (.t 2), none⟩,
     ⟨(some 48), .mv (.t 10), none⟩,
     ⟨(some 49), .mv (.t 12), none⟩,
     ⟨(some 50), .bin .add (.t 48) (.t 49), none⟩,
     ⟨(some 51), .idxSl 1 (.t 47) (.t 50), none⟩,
     ⟨(some 52), .load .sc (.t 51), none⟩,
     ⟨(some 53), .mv (.t 11), none⟩,
     ⟨(some 54), .mv (.t 12), none⟩,
     ⟨(some 55), .idxSl 1 (.t 53) (.t 54), none⟩,
     ⟨(some 56), .load .sc (.t 55), none⟩,
     ⟨(some 57), .bin .xor (.t 52) (.t 56), none⟩,
     ⟨(some 58), .bldSl false 1 1 (.int .u8 0) [(0, (.t 57))], none⟩,
     ⟨(some 59), .app false 1 1 (.t 46) (.t 58), none⟩,
     ⟨(some 9), .mv (.t 59), none⟩]))
  (.reg [⟨(some 44), .mv (.t 12), none⟩,
    ⟨(some 45), .bin .add (.t 44) (.k (.c (.d (.int .i64 1)))), none⟩,
    ⟨(some 12), .mv (.t 45), none⟩]))
def lp_rstm_1 : SCode :=
  .seq (.seq (.reg [⟨(some 25), .mv (.t 10), none⟩,
    ⟨(some 26), .mv (.t 2), none⟩,
    ⟨(some 27), .len (.t 26), none⟩,
    ⟨(some 28), .bin .lss (.t 25) (.t 27), none⟩])
  (.cond (.t 28) (.skip)
   (.exit 0)))
  (.seq (.block 1 (.seq (.reg [⟨(some 31), .load (.ag 688) (.t 8), none⟩,
     ⟨(some 32), .mv (.t 1), none⟩,
     ⟨(some 33), .call 52 [(.t 31), (.t 32)] none, none⟩,
     ⟨(some 11), .mv (.t 33), none⟩])
   (.seq (.seq (.reg [⟨(some 12), .mv (.k (.c (.d (.int .i64 0)))), none⟩])
   (.block 2 (.loop lp_rstm_0)))
   (.reg [⟨(some 60), .mv (.t 1), none⟩,
     ⟨(some 61), .call 53 [(.t 60)] none, none⟩,
     ⟨(some 1), .mv (.t 61), none⟩]))))
  (.reg [⟨(some 29), .mv (.t 10), none⟩,
    ⟨(some 30), .bin .add (.t 29) (.k (.c (.d (.int .i64 16)))), none⟩,
    ⟨(some 10), .mv (.t 30), none⟩]))
def sf_rstm : SFn := ⟨3, 63,
  .seq (.reg [⟨(some 6), .mv (.k (.c .nil)), none⟩,
    ⟨(some 7), .mv (.k (.c (.d (.int .i64 0)))), none⟩])
  (.seq (.seq (.reg [⟨(some 13), .mv (.t 0), none⟩,
    ⟨(some 14), .len (.t 13), none⟩,
    ⟨(some 15), .bin .neq (.t 14) (.k (.c (.d (.int .i64 16)))), none⟩])
  (.cond (.t 15) (.seq (.reg [⟨(some 6), .mv (.k (.c .nil)), none⟩,
     ⟨(some 7), .mv (.k (.c (.d (.int .i64 5)))), none⟩])
   (.ret))
   (.skip)))
  (.seq (.seq (.reg [⟨(some 16), .mv (.t 1), none⟩,
    ⟨(some 17), .len (.t 16), none⟩,
    ⟨(some 18), .bin .neq (.t 17) (.k (.c (.d (.int .i64 16)))), none⟩])
  (.cond (.t 18) (.seq (.reg [⟨(some 6), .mv (.k (.c .nil)), none⟩,
     ⟨(some 7), .mv (.k (.c (.d (.int .i64 3)))), none⟩])
   (.ret))
   (.skip)))
  (.seq (.seq (.reg [⟨(some 19), .mv (.t 2), none⟩,
    ⟨(some 20), .len (.t 19), none⟩,
    ⟨(some 21), .bin .gtr (.t 20) (.k (.c (.d (.int .i64 65535)))), none⟩])
  (.cond (.t 21) (.seq (.reg [⟨(some 6), .mv (.k (.c .nil)), none⟩,
     ⟨(some 7), .mv (.k (.c (.d (.int .i64 2)))), none⟩])
   (.ret))
   (.skip)))
  (.seq (.reg [⟨(some 22), .mv (.t 0), none⟩,
    ⟨(some 23), .call 46 [(.t 22)] none, none⟩,
    ⟨(some 8), .alloc (repL 688 (.d (.int .u8 0))), none⟩,
    ⟨none, .store (.ag 688) (.t 8) (.t 23), none⟩])
  (.seq (.reg [⟨(some 24), .bldSl true 0 1 (.int .u8 0) [], none⟩,
    ⟨(some 9), .mv (.t 24), none⟩])
  (.seq (.seq (.reg [⟨(some 10), .mv (.k (.c (.d (.int .i64 0)))), none⟩])
  (.block 0 (.loop lp_rstm_1)))
  (.seq (.reg [⟨(some 62), .mv (.t 9), none⟩,
    ⟨(some 6), .mv (.t 62), none⟩,
    ⟨(some 7), .mv (.k (.c (.d (.int .i64 0)))), none⟩])
  (.ret)))))))),
  [(6, none), (7, none)]⟩
theorem cf_rstm : compFn Try.prog { own := [24], comp := [], frz := [], nils := [] } Try.f31 = some sf_rstm := by kernel_rfl
set_option maxRecDepth 20000 in
set_option maxHeartbeats 3200000 in
theorem rstm_f (G : Glob) (key c b : List UInt8) (hk : key.length ≤ 9223372036854775807) (hc : c.length ≤ 9223372036854775807) (hb : b.length ≤ 9223372036854775807) : Den Try.prog G 31 [.sl (key.map bD), .sl (c.map bD), .sl (b.map bD)] (.tup [.c (.fr 1 ((strmV key c b).map bD)), .c (.d (.int .i64 (strmE key c b)))]) := by
  refine den_walk Try.func31 cf_rstm rfl rfl ?_
  by_cases h : key.length = 16
  · by_cases h2 : c.length = 16
    · by_cases h3 : b.length ≤ 65535
      · have hM := macM4_len h
        have r4 : List.drop 688 (repL 688 (0 : UInt8)) = [] := List.drop_eq_nil_of_le (by rw [repL_len]; omega)
        rw [strmE_ok h h2 h3, strmV_ok h h2 h3]
        simp only [sf_rstm, putAll, wx, wy, wz, stV, seval, IntWalk.iteOmega, IntWalk.toNatUp, reduceCtorEq, h, h2, repL_bC]
        refine st_call (prep_c G key h) rfl (.inl rfl) ?_
        simp only [len_map, hM, repL_len, map_C, drop_map, app_map, r4, List.append_nil, wx, wy, wz, stV, seval, IntWalk.iteOmega, IntWalk.toNatUp, reduceCtorEq]
        refine loop_st (rst1 key c b) (fun n => (b.length + 15) / 16 - n) (fun n => 16 * n < b.length + 16) 0 (by omega) ?_ ?_
        · refine ent_l (fun i => if i = 1 then 192 else 64) ?_ ?_ rfl (by simp [V.ids, W.ids, C.ids, Ob.ids, ids_bC]) <;> simp only [wx, wex, wez, stV, seval, IntWalk.iteOmega, IntWalk.toNatUp, reduceCtorEq, ren_bC, ids_bC, Nat.mul_zero, oT0, List.length_nil, List.map_nil] <;> rfl
        · intro n hn
          have hT := oT_len (rkK key) c b (16 * n)
          by_cases hlt : 16 * n < b.length
          · have t1 : (macM4 key).take 688 = macM4 key := List.take_of_length_le (by omega)
            simp only [lp_rstm_1, rst1, wx, wy, wz, stV, seval, IntWalk.iteOmega, IntWalk.toNatUp, reduceCtorEq, len_map, hM, take_map, t1, allD_bs]
            refine st_call (renc_c G key (ctrC c n) h (ctrC_16 h2 n)) rfl (.inl rfl) ?_
            simp only [wx, wy, wz, stV, seval, IntWalk.iteOmega, IntWalk.toNatUp, reduceCtorEq]
            have hen : blockC key (ctrC c n) = encK (rkK key) (ctrC c n) := rfl
            rw [hen]
            refine loop_st (rst0 key c b n) (fun k => 16 - k) (fun k => k ≤ 16 ∧ 16 * n + k ≤ b.length) 0 ⟨by omega, by omega⟩ ?_ ?_
            · refine ent_l (fun i => i) ?_ ?_ rfl (by simp [V.ids, W.ids, C.ids, Ob.ids, ids_bC]) <;> simp only [wx, wex, wez, stV, seval, IntWalk.iteOmega, IntWalk.toNatUp, reduceCtorEq, ren_bC, ids_bC, Nat.add_zero]
            · rintro k ⟨hk16, hkb⟩
              have hTk := oT_len (rkK key) c b (16 * n + k)
              have hTk1 := oT_len (rkK key) c b (16 * n + k + 1)
              by_cases hgo : k < 16 ∧ 16 * n + k < b.length
              · obtain ⟨hk1, hk2⟩ := hgo
                have g1 : b[16 * n + k]? = some (b.getD (16 * n + k) 0) := get_lt hk2
                have hel := encK_len (rkK key) (ctrC c n)
                have g2 : (encK (rkK key) (ctrC c n))[k]? = some ((encK (rkK key) (ctrC c n)).getD k 0) := get_lt (by omega)
                have x1 := binV_xorB (b.getD (16 * n + k) 0) ((encK (rkK key) (ctrC c n)).getD k 0)
                have ho := oT_step (rkK key) c b hk1 hk2
                simp only [lp_rstm_0, rst0, wx, wy, wz, stV, seval, IntWalk.iteOmega, IntWalk.toNatUp, reduceCtorEq, get_map, g1, g2, x1, hel, srcV]
                refine lop_next (k + 1) (by omega) ⟨by omega, by omega⟩ (ent_l (fun i => if i = 1 then 472 else i) ?_ ?_ rfl (by simp [V.ids, W.ids, C.ids, Ob.ids, ids_bC])) <;> simp only [wx, wex, wez, stV, seval, IntWalk.iteOmega, IntWalk.toNatUp, reduceCtorEq, ren_bC, ids_bC]
                · rw [show 16 * n + (k + 1) = 16 * n + k + 1 from rfl, hTk, hTk1, show min (16 * n + k) b.length + 1 = min (16 * n + k + 1) b.length by omega]
                · rw [← Nat.add_assoc, ← ho, List.map_append]; rfl
              · have e : oT (rkK key) c b (16 * n + k) = oT (rkK key) c b (16 * (n + 1)) := by
                  by_cases h16 : k = 16
                  · rw [h16, show 16 * n + 16 = 16 * (n + 1) by omega]
                  · rw [oT_full _ _ _ (by omega), oT_full _ _ _ (by omega)]
                have hx := rnex_c G (ctrC c n) (by rw [ctrC_16 h2]; omega)
                rw [nexV_ctr h2] at hx
                by_cases h16 : k < 16
                · have hnl : ¬ 16 * n + k < b.length := by omega
                  simp only [lp_rstm_0, rst0, e, wx, wy, wz, stV, seval, IntWalk.iteOmega, IntWalk.toNatUp, reduceCtorEq]
                  refine st_call (hx) rfl (.inl rfl) ?_
                  simp only [wx, wy, wz, stV, seval, IntWalk.iteOmega, IntWalk.toNatUp, reduceCtorEq]
                  refine lop_next (n + 1) (by omega) (by omega) (ent_l (fun i => i) ?_ ?_ rfl (by simp [V.ids, W.ids, C.ids, Ob.ids, ids_bC])) <;> simp only [wx, wex, wez, stV, seval, IntWalk.iteOmega, IntWalk.toNatUp, reduceCtorEq, ren_bC, ids_bC]
                  rw [show (16 * (n : Int) + 16) = 16 * ((n : Int) + 1) by omega]
                · simp only [lp_rstm_0, rst0, e, wx, wy, wz, stV, seval, IntWalk.iteOmega, IntWalk.toNatUp, reduceCtorEq]
                  refine st_call (hx) rfl (.inl rfl) ?_
                  simp only [wx, wy, wz, stV, seval, IntWalk.iteOmega, IntWalk.toNatUp, reduceCtorEq]
                  refine lop_next (n + 1) (by omega) (by omega) (ent_l (fun i => i) ?_ ?_ rfl (by simp [V.ids, W.ids, C.ids, Ob.ids, ids_bC])) <;> simp only [wx, wex, wez, stV, seval, IntWalk.iteOmega, IntWalk.toNatUp, reduceCtorEq, ren_bC, ids_bC]
                  rw [show (16 * (n : Int) + 16) = 16 * ((n : Int) + 1) by omega]
          · have e := oT_full (rkK key) c b (j := 16 * n) (by omega)
            have hl := strmC_len (rkK key) c b
            simp only [lp_rstm_1, rst1, e, wx, wy, wz, stV, seval, IntWalk.iteOmega, IntWalk.toNatUp, reduceCtorEq, hl]
            have ht : (strmC (rkK key) c b).take b.length = strmC (rkK key) c b := List.take_of_length_le (by omega)
            exact ret_f2 (by simp only [wx, wy, wz, stV, seval, IntWalk.iteOmega, IntWalk.toNatUp, reduceCtorEq, len_map, hl, take_map, ht]) (by simp only [wx, wy, wz, stV, seval, IntWalk.iteOmega, IntWalk.toNatUp, reduceCtorEq])
      · rw [strmE_long h h2 (by omega), strmV_no (by omega)]
        simp only [sf_rstm, putAll, wx, wy, wz, stV, seval, IntWalk.iteOmega, IntWalk.toNatUp, reduceCtorEq, h, h2]
        exact ret_f2 (by simp only [wx, wy, wz, stV, seval, IntWalk.iteOmega, IntWalk.toNatUp, reduceCtorEq]) (by simp only [wx, wy, wz, stV, seval, IntWalk.iteOmega, IntWalk.toNatUp, reduceCtorEq])
    · rw [strmE_ctr b h h2, strmV_no (by omega)]
      simp only [sf_rstm, putAll, wx, wy, wz, stV, seval, IntWalk.iteOmega, IntWalk.toNatUp, reduceCtorEq, h]
      exact ret_f2 (by simp only [wx, wy, wz, stV, seval, IntWalk.iteOmega, IntWalk.toNatUp, reduceCtorEq]) (by simp only [wx, wy, wz, stV, seval, IntWalk.iteOmega, IntWalk.toNatUp, reduceCtorEq])
  · rw [strmE_key c b h, strmV_no (by omega)]
    simp only [sf_rstm, putAll, wx, wy, wz, stV, seval, IntWalk.iteOmega, IntWalk.toNatUp, reduceCtorEq]
    exact ret_f2 (by simp only [wx, wy, wz, stV, seval, IntWalk.iteOmega, IntWalk.toNatUp, reduceCtorEq]) (by simp only [wx, wy, wz, stV, seval, IntWalk.iteOmega, IntWalk.toNatUp, reduceCtorEq])
theorem rstm_c (G : Glob) (key c b : List UInt8) (hk : key.length ≤ 9223372036854775807) (hc : c.length ≤ 9223372036854775807) (hb : b.length ≤ 9223372036854775807) : Den Try.prog G 31 [.sl (key.map bD), .sl (c.map bD), .sl (b.map bD)] (.tup [.c (.d (.sl ((strmV key c b).map bD))), .c (.d (.int .i64 (strmE key c b)))]) := den_ro2 (rstm_f G key c b hk hc hb)
end Go.Proofs.Ytipjekggnanffaa
