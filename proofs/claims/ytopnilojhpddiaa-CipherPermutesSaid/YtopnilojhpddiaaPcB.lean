/- Layer 4 on data: the stream, in the reference. Own work. -/
import Derived.Test.YtopnilojhpddiaaPcA
set_option linter.unusedVariables false
set_option linter.unusedSimpArgs false
namespace Go.Proofs.Ytopnilojhpddiaa
open Go.RowKit

theorem padC_get (rk c : List UInt8) {n k : Nat} (hk : k < 16) : ∀ {m : Nat}, n < m → (padC rk c m)[16 * n + k]? = (encK rk (ctrC c n))[k]?
  | 0, h => by omega
  | m + 1, h => by
    rw [padC]
    by_cases e : n = m
    · subst e
      rw [List.getElem?_append_right (by rw [padC_len]; omega), padC_len, Nat.add_sub_cancel_left]
    · rw [List.getElem?_append_left (by rw [padC_len]; omega)]
      exact padC_get rk c hk (by omega)
theorem strm_get (rk c b : List UInt8) {n k : Nat} (hk : k < 16) (h : 16 * n + k < b.length) : (strmC rk c b)[16 * n + k]? = some (xorB (b.getD (16 * n + k) 0) ((encK rk (ctrC c n)).getD k 0)) := by
  unfold strmC xorL
  rw [List.getElem?_zipWith, padC_get rk c hk (by omega), get_lt h, get_lt (by rw [encK_len]; exact hk)]
def oT (rk c b : List UInt8) (j : Nat) : List UInt8 := (strmC rk c b).take j
theorem oT_len (rk c b : List UInt8) (j : Nat) : (oT rk c b j).length = min j b.length := by unfold oT; rw [List.length_take, strmC_len]
theorem oT_full (rk c b : List UInt8) {j : Nat} (h : b.length ≤ j) : oT rk c b j = strmC rk c b := List.take_of_length_le (by rw [strmC_len]; exact h)
theorem oT_step (rk c b : List UInt8) {n k : Nat} (hk : k < 16) (h : 16 * n + k < b.length) : oT rk c b (16 * n + k) ++ [xorB (b.getD (16 * n + k) 0) ((encK rk (ctrC c n)).getD k 0)] = oT rk c b (16 * n + k + 1) := by
  unfold oT; rw [List.take_add_one, strm_get rk c b hk h]; rfl
theorem ctrC_16 {c : List UInt8} (h : c.length = 16) (n : Nat) : (ctrC c n).length = 16 := by rw [ctrC_len]; exact h
theorem nexV_ctr {c : List UInt8} (h : c.length = 16) (n : Nat) : nexV (ctrC c n) = ctrC c (n + 1) := by unfold nexV; rw [if_pos (ctrC_16 h n)]; rfl
def strmE (key c b : List UInt8) : Int := if key.length ≠ 16 then 5 else if c.length ≠ 16 then 3 else if 65535 < b.length then 2 else 0
def strmV (key c b : List UInt8) : List UInt8 := if key.length = 16 ∧ c.length = 16 ∧ b.length ≤ 65535 then strmC (rkK key) c b else []
theorem strmE_key {key : List UInt8} (c b : List UInt8) (h : key.length ≠ 16) : strmE key c b = 5 := if_pos h
theorem strmE_ctr {key c : List UInt8} (b : List UInt8) (h : key.length = 16) (h2 : c.length ≠ 16) : strmE key c b = 3 := by unfold strmE; rw [if_neg (by simp [h]), if_pos h2]
theorem strmE_long {key c b : List UInt8} (h : key.length = 16) (h2 : c.length = 16) (h3 : 65535 < b.length) : strmE key c b = 2 := by unfold strmE; rw [if_neg (by simp [h]), if_neg (by simp [h2]), if_pos h3]
theorem strmE_ok {key c b : List UInt8} (h : key.length = 16) (h2 : c.length = 16) (h3 : b.length ≤ 65535) : strmE key c b = 0 := by unfold strmE; rw [if_neg (by simp [h]), if_neg (by simp [h2]), if_neg (by omega)]
theorem strmV_ok {key c b : List UInt8} (h : key.length = 16) (h2 : c.length = 16) (h3 : b.length ≤ 65535) : strmV key c b = strmC (rkK key) c b := if_pos ⟨h, h2, h3⟩
theorem strmV_no {key c b : List UInt8} (h : ¬ (key.length = 16 ∧ c.length = 16 ∧ b.length ≤ 65535)) : strmV key c b = [] := if_neg h

theorem oT0 (rk c b : List UInt8) : oT rk c b 0 = [] := List.take_zero
def rst1 (key c b : List UInt8) (n : Nat) : St := ⟨ofL [(1, .w (.c (.d (.sl ((ctrC c n).map bD))))), (2, .w (.c (.d (.sl (b.map bD))))), (8, .w (.c (.ptr 2 1 0 0))), (9, .w (.c (.own 1 1 0 (oT (rkK key) c b (16 * n)).length))), (10, .w (.c (.d (.int .i64 ((16 * n : Nat) : Int)))))], hL [(1, .row 1 ((oT (rkK key) c b (16 * n)).map bD)), (2, .box ((macM4 key).map bC))], uL [1, 2]⟩
def rst0 (key c b : List UInt8) (n k : Nat) : St := ⟨ofL [(1, .w (.c (.d (.sl ((ctrC c n).map bD))))), (2, .w (.c (.d (.sl (b.map bD))))), (8, .w (.c (.ptr 2 1 0 0))), (9, .w (.c (.own 1 1 0 (oT (rkK key) c b (16 * n + k)).length))), (10, .w (.c (.d (.int .i64 ((16 * n : Nat) : Int))))), (11, .w (.c (.d (.sl ((encK (rkK key) (ctrC c n)).map bD))))), (12, .w (.c (.d (.int .i64 (k : Int)))))], hL [(1, .row 1 ((oT (rkK key) c b (16 * n + k)).map bD)), (2, .box ((macM4 key).map bC))], uL [1, 2]⟩
def lp_rstm_0 : SCode :=
  .seq (.seq (.reg [⟨(some 34), .mv (.t 12), none⟩,
    ⟨(some 35), .bin .lss (.t 34) (.k (.c (.d (.int .i64 16)))), none⟩,
    ⟨(some 36), .mv (.t 35), none⟩,
    ⟨(some 37), .mv (.t 10), (some (36, true))⟩,
    ⟨(some 38), .mv (.t 12), (some (36, true))⟩,
    ⟨(some 39), .bin .add (.t 37) (.t 38), (some (36, true))⟩,
    ⟨(some 40), .mv (.t 2), (some (36, true))⟩,
    ⟨(some 41), .len (.t 40), (some (36, true))⟩,
    ⟨(some 42), .bin .lss (.t 39) (.t 41), (some (36, true))⟩,
    ⟨(some 43), .pick (.t 36) (.t 42) (.k (.c (.d (.bool false)))), none⟩])
  (.cond (.t 43) (.skip)
   (.exit 2)))
  (.seq (.block 3 (.reg [⟨(some 46), .mv (.t 9), none⟩,
     ⟨(some 47), .mv (.t 2), none⟩,
     ⟨(some 48), .mv (.t 10), none⟩,
     ⟨(some 49), .mv (.t 12), none⟩,
     ⟨(some 50), .bin .add (.t 48) (.t 49), none⟩,
     ⟨(some 51), .idxSl 1 (.t 47) (.t 50), none⟩,
     ⟨(some 52), .load .sc (.t 51), none⟩,
     ⟨(some 53), .mv (.t 11), none⟩,
     ⟨(some 54), .mv (.t 12), none⟩,
     ⟨(some 55), .idxSl 1 (.t 53) (.t 54), none⟩,
     ⟨(some 56), .load .sc (.t 55), none⟩,
     ⟨(some 57), .bin .xor (.t 52) (.t 56), none⟩,
     ⟨(some 58), .bldSl false 1 1 (.int .u8 0) [(0, (.t 57))], none⟩,
     ⟨(some 59), .app false 1 1 (.t 46) (.t 58), none⟩,
     ⟨(some 9), .mv (.t 59), none⟩]))
  (.reg [⟨(some 44), .mv (.t 12), none⟩,
    ⟨(some 45), .bin .add (.t 44) (.k (.c (.d (.int .i64 1)))), none⟩,
    ⟨(some 12), .mv (.t 45), none⟩]))
def lp_rstm_1 : SCode :=
  .seq (.seq (.reg [⟨(some 25), .mv (.t 10), none⟩,
    ⟨(some 26), .mv (.t 2), none⟩,
    ⟨(some 27), .len (.t 26), none⟩,
    ⟨(some 28), .bin .lss (.t 25) (.t 27), none⟩])
  (.cond (.t 28) (.skip)
   (.exit 0)))
  (.seq (.block 1 (.seq (.reg [⟨(some 31), .load (.ag 688) (.t 8), none⟩,
     ⟨(some 32), .mv (.t 1), none⟩,
     ⟨(some 33), .call 32 [(.t 31), (.t 32)] none, none⟩,
     ⟨(some 11), .mv (.t 33), none⟩])
   (.seq (.seq (.reg [⟨(some 12), .mv (.k (.c (.d (.int .i64 0)))), none⟩])
   (.block 2 (.loop lp_rstm_0)))
   (.reg [⟨(some 60), .mv (.t 1), none⟩,
     ⟨(some 61), .call 18 [(.t 60)] none, none⟩,
     ⟨(some 1), .mv (.t 61), none⟩]))))
  (.reg [⟨(some 29), .mv (.t 10), none⟩,
    ⟨(some 30), .bin .add (.t 29) (.k (.c (.d (.int .i64 16)))), none⟩,
    ⟨(some 10), .mv (.t 30), none⟩]))
def sf_rstm : SFn := ⟨3, 63,
  .seq (.reg [⟨(some 6), .mv (.k (.c .nil)), none⟩,
    ⟨(some 7), .mv (.k (.c (.d (.int .i64 0)))), none⟩])
  (.seq (.seq (.reg [⟨(some 13), .mv (.t 0), none⟩,
    ⟨(some 14), .len (.t 13), none⟩,
    ⟨(some 15), .bin .neq (.t 14) (.k (.c (.d (.int .i64 16)))), none⟩])
  (.cond (.t 15) (.seq (.reg [⟨(some 6), .mv (.k (.c .nil)), none⟩,
     ⟨(some 7), .mv (.k (.c (.d (.int .i64 5)))), none⟩])
   (.ret))
   (.skip)))
  (.seq (.seq (.reg [⟨(some 16), .mv (.t 1), none⟩,
    ⟨(some 17), .len (.t 16), none⟩,
    ⟨(some 18), .bin .neq (.t 17) (.k (.c (.d (.int .i64 16)))), none⟩])
  (.cond (.t 18) (.seq (.reg [⟨(some 6), .mv (.k (.c .nil)), none⟩,
     ⟨(some 7), .mv (.k (.c (.d (.int .i64 3)))), none⟩])
   (.ret))
   (.skip)))
  (.seq (.seq (.reg [⟨(some 19), .mv (.t 2), none⟩,
    ⟨(some 20), .len (.t 19), none⟩,
    ⟨(some 21), .bin .gtr (.t 20) (.k (.c (.d (.int .i64 65535)))), none⟩])
  (.cond (.t 21) (.seq (.reg [⟨(some 6), .mv (.k (.c .nil)), none⟩,
     ⟨(some 7), .mv (.k (.c (.d (.int .i64 2)))), none⟩])
   (.ret))
   (.skip)))
  (.seq (.reg [⟨(some 22), .mv (.t 0), none⟩,
    ⟨(some 23), .call 30 [(.t 22)] none, none⟩,
    ⟨(some 8), .alloc (repL 688 (.d (.int .u8 0))), none⟩,
    ⟨none, .store (.ag 688) (.t 8) (.t 23), none⟩])
  (.seq (.reg [⟨(some 24), .bldSl true 0 1 (.int .u8 0) [], none⟩,
    ⟨(some 9), .mv (.t 24), none⟩])
  (.seq (.seq (.reg [⟨(some 10), .mv (.k (.c (.d (.int .i64 0)))), none⟩])
  (.block 0 (.loop lp_rstm_1)))
  (.seq (.reg [⟨(some 62), .mv (.t 9), none⟩,
    ⟨(some 6), .mv (.t 62), none⟩,
    ⟨(some 7), .mv (.k (.c (.d (.int .i64 0)))), none⟩])
  (.ret)))))))),
  [(6, none), (7, none)]⟩
theorem cf_rstm : compFn Try.prog { own := [24], comp := [], frz := [], nils := [] } Try.f14 = some sf_rstm := by kernel_rfl
set_option maxRecDepth 20000 in
set_option maxHeartbeats 3200000 in
theorem rstm_c (G : Glob) (key c b : List UInt8) (hk : key.length ≤ 9223372036854775807) (hc : c.length ≤ 9223372036854775807) (hb : b.length ≤ 9223372036854775807) : Den Try.prog G 14 [.sl (key.map bD), .sl (c.map bD), .sl (b.map bD)] (.tup [.c (.d (.sl ((strmV key c b).map bD))), .c (.d (.int .i64 (strmE key c b)))]) := by
  refine den_walk Try.func14 cf_rstm rfl rfl ?_
  by_cases h : key.length = 16
  · by_cases h2 : c.length = 16
    · by_cases h3 : b.length ≤ 65535
      · have hM := macM4_len h
        have r4 : List.drop 688 (repL 688 (0 : UInt8)) = [] := List.drop_eq_nil_of_le (by rw [repL_len]; omega)
        rw [strmE_ok h h2 h3, strmV_ok h h2 h3]
        simp only [sf_rstm, putAll, wx, wy, wz, stV, seval, IntWalk.iteOmega, IntWalk.toNatUp, reduceCtorEq, h, h2, repL_bC]
        refine st_call (prep_c G key h) rfl (.inl rfl) ?_
        simp only [len_map, hM, repL_len, map_C, drop_map, app_map, r4, List.append_nil, wx, wy, wz, stV, seval, IntWalk.iteOmega, IntWalk.toNatUp, reduceCtorEq]
        refine loop_st (rst1 key c b) (fun n => (b.length + 15) / 16 - n) (fun n => 16 * n < b.length + 16) 0 (by omega) ?_ ?_
        · refine ent_l (fun i => if i = 1 then 192 else 64) ?_ ?_ rfl (by simp [V.ids, W.ids, C.ids, Ob.ids, ids_bC]) <;> simp only [wx, wex, wez, stV, seval, IntWalk.iteOmega, IntWalk.toNatUp, reduceCtorEq, ren_bC, ids_bC, Nat.mul_zero, oT0, List.length_nil, List.map_nil] <;> rfl
        · intro n hn
          have hT := oT_len (rkK key) c b (16 * n)
          by_cases hlt : 16 * n < b.length
          · have t1 : (macM4 key).take 688 = macM4 key := List.take_of_length_le (by omega)
            simp only [lp_rstm_1, rst1, wx, wy, wz, stV, seval, IntWalk.iteOmega, IntWalk.toNatUp, reduceCtorEq, len_map, hM, take_map, t1, allD_bs]
            refine st_call (renc_c G key (ctrC c n) h (ctrC_16 h2 n)) rfl (.inl rfl) ?_
            simp only [wx, wy, wz, stV, seval, IntWalk.iteOmega, IntWalk.toNatUp, reduceCtorEq]
            have hen : blockC key (ctrC c n) = encK (rkK key) (ctrC c n) := rfl
            rw [hen]
            refine loop_st (rst0 key c b n) (fun k => 16 - k) (fun k => k ≤ 16 ∧ 16 * n + k ≤ b.length) 0 ⟨by omega, by omega⟩ ?_ ?_
            · refine ent_l (fun i => i) ?_ ?_ rfl (by simp [V.ids, W.ids, C.ids, Ob.ids, ids_bC]) <;> simp only [wx, wex, wez, stV, seval, IntWalk.iteOmega, IntWalk.toNatUp, reduceCtorEq, ren_bC, ids_bC, Nat.add_zero]
            · rintro k ⟨hk16, hkb⟩
              have hTk := oT_len (rkK key) c b (16 * n + k)
              have hTk1 := oT_len (rkK key) c b (16 * n + k + 1)
              by_cases hgo : k < 16 ∧ 16 * n + k < b.length
              · obtain ⟨hk1, hk2⟩ := hgo
                have g1 : b[16 * n + k]? = some (b.getD (16 * n + k) 0) := get_lt hk2
                have hel := encK_len (rkK key) (ctrC c n)
                have g2 : (encK (rkK key) (ctrC c n))[k]? = some ((encK (rkK key) (ctrC c n)).getD k 0) := get_lt (by omega)
                have x1 := binV_xorB (b.getD (16 * n + k) 0) ((encK (rkK key) (ctrC c n)).getD k 0)
                have ho := oT_step (rkK key) c b hk1 hk2
                simp only [lp_rstm_0, rst0, wx, wy, wz, stV, seval, IntWalk.iteOmega, IntWalk.toNatUp, reduceCtorEq, get_map, g1, g2, x1, hel, srcV]
                refine lop_next (k + 1) (by omega) ⟨by omega, by omega⟩ (ent_l (fun i => if i = 1 then 472 else i) ?_ ?_ rfl (by simp [V.ids, W.ids, C.ids, Ob.ids, ids_bC])) <;> simp only [wx, wex, wez, stV, seval, IntWalk.iteOmega, IntWalk.toNatUp, reduceCtorEq, ren_bC, ids_bC]
                · rw [show 16 * n + (k + 1) = 16 * n + k + 1 from rfl, hTk, hTk1, show min (16 * n + k) b.length + 1 = min (16 * n + k + 1) b.length by omega]
                · rw [← Nat.add_assoc, ← ho, List.map_append]; rfl
              · have e : oT (rkK key) c b (16 * n + k) = oT (rkK key) c b (16 * (n + 1)) := by
                  by_cases h16 : k = 16
                  · rw [h16, show 16 * n + 16 = 16 * (n + 1) by omega]
                  · rw [oT_full _ _ _ (by omega), oT_full _ _ _ (by omega)]
                have hx := rnex_c G (ctrC c n) (by rw [ctrC_16 h2]; omega)
                rw [nexV_ctr h2] at hx
                by_cases h16 : k < 16
                · have hnl : ¬ 16 * n + k < b.length := by omega
                  simp only [lp_rstm_0, rst0, e, wx, wy, wz, stV, seval, IntWalk.iteOmega, IntWalk.toNatUp, reduceCtorEq]
                  refine st_call (hx) rfl (.inl rfl) ?_
                  simp only [wx, wy, wz, stV, seval, IntWalk.iteOmega, IntWalk.toNatUp, reduceCtorEq]
                  refine lop_next (n + 1) (by omega) (by omega) (ent_l (fun i => i) ?_ ?_ rfl (by simp [V.ids, W.ids, C.ids, Ob.ids, ids_bC])) <;> simp only [wx, wex, wez, stV, seval, IntWalk.iteOmega, IntWalk.toNatUp, reduceCtorEq, ren_bC, ids_bC]
                  rw [show (16 * (n : Int) + 16) = 16 * ((n : Int) + 1) by omega]
                · simp only [lp_rstm_0, rst0, e, wx, wy, wz, stV, seval, IntWalk.iteOmega, IntWalk.toNatUp, reduceCtorEq]
                  refine st_call (hx) rfl (.inl rfl) ?_
                  simp only [wx, wy, wz, stV, seval, IntWalk.iteOmega, IntWalk.toNatUp, reduceCtorEq]
                  refine lop_next (n + 1) (by omega) (by omega) (ent_l (fun i => i) ?_ ?_ rfl (by simp [V.ids, W.ids, C.ids, Ob.ids, ids_bC])) <;> simp only [wx, wex, wez, stV, seval, IntWalk.iteOmega, IntWalk.toNatUp, reduceCtorEq, ren_bC, ids_bC]
                  rw [show (16 * (n : Int) + 16) = 16 * ((n : Int) + 1) by omega]
          · have e := oT_full (rkK key) c b (j := 16 * n) (by omega)
            have hl := strmC_len (rkK key) c b
            simp only [lp_rstm_1, rst1, e, wx, wy, wz, stV, seval, IntWalk.iteOmega, IntWalk.toNatUp, reduceCtorEq, hl]
            have ht : (strmC (rkK key) c b).take b.length = strmC (rkK key) c b := List.take_of_length_le (by omega)
            exact ret_d2 (by simp only [wx, wy, wz, stV, seval, IntWalk.iteOmega, IntWalk.toNatUp, reduceCtorEq, len_map, hl, take_map, ht]) (by simp only [wx, wy, wz, stV, seval, IntWalk.iteOmega, IntWalk.toNatUp, reduceCtorEq])
      · rw [strmE_long h h2 (by omega), strmV_no (by omega)]
        simp only [sf_rstm, putAll, wx, wy, wz, stV, seval, IntWalk.iteOmega, IntWalk.toNatUp, reduceCtorEq, h, h2]
        exact ret_d2 (by simp only [wx, wy, wz, stV, seval, IntWalk.iteOmega, IntWalk.toNatUp, reduceCtorEq]) (by simp only [wx, wy, wz, stV, seval, IntWalk.iteOmega, IntWalk.toNatUp, reduceCtorEq])
    · rw [strmE_ctr b h h2, strmV_no (by omega)]
      simp only [sf_rstm, putAll, wx, wy, wz, stV, seval, IntWalk.iteOmega, IntWalk.toNatUp, reduceCtorEq, h]
      exact ret_d2 (by simp only [wx, wy, wz, stV, seval, IntWalk.iteOmega, IntWalk.toNatUp, reduceCtorEq]) (by simp only [wx, wy, wz, stV, seval, IntWalk.iteOmega, IntWalk.toNatUp, reduceCtorEq])
  · rw [strmE_key c b h, strmV_no (by omega)]
    simp only [sf_rstm, putAll, wx, wy, wz, stV, seval, IntWalk.iteOmega, IntWalk.toNatUp, reduceCtorEq]
    exact ret_d2 (by simp only [wx, wy, wz, stV, seval, IntWalk.iteOmega, IntWalk.toNatUp, reduceCtorEq]) (by simp only [wx, wy, wz, stV, seval, IntWalk.iteOmega, IntWalk.toNatUp, reduceCtorEq])
end Go.Proofs.Ytopnilojhpddiaa
