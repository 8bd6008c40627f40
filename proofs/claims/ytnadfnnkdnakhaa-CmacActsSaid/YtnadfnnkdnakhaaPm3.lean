/- Layer 5 on data: the reference's codes. Own work. -/
import Derived.Test.YtnadfnnkdnakhaaPm2
set_option linter.unusedVariables false
set_option linter.unusedSimpArgs false
namespace Go.Proofs.Ytnadfnnkdnakhaa
open Go.RowKit

theorem blockC_rk (key b : List UInt8) : blockC key b = encK (rkK key) b := rfl
def sf_rsubk : SFn := ⟨1, 17,
  .seq (.reg [⟨(some 2), .mv (.k (.c .nil)), none⟩,
    ⟨(some 3), .mv (.k (.c .nil)), none⟩,
    ⟨(some 4), .mv (.k (.c (.d (.int .i64 0)))), none⟩])
  (.seq (.seq (.reg [⟨(some 6), .mv (.t 0), none⟩,
    ⟨(some 7), .len (.t 6), none⟩,
    ⟨(some 8), .bin .neq (.t 7) (.k (.c (.d (.int .i64 16)))), none⟩])
  (.cond (.t 8) (.seq (.reg [⟨(some 2), .mv (.k (.c .nil)), none⟩,
     ⟨(some 3), .mv (.k (.c .nil)), none⟩,
     ⟨(some 4), .mv (.k (.c (.d (.int .i64 5)))), none⟩])
   (.ret))
   (.skip)))
  (.seq (.reg [⟨(some 9), .mv (.t 0), none⟩,
    ⟨(some 10), .call 26 [(.t 9)] none, none⟩,
    ⟨(some 11), .make 1 1 (.int .u8 0) (.k (.c (.d (.int .i64 16)))) (.k (.c (.d (.int .i64 16)))), none⟩,
    ⟨(some 12), .call 25 [(.t 10), (.t 11)] none, none⟩,
    ⟨(some 13), .call 16 [(.t 12)] none, none⟩,
    ⟨(some 5), .mv (.t 13), none⟩])
  (.seq (.reg [⟨(some 14), .mv (.t 5), none⟩,
    ⟨(some 15), .mv (.t 5), none⟩,
    ⟨(some 16), .call 16 [(.t 15)] none, none⟩,
    ⟨(some 2), .mv (.t 14), none⟩,
    ⟨(some 3), .mv (.t 16), none⟩,
    ⟨(some 4), .mv (.k (.c (.d (.int .i64 0)))), none⟩])
  (.ret)))),
  [(2, none), (3, none), (4, none)]⟩
theorem cf_rsubk : compFn Try.prog { own := [], comp := [], frz := [], nils := [] } Try.f9 = some sf_rsubk := by kernel_rfl
set_option maxHeartbeats 1600000 in
theorem rsubk_c (G : Glob) (key : List UInt8) (hk : key.length ≤ 9223372036854775807) : Den Try.prog G 9 [.sl (key.map bD)] (.tup [.c (.d (.sl ((subV sub1 key).map bD))), .c (.d (.sl ((subV sub2 key).map bD))), .c (.d (.int .i64 (keyE key)))]) := by
  refine den_walk Try.func9 cf_rsubk rfl rfl ?_
  have t0 : (repL 16 (0 : UInt8)).take 16 = zero16 := rfl
  by_cases h : key.length = 16
  · have v1 : subV sub1 key = sub1 (rkK key) := if_pos h
    have v2 : subV sub2 key = sub2 (rkK key) := if_pos h
    have he : keyE key = 0 := by unfold keyE; rw [if_neg (by omega)]
    have hr := renc_c G key zero16 h (by decide)
    have h1 := rdbb_c G (encK (rkK key) zero16) (by rw [encK_len]; decide)
    have h2 := rdbb_c G (sub1 (rkK key)) (by rw [sub1_len]; decide)
    have s1 : dblL (encK (rkK key) zero16) = sub1 (rkK key) := rfl
    have s2 : dblL (sub1 (rkK key)) = sub2 (rkK key) := rfl
    rw [s1] at h1
    rw [s2] at h2
    rw [blockC_rk] at hr
    rw [v1, v2, he]
    simp only [sf_rsubk, putAll, wx, wy, wz, stV, seval, IntWalk.iteOmega, IntWalk.toNatUp, reduceCtorEq, z16]
    refine st_call (prep_c G key h) rfl (.inl rfl) ?_
    simp only [z16, wx, wy, wz, stV, seval, IntWalk.iteOmega, IntWalk.toNatUp, reduceCtorEq]
    refine st_call hr (by simp only [wx, wy, wz, stV, seval, IntWalk.iteOmega, IntWalk.toNatUp, reduceCtorEq, take_map, t0, repL_len]) (.inr (fl_b _ _)) ?_
    simp only [wx, wy, wz, stV, seval, IntWalk.iteOmega, IntWalk.toNatUp, reduceCtorEq]
    refine st_call (h1) rfl (.inl rfl) ?_
    simp only [wx, wy, wz, stV, seval, IntWalk.iteOmega, IntWalk.toNatUp, reduceCtorEq]
    refine st_call (h2) rfl (.inl rfl) ?_
    simp only [wx, wy, wz, stV, seval, IntWalk.iteOmega, IntWalk.toNatUp, reduceCtorEq]
    exact ret_d3 (by simp only [wx, wy, wz, stV, seval, IntWalk.iteOmega, IntWalk.toNatUp, reduceCtorEq]) (by simp only [wx, wy, wz, stV, seval, IntWalk.iteOmega, IntWalk.toNatUp, reduceCtorEq]) (by simp only [wx, wy, wz, stV, seval, IntWalk.iteOmega, IntWalk.toNatUp, reduceCtorEq])
  · have v1 : subV sub1 key = [] := if_neg h
    have v2 : subV sub2 key = [] := if_neg h
    have he : keyE key = 5 := if_pos h
    rw [v1, v2, he]
    simp only [sf_rsubk, putAll, wx, wy, wz, stV, seval, IntWalk.iteOmega, IntWalk.toNatUp, reduceCtorEq]
    exact ret_d3 (by simp only [wx, wy, wz, stV, seval, IntWalk.iteOmega, IntWalk.toNatUp, reduceCtorEq]) (by simp only [wx, wy, wz, stV, seval, IntWalk.iteOmega, IntWalk.toNatUp, reduceCtorEq]) (by simp only [wx, wy, wz, stV, seval, IntWalk.iteOmega, IntWalk.toNatUp, reduceCtorEq])
def rcV (key b : List UInt8) : Nat → V
  | 0 => .w (.c (.own 1 1 0 16))
  | i + 1 => .w (.c (.d (.sl ((cbcM (rkK key) b (i + 1)).map bD))))
def rcSt (key b : List UInt8) (last : Int) (i : Nat) : St := ⟨ofL [(1, .w (.c (.d (.sl (b.map bD))))), (2, .w (.c (.rp ((macM4 key).map bD)))), (5, .w (.c (.d (.sl ((sub1 (rkK key)).map bD))))), (6, .w (.c (.d (.int .i64 last)))), (7, rcV key b i), (8, .w (.c (.d (.int .i64 ((16 * i : Nat) : Int)))))], hL [(1, .row 1 ((repL 16 (0 : UInt8)).map bD))], uL [1]⟩
theorem slice16 (b : List UInt8) (i : Nat) : (b.drop (16 * i)).take (16 * i + 16 - 16 * i) = (b.drop (16 * i)).take 16 := by rw [show 16 * i + 16 - 16 * i = 16 by omega]
def lp_rmcc_0 : SCode :=
  .seq (.seq (.reg [⟨(some 24), .mv (.t 8), none⟩,
    ⟨(some 25), .mv (.t 6), none⟩,
    ⟨(some 26), .bin .lss (.t 24) (.t 25), none⟩])
  (.cond (.t 26) (.skip)
   (.exit 0)))
  (.seq (.block 1 (.reg [⟨(some 29), .load (.ag 688) (.t 2), none⟩,
     ⟨(some 30), .mv (.t 7), none⟩,
     ⟨(some 31), .mv (.t 1), none⟩,
     ⟨(some 32), .mv (.t 8), none⟩,
     ⟨(some 33), .mv (.t 8), none⟩,
     ⟨(some 34), .bin .add (.t 33) (.k (.c (.d (.int .i64 16)))), none⟩,
     ⟨(some 35), .slice 1 (.t 31) (some (.t 32)) (some (.t 34)) none, none⟩,
     ⟨(some 36), .call 20 [(.t 30), (.t 35)] none, none⟩,
     ⟨(some 37), .call 25 [(.t 29), (.t 36)] none, none⟩,
     ⟨(some 7), .mv (.t 37), none⟩]))
  (.reg [⟨(some 27), .mv (.t 8), none⟩,
    ⟨(some 28), .bin .add (.t 27) (.k (.c (.d (.int .i64 16)))), none⟩,
    ⟨(some 8), .mv (.t 28), none⟩]))
def sf_rmcc : SFn := ⟨2, 61,
  .seq (.reg [⟨(some 2), .box .roBox (.t 0), none⟩,
    ⟨(some 4), .mv (.k (.c .nil)), none⟩])
  (.seq (.reg [⟨(some 10), .load (.ag 688) (.t 2), none⟩,
    ⟨(some 11), .make 1 1 (.int .u8 0) (.k (.c (.d (.int .i64 16)))) (.k (.c (.d (.int .i64 16)))), none⟩,
    ⟨(some 12), .call 25 [(.t 10), (.t 11)] none, none⟩,
    ⟨(some 13), .call 16 [(.t 12)] none, none⟩,
    ⟨(some 5), .mv (.t 13), none⟩])
  (.seq (.reg [⟨(some 14), .mv (.t 1), none⟩,
    ⟨(some 15), .len (.t 14), none⟩,
    ⟨(some 16), .bin .add (.t 15) (.k (.c (.d (.int .i64 15)))), none⟩,
    ⟨(some 17), .bin .quo (.t 16) (.k (.c (.d (.int .i64 16)))), none⟩,
    ⟨(some 18), .bin .mul (.t 17) (.k (.c (.d (.int .i64 16)))), none⟩,
    ⟨(some 19), .bin .sub (.t 18) (.k (.c (.d (.int .i64 16)))), none⟩,
    ⟨(some 6), .mv (.t 19), none⟩])
  (.seq (.seq (.reg [⟨(some 20), .mv (.t 1), none⟩,
    ⟨(some 21), .len (.t 20), none⟩,
    ⟨(some 22), .bin .eql (.t 21) (.k (.c (.d (.int .i64 0)))), none⟩])
  (.cond (.t 22) (.reg [⟨(some 6), .mv (.k (.c (.d (.int .i64 0)))), none⟩])
   (.skip)))
  (.seq (.reg [⟨(some 23), .make 1 1 (.int .u8 0) (.k (.c (.d (.int .i64 16)))) (.k (.c (.d (.int .i64 16)))), none⟩,
    ⟨(some 7), .mv (.t 23), none⟩])
  (.seq (.seq (.reg [⟨(some 8), .mv (.k (.c (.d (.int .i64 0)))), none⟩])
  (.block 0 (.loop lp_rmcc_0)))
  (.seq (.reg [⟨(some 38), .mv (.t 1), none⟩,
    ⟨(some 39), .mv (.t 6), none⟩,
    ⟨(some 40), .slice 1 (.t 38) (some (.t 39)) none none, none⟩,
    ⟨(some 41), .bldSl false 1 1 (.sl []) [(0, (.t 40))], none⟩,
    ⟨(some 42), .call 30 [(.t 41)] (some (0, 1)), none⟩,
    ⟨(some 9), .mv (.t 42), none⟩])
  (.seq (.seq (.reg [⟨(some 43), .mv (.t 9), none⟩,
    ⟨(some 44), .len (.t 43), none⟩,
    ⟨(some 45), .bin .eql (.t 44) (.k (.c (.d (.int .i64 16)))), none⟩])
  (.cond (.t 45) (.reg [⟨(some 46), .mv (.t 9), none⟩,
     ⟨(some 47), .mv (.t 5), none⟩,
     ⟨(some 48), .call 20 [(.t 46), (.t 47)] none, none⟩,
     ⟨(some 9), .mv (.t 48), none⟩])
   (.reg [⟨(some 49), .mv (.t 9), none⟩,
     ⟨(some 50), .bldSl false 1 1 (.int .u8 0) [(0, (.k (.c (.d (.int .u8 128)))))], none⟩,
     ⟨(some 51), .app false 1 1 (.t 49) (.t 50), none⟩,
     ⟨(some 52), .call 31 [(.t 51), (.k (.c (.d (.int .i64 16))))] none, none⟩,
     ⟨(some 53), .mv (.t 5), none⟩,
     ⟨(some 54), .call 16 [(.t 53)] none, none⟩,
     ⟨(some 55), .call 20 [(.t 52), (.t 54)] none, none⟩,
     ⟨(some 9), .mv (.t 55), none⟩])))
  (.seq (.reg [⟨(some 56), .load (.ag 688) (.t 2), none⟩,
    ⟨(some 57), .mv (.t 7), none⟩,
    ⟨(some 58), .mv (.t 9), none⟩,
    ⟨(some 59), .call 20 [(.t 57), (.t 58)] none, none⟩,
    ⟨(some 60), .call 25 [(.t 56), (.t 59)] (some (0, 1)), none⟩,
    ⟨(some 4), .mv (.t 60), none⟩])
  (.ret))))))))),
  [(4, none)]⟩
theorem cf_rmcc : compFn Try.prog { own := [42, 60], comp := [], frz := [], nils := [] } Try.f28 = some sf_rmcc := by kernel_rfl
set_option maxRecDepth 20000 in
set_option maxHeartbeats 3200000 in
theorem rmcc_f (G : Glob) (key b : List UInt8) (h : key.length = 16) (hb : b.length ≤ 70000) : Den Try.prog G 28 [.agg ((macM4 key).map bD), .sl (b.map bD)] (.w (.c (.fr 1 ((macM (rkK key) b).map bD)))) := by
  refine den_walk Try.func28 cf_rmcc rfl rfl ?_
  have t0 : (repL 16 (0 : UInt8)).take 16 = zero16 := rfl
  have hM := macM4_len h
  have t1 : (macM4 key).take 688 = macM4 key := List.take_of_length_le (by omega)
  have hah : aheadM b = (b.length + 15) / 16 - 1 := rfl
  have hm : ∀ i, i = aheadM b → macM (rkK key) b = encK (rkK key) (xorP (cbcM (rkK key) b i) (endM (rkK key) (b.drop (16 * i)))) := fun i e => by rw [e]; rfl
  have hr0 := renc_c G key zero16 h (by decide)
  have h1 := rdbb_c G (encK (rkK key) zero16) (by rw [encK_len]; decide)
  have s1 : dblL (encK (rkK key) zero16) = sub1 (rkK key) := rfl
  rw [s1] at h1
  rw [blockC_rk] at hr0
  have td : Int.tdiv ((b.length : Int) + 15) 16 = (((b.length + 15) / 16 : Nat) : Int) := rfl
  have step : ∀ i, i < aheadM b → ((b.drop (16 * i)).take 16).length = 16 := fun i hi => by rw [List.length_take, List.length_drop]; omega
  simp only [sf_rmcc, putAll, wx, wy, wz, stV, seval, IntWalk.iteOmega, IntWalk.toNatUp, reduceCtorEq, z16, allDn_bs, len_map, hM, take_map, t1]
  refine st_call hr0 (by simp only [wx, wy, wz, stV, seval, IntWalk.iteOmega, IntWalk.toNatUp, reduceCtorEq, take_map, t0, repL_len]) (.inr (fl_b _ _)) ?_
  simp only [wx, wy, wz, stV, seval, IntWalk.iteOmega, IntWalk.toNatUp, reduceCtorEq]
  refine st_call (h1) rfl (.inl rfl) ?_
  simp only [td, z16, wx, wy, wz, stV, seval, IntWalk.iteOmega, IntWalk.toNatUp, reduceCtorEq]
  by_cases hb0 : b.length = 0
  · have hz0 : aheadM b = 0 := by omega
    simp only [wx, wy, wz, stV, seval, IntWalk.iteOmega, IntWalk.toNatUp, reduceCtorEq, z16]
    refine loop_st (rcSt key b (0)) (fun i => aheadM b - i) (fun i => i ≤ aheadM b) 0 (Nat.zero_le _) ?_ ?_
    · refine ent_l (fun i => 184) ?_ ?_ rfl rfl <;> simp only [wx, wex, wez, stV, seval, IntWalk.iteOmega, IntWalk.toNatUp, reduceCtorEq, rcV]
    · intro i hi
      have hcl : (b.drop (16 * i)).length = b.length - 16 * i := List.length_drop
      have hsl := slice16 b i
      by_cases hlt : i < aheadM b
      · exact absurd hlt (by omega)
      · rw [hm i (by omega)]
        have hie : 16 * (aheadM b : Int) = 16 * (i : Int) := by omega
        have hl16 : (b.drop (16 * i)).length ≤ 16 := by omega
        have ht : (b.drop (16 * i)).take (b.length - 16 * i) = b.drop (16 * i) := List.take_of_length_le (by omega)
        have toN : (0 : Int).toNat = 16 * i := by omega
        have e1 := rjoin_c G [b.drop (16 * i)] (by simp) (by simp; omega)
        have hf : [b.drop (16 * i)].flatten = b.drop (16 * i) := by simp
        rw [hf] at e1
        have k1 := rxor_c G (cbcM (rkK key) b i) (endM (rkK key) (b.drop (16 * i))) (by rw [cbcM_len]; decide) (by rw [endM_len hl16]; decide)
        have k2 := renc_c G key (xorP (cbcM (rkK key) b i) (endM (rkK key) (b.drop (16 * i)))) h (by rw [xorP_len, cbcM_len])
        rw [blockC_rk] at k2
        have ht2 : (b.drop (16 * i)).take b.length = b.drop (16 * i) := List.take_of_length_le (by omega)
        generalize hc : b.drop (16 * i) = c at *
        have tc : c.take c.length = c := List.take_length
        by_cases h16 : c.length = 16
        · have tc16 : c.take 16 = c := by rw [← h16]; exact tc
          have q1 := rxor_c G c (sub1 (rkK key)) (by omega) (by rw [sub1_len]; decide)
          rw [endM_full _ h16] at k1 k2 ⊢
          rcases i with _ | i
          · have hz : cbcM (rkK key) b 0 = zero16 := rfl
            rw [hz] at k1 k2 ⊢
            simp only [lp_rmcc_0, rcSt, rcV, wx, wy, wz, stV, seval, IntWalk.iteOmega, IntWalk.toNatUp, reduceCtorEq, toN, hc, ht, ht2]
            refine st_call (e1) rfl (.inl rfl) ?_
            simp only [h16, wx, wy, wz, stV, seval, IntWalk.iteOmega, IntWalk.toNatUp, reduceCtorEq]
            refine st_call q1 (by simp only [wx, wy, wz, stV, seval, IntWalk.iteOmega, IntWalk.toNatUp, reduceCtorEq, take_map, tc16, h16]) (.inr (fl_b _ _)) ?_
            simp only [wx, wy, wz, stV, seval, IntWalk.iteOmega, IntWalk.toNatUp, reduceCtorEq, len_map, hM, take_map, t1]
            refine st_call k1 (by simp only [wx, wy, wz, stV, seval, IntWalk.iteOmega, IntWalk.toNatUp, reduceCtorEq, take_map, t0, repL_len]) (.inr (fl_b _ _)) ?_
            simp only [wx, wy, wz, stV, seval, IntWalk.iteOmega, IntWalk.toNatUp, reduceCtorEq]
            refine st_call (k2) rfl (.inl rfl) ?_
            simp only [wx, wy, wz, stV, seval, IntWalk.iteOmega, IntWalk.toNatUp, reduceCtorEq]
            exact ret_f1 (by simp only [wx, wy, wz, stV, seval, IntWalk.iteOmega, IntWalk.toNatUp, reduceCtorEq])
          · exact absurd hi (by omega)
        · have p1 := rpad_c G (c ++ [128]) 16 (by simp; omega)
          rw [padN_16] at p1
          have p2 := rdbb_c G (sub1 (rkK key)) (by rw [sub1_len]; decide)
          have s2 : dblL (sub1 (rkK key)) = sub2 (rkK key) := rfl
          rw [s2] at p2
          have p3 := rxor_c G (padL (c ++ [128])) (sub2 (rkK key)) (by rw [padL_short (by omega)]; decide) (by rw [sub2_len]; decide)
          have b128 : c.map bD ++ [D.int .u8 128] = (c ++ [128]).map bD := by rw [List.map_append]; rfl
          have tc2 : (c ++ [128]).take (c.length + 1) = c ++ [128] := List.take_of_length_le (by simp)
          rw [endM_part _ h16] at k1 k2 ⊢
          have lc : (c ++ [(128 : UInt8)]).length = c.length + 1 := by simp
          rcases i with _ | i
          · have hz : cbcM (rkK key) b 0 = zero16 := rfl
            rw [hz] at k1 k2 ⊢
            simp only [lp_rmcc_0, rcSt, rcV, wx, wy, wz, stV, seval, IntWalk.iteOmega, IntWalk.toNatUp, reduceCtorEq, toN, hc, ht, ht2]
            refine st_call (e1) rfl (.inl rfl) ?_
            simp only [srcV, b128, wx, wy, wz, stV, seval, IntWalk.iteOmega, IntWalk.toNatUp, reduceCtorEq]
            refine st_call p1 (by simp only [wx, wy, wz, stV, seval, IntWalk.iteOmega, IntWalk.toNatUp, reduceCtorEq, take_map, tc2, lc]) (.inr (fl_b _ _)) ?_
            simp only [wx, wy, wz, stV, seval, IntWalk.iteOmega, IntWalk.toNatUp, reduceCtorEq]
            refine st_call (p2) rfl (.inl rfl) ?_
            simp only [wx, wy, wz, stV, seval, IntWalk.iteOmega, IntWalk.toNatUp, reduceCtorEq]
            refine st_call (p3) rfl (.inl rfl) ?_
            simp only [len_map, hM, take_map, t1, wx, wy, wz, stV, seval, IntWalk.iteOmega, IntWalk.toNatUp, reduceCtorEq]
            refine st_call k1 (by simp only [wx, wy, wz, stV, seval, IntWalk.iteOmega, IntWalk.toNatUp, reduceCtorEq, take_map, t0, repL_len]) (.inr (fl_b _ _)) ?_
            simp only [wx, wy, wz, stV, seval, IntWalk.iteOmega, IntWalk.toNatUp, reduceCtorEq]
            refine st_call (k2) rfl (.inl rfl) ?_
            simp only [wx, wy, wz, stV, seval, IntWalk.iteOmega, IntWalk.toNatUp, reduceCtorEq]
            exact ret_f1 (by simp only [wx, wy, wz, stV, seval, IntWalk.iteOmega, IntWalk.toNatUp, reduceCtorEq])
          · exact absurd hi (by omega)
  · have hp : 0 < b.length := by omega
    simp only [wx, wy, wz, stV, seval, IntWalk.iteOmega, IntWalk.toNatUp, reduceCtorEq, z16]
    refine loop_st (rcSt key b (((((b.length + 15) / 16 : Nat) : Int) * 16 - 16))) (fun i => aheadM b - i) (fun i => i ≤ aheadM b) 0 (Nat.zero_le _) ?_ ?_
    · refine ent_l (fun i => 184) ?_ ?_ rfl rfl <;> simp only [wx, wex, wez, stV, seval, IntWalk.iteOmega, IntWalk.toNatUp, reduceCtorEq, rcV]
    · intro i hi
      have hcl : (b.drop (16 * i)).length = b.length - 16 * i := List.length_drop
      have hsl := slice16 b i
      by_cases hlt : i < aheadM b
      · have hT := step i hlt
        have hstep : encK (rkK key) (xorP (cbcM (rkK key) b i) ((b.drop (16 * i)).take 16)) = cbcM (rkK key) b (i + 1) := rfl
        have k1 := rxor_c G (cbcM (rkK key) b i) ((b.drop (16 * i)).take 16) (by rw [cbcM_len]; decide) (by omega)
        have k2 := renc_c G key (xorP (cbcM (rkK key) b i) ((b.drop (16 * i)).take 16)) h (by rw [xorP_len, cbcM_len])
        rw [blockC_rk, hstep] at k2
        rcases i with _ | i
        · have hz : cbcM (rkK key) b 0 = zero16 := rfl
          rw [hz] at k1 k2
          simp only [Nat.mul_zero, List.drop_zero, Nat.zero_add, Nat.sub_zero] at hsl
          simp only [lp_rmcc_0, rcSt, rcV, wx, wy, wz, stV, seval, IntWalk.iteOmega, IntWalk.toNatUp, reduceCtorEq, len_map, hM, take_map, t1, hsl]
          refine st_call k1 (by simp only [wx, wy, wz, stV, seval, IntWalk.iteOmega, IntWalk.toNatUp, reduceCtorEq, take_map, t0, repL_len]) (.inr (fl_b _ _)) ?_
          simp only [wx, wy, wz, stV, seval, IntWalk.iteOmega, IntWalk.toNatUp, reduceCtorEq]
          refine st_call (k2) rfl (.inl rfl) ?_
          simp only [wx, wy, wz, stV, seval, IntWalk.iteOmega, IntWalk.toNatUp, reduceCtorEq]
          refine lop_next (0 + 1) (by omega) (by omega) (ent_l (fun i => i) ?_ ?_ rfl rfl) <;> simp only [wx, wex, wez, stV, seval, IntWalk.iteOmega, IntWalk.toNatUp, reduceCtorEq, rcV]
        · simp only [lp_rmcc_0, rcSt, rcV, wx, wy, wz, stV, seval, IntWalk.iteOmega, IntWalk.toNatUp, reduceCtorEq, len_map, hM, take_map, t1, hsl]
          refine st_call (k1) rfl (.inl rfl) ?_
          simp only [wx, wy, wz, stV, seval, IntWalk.iteOmega, IntWalk.toNatUp, reduceCtorEq]
          refine st_call (k2) rfl (.inl rfl) ?_
          simp only [wx, wy, wz, stV, seval, IntWalk.iteOmega, IntWalk.toNatUp, reduceCtorEq]
          refine lop_next (i + 1 + 1) (by omega) (by omega) (ent_l (fun i => i) ?_ ?_ rfl rfl) <;> simp only [wx, wex, wez, stV, seval, IntWalk.iteOmega, IntWalk.toNatUp, reduceCtorEq, rcV]
          rw [show (16 * ((i : Int) + 1) + 16) = 16 * ((i : Int) + 1 + 1) by omega]
      · rw [hm i (by omega)]
        have hie : 16 * (aheadM b : Int) = 16 * (i : Int) := by omega
        have hl16 : (b.drop (16 * i)).length ≤ 16 := by omega
        have ht : (b.drop (16 * i)).take (b.length - 16 * i) = b.drop (16 * i) := List.take_of_length_le (by omega)
        have toN : (((((b.length + 15) / 16 : Nat) : Int) * 16 - 16) : Int).toNat = 16 * i := by omega
        have e1 := rjoin_c G [b.drop (16 * i)] (by simp) (by simp; omega)
        have hf : [b.drop (16 * i)].flatten = b.drop (16 * i) := by simp
        rw [hf] at e1
        have k1 := rxor_c G (cbcM (rkK key) b i) (endM (rkK key) (b.drop (16 * i))) (by rw [cbcM_len]; decide) (by rw [endM_len hl16]; decide)
        have k2 := renc_c G key (xorP (cbcM (rkK key) b i) (endM (rkK key) (b.drop (16 * i)))) h (by rw [xorP_len, cbcM_len])
        rw [blockC_rk] at k2
        have ht2 : (b.drop (16 * i)).take b.length = b.drop (16 * i) := List.take_of_length_le (by omega)
        generalize hc : b.drop (16 * i) = c at *
        have tc : c.take c.length = c := List.take_length
        by_cases h16 : c.length = 16
        · have tc16 : c.take 16 = c := by rw [← h16]; exact tc
          have q1 := rxor_c G c (sub1 (rkK key)) (by omega) (by rw [sub1_len]; decide)
          rw [endM_full _ h16] at k1 k2 ⊢
          rcases i with _ | i
          · have hz : cbcM (rkK key) b 0 = zero16 := rfl
            rw [hz] at k1 k2 ⊢
            simp only [lp_rmcc_0, rcSt, rcV, wx, wy, wz, stV, seval, IntWalk.iteOmega, IntWalk.toNatUp, reduceCtorEq, toN, hc, ht, ht2]
            refine st_call (e1) rfl (.inl rfl) ?_
            simp only [h16, wx, wy, wz, stV, seval, IntWalk.iteOmega, IntWalk.toNatUp, reduceCtorEq]
            refine st_call q1 (by simp only [wx, wy, wz, stV, seval, IntWalk.iteOmega, IntWalk.toNatUp, reduceCtorEq, take_map, tc16, h16]) (.inr (fl_b _ _)) ?_
            simp only [wx, wy, wz, stV, seval, IntWalk.iteOmega, IntWalk.toNatUp, reduceCtorEq, len_map, hM, take_map, t1]
            refine st_call k1 (by simp only [wx, wy, wz, stV, seval, IntWalk.iteOmega, IntWalk.toNatUp, reduceCtorEq, take_map, t0, repL_len]) (.inr (fl_b _ _)) ?_
            simp only [wx, wy, wz, stV, seval, IntWalk.iteOmega, IntWalk.toNatUp, reduceCtorEq]
            refine st_call (k2) rfl (.inl rfl) ?_
            simp only [wx, wy, wz, stV, seval, IntWalk.iteOmega, IntWalk.toNatUp, reduceCtorEq]
            exact ret_f1 (by simp only [wx, wy, wz, stV, seval, IntWalk.iteOmega, IntWalk.toNatUp, reduceCtorEq])
          · simp only [lp_rmcc_0, rcSt, rcV, wx, wy, wz, stV, seval, IntWalk.iteOmega, IntWalk.toNatUp, reduceCtorEq, toN, hc, ht, ht2]
            refine st_call (e1) rfl (.inl rfl) ?_
            simp only [h16, wx, wy, wz, stV, seval, IntWalk.iteOmega, IntWalk.toNatUp, reduceCtorEq]
            refine st_call q1 (by simp only [wx, wy, wz, stV, seval, IntWalk.iteOmega, IntWalk.toNatUp, reduceCtorEq, take_map, tc16, h16]) (.inr (fl_b _ _)) ?_
            simp only [wx, wy, wz, stV, seval, IntWalk.iteOmega, IntWalk.toNatUp, reduceCtorEq, len_map, hM, take_map, t1]
            refine st_call (k1) rfl (.inl rfl) ?_
            simp only [wx, wy, wz, stV, seval, IntWalk.iteOmega, IntWalk.toNatUp, reduceCtorEq]
            refine st_call (k2) rfl (.inl rfl) ?_
            simp only [wx, wy, wz, stV, seval, IntWalk.iteOmega, IntWalk.toNatUp, reduceCtorEq]
            exact ret_f1 (by simp only [wx, wy, wz, stV, seval, IntWalk.iteOmega, IntWalk.toNatUp, reduceCtorEq])
        · have p1 := rpad_c G (c ++ [128]) 16 (by simp; omega)
          rw [padN_16] at p1
          have p2 := rdbb_c G (sub1 (rkK key)) (by rw [sub1_len]; decide)
          have s2 : dblL (sub1 (rkK key)) = sub2 (rkK key) := rfl
          rw [s2] at p2
          have p3 := rxor_c G (padL (c ++ [128])) (sub2 (rkK key)) (by rw [padL_short (by omega)]; decide) (by rw [sub2_len]; decide)
          have b128 : c.map bD ++ [D.int .u8 128] = (c ++ [128]).map bD := by rw [List.map_append]; rfl
          have tc2 : (c ++ [128]).take (c.length + 1) = c ++ [128] := List.take_of_length_le (by simp)
          rw [endM_part _ h16] at k1 k2 ⊢
          have lc : (c ++ [(128 : UInt8)]).length = c.length + 1 := by simp
          rcases i with _ | i
          · have hz : cbcM (rkK key) b 0 = zero16 := rfl
            rw [hz] at k1 k2 ⊢
            simp only [lp_rmcc_0, rcSt, rcV, wx, wy, wz, stV, seval, IntWalk.iteOmega, IntWalk.toNatUp, reduceCtorEq, toN, hc, ht, ht2]
            refine st_call (e1) rfl (.inl rfl) ?_
            simp only [srcV, b128, wx, wy, wz, stV, seval, IntWalk.iteOmega, IntWalk.toNatUp, reduceCtorEq]
            refine st_call p1 (by simp only [wx, wy, wz, stV, seval, IntWalk.iteOmega, IntWalk.toNatUp, reduceCtorEq, take_map, tc2, lc]) (.inr (fl_b _ _)) ?_
            simp only [wx, wy, wz, stV, seval, IntWalk.iteOmega, IntWalk.toNatUp, reduceCtorEq]
            refine st_call (p2) rfl (.inl rfl) ?_
            simp only [wx, wy, wz, stV, seval, IntWalk.iteOmega, IntWalk.toNatUp, reduceCtorEq]
            refine st_call (p3) rfl (.inl rfl) ?_
            simp only [len_map, hM, take_map, t1, wx, wy, wz, stV, seval, IntWalk.iteOmega, IntWalk.toNatUp, reduceCtorEq]
            refine st_call k1 (by simp only [wx, wy, wz, stV, seval, IntWalk.iteOmega, IntWalk.toNatUp, reduceCtorEq, take_map, t0, repL_len]) (.inr (fl_b _ _)) ?_
            simp only [wx, wy, wz, stV, seval, IntWalk.iteOmega, IntWalk.toNatUp, reduceCtorEq]
            refine st_call (k2) rfl (.inl rfl) ?_
            simp only [wx, wy, wz, stV, seval, IntWalk.iteOmega, IntWalk.toNatUp, reduceCtorEq]
            exact ret_f1 (by simp only [wx, wy, wz, stV, seval, IntWalk.iteOmega, IntWalk.toNatUp, reduceCtorEq])
          · simp only [lp_rmcc_0, rcSt, rcV, wx, wy, wz, stV, seval, IntWalk.iteOmega, IntWalk.toNatUp, reduceCtorEq, toN, hc, ht, ht2]
            refine st_call (e1) rfl (.inl rfl) ?_
            simp only [srcV, b128, wx, wy, wz, stV, seval, IntWalk.iteOmega, IntWalk.toNatUp, reduceCtorEq]
            refine st_call p1 (by simp only [wx, wy, wz, stV, seval, IntWalk.iteOmega, IntWalk.toNatUp, reduceCtorEq, take_map, tc2, lc]) (.inr (fl_b _ _)) ?_
            simp only [wx, wy, wz, stV, seval, IntWalk.iteOmega, IntWalk.toNatUp, reduceCtorEq]
            refine st_call (p2) rfl (.inl rfl) ?_
            simp only [wx, wy, wz, stV, seval, IntWalk.iteOmega, IntWalk.toNatUp, reduceCtorEq]
            refine st_call (p3) rfl (.inl rfl) ?_
            simp only [len_map, hM, take_map, t1, wx, wy, wz, stV, seval, IntWalk.iteOmega, IntWalk.toNatUp, reduceCtorEq]
            refine st_call (k1) rfl (.inl rfl) ?_
            simp only [wx, wy, wz, stV, seval, IntWalk.iteOmega, IntWalk.toNatUp, reduceCtorEq]
            refine st_call (k2) rfl (.inl rfl) ?_
            simp only [wx, wy, wz, stV, seval, IntWalk.iteOmega, IntWalk.toNatUp, reduceCtorEq]
            exact ret_f1 (by simp only [wx, wy, wz, stV, seval, IntWalk.iteOmega, IntWalk.toNatUp, reduceCtorEq])
theorem rmcc_c (G : Glob) (key b : List UInt8) (h : key.length = 16) (hb : b.length ≤ 70000) : Den Try.prog G 28 [.agg ((macM4 key).map bD), .sl (b.map bD)] (.w (.c (.d (.sl ((macM (rkK key) b).map bD))))) := den_ro (rmcc_f G key b h hb)
def sf_rcmac : SFn := ⟨2, 16,
  .seq (.reg [⟨(some 4), .mv (.k (.c .nil)), none⟩,
    ⟨(some 5), .mv (.k (.c (.d (.int .i64 0)))), none⟩])
  (.seq (.seq (.reg [⟨(some 6), .mv (.t 0), none⟩,
    ⟨(some 7), .len (.t 6), none⟩,
    ⟨(some 8), .bin .neq (.t 7) (.k (.c (.d (.int .i64 16)))), none⟩])
  (.cond (.t 8) (.seq (.reg [⟨(some 4), .mv (.k (.c .nil)), none⟩,
     ⟨(some 5), .mv (.k (.c (.d (.int .i64 5)))), none⟩])
   (.ret))
   (.skip)))
  (.seq (.seq (.reg [⟨(some 9), .mv (.t 1), none⟩,
    ⟨(some 10), .len (.t 9), none⟩,
    ⟨(some 11), .bin .gtr (.t 10) (.k (.c (.d (.int .i64 65535)))), none⟩])
  (.cond (.t 11) (.seq (.reg [⟨(some 4), .mv (.k (.c .nil)), none⟩,
     ⟨(some 5), .mv (.k (.c (.d (.int .i64 2)))), none⟩])
   (.ret))
   (.skip)))
  (.seq (.reg [⟨(some 12), .mv (.t 0), none⟩,
    ⟨(some 13), .call 26 [(.t 12)] none, none⟩,
    ⟨(some 14), .mv (.t 1), none⟩,
    ⟨(some 15), .call 28 [(.t 13), (.t 14)] none, none⟩,
    ⟨(some 4), .mv (.t 15), none⟩,
    ⟨(some 5), .mv (.k (.c (.d (.int .i64 0)))), none⟩])
  (.ret)))),
  [(4, none), (5, none)]⟩
theorem cf_rcmac : compFn Try.prog { own := [], comp := [], frz := [], nils := [] } Try.f11 = some sf_rcmac := by kernel_rfl
set_option maxHeartbeats 1600000 in
theorem rcmac_c (G : Glob) (key b : List UInt8) (hk : key.length ≤ 9223372036854775807) (hb : b.length ≤ 9223372036854775807) : Den Try.prog G 11 [.sl (key.map bD), .sl (b.map bD)] (.tup [.c (.d (.sl ((macV key b).map bD))), .c (.d (.int .i64 (macE key b)))]) := by
  refine den_walk Try.func11 cf_rcmac rfl rfl ?_
  unfold macV macE
  by_cases h : key.length = 16
  · by_cases h2 : b.length ≤ 65535
    · rw [if_pos ⟨h, h2⟩, if_neg (by omega), if_neg (by omega)]
      simp only [sf_rcmac, putAll, wx, wy, wz, stV, seval, IntWalk.iteOmega, IntWalk.toNatUp, reduceCtorEq]
      refine st_call (prep_c G key h) rfl (.inl rfl) ?_
      simp only [wx, wy, wz, stV, seval, IntWalk.iteOmega, IntWalk.toNatUp, reduceCtorEq]
      refine st_call (rmcc_c G key b h (by omega)) rfl (.inl rfl) ?_
      simp only [wx, wy, wz, stV, seval, IntWalk.iteOmega, IntWalk.toNatUp, reduceCtorEq]
      exact ret_d2 (by simp only [wx, wy, wz, stV, seval, IntWalk.iteOmega, IntWalk.toNatUp, reduceCtorEq]) (by simp only [wx, wy, wz, stV, seval, IntWalk.iteOmega, IntWalk.toNatUp, reduceCtorEq])
    · rw [if_neg (by omega), if_neg (by omega), if_pos (by omega)]
      have h3 : 65535 < b.length := by omega
      simp only [sf_rcmac, putAll, wx, wy, wz, stV, seval, IntWalk.iteOmega, IntWalk.toNatUp, reduceCtorEq]
      exact ret_d2 (by simp only [wx, wy, wz, stV, seval, IntWalk.iteOmega, IntWalk.toNatUp, reduceCtorEq]) (by simp only [wx, wy, wz, stV, seval, IntWalk.iteOmega, IntWalk.toNatUp, reduceCtorEq])
  · rw [if_neg (by omega), if_pos h]
    simp only [sf_rcmac, putAll, wx, wy, wz, stV, seval, IntWalk.iteOmega, IntWalk.toNatUp, reduceCtorEq]
    exact ret_d2 (by simp only [wx, wy, wz, stV, seval, IntWalk.iteOmega, IntWalk.toNatUp, reduceCtorEq]) (by simp only [wx, wy, wz, stV, seval, IntWalk.iteOmega, IntWalk.toNatUp, reduceCtorEq])
def rv0St (key : List UInt8) (l : List (List UInt8)) (i : Nat) : St := ⟨ofL [(0, .w (.c (.d (.sl (key.map bD))))), (1, .w (.c (.d (.sl (l.map fun l => D.sl (l.map bD)))))), (6, .w (.c (.d (.int .i64 (i : Int)))))], hL [], uL []⟩
def rv1St (key : List UInt8) (l : List (List UInt8)) (i : Nat) : St := ⟨ofL [(1, .w (.c (.d (.sl (l.map fun l => D.sl (l.map bD)))))), (7, .w (.c (.ptr 2 1 0 0))), (9, .w (.c (.d (.sl ((vecD (rkK key) l i).map bD))))), (10, .w (.c (.d (.int .i64 (i : Int)))))], hL [(1, .row 1 ((repL 16 (0 : UInt8)).map bD)), (2, .box ((macM4 key).map bC))], uL [1, 2]⟩
theorem one16 : (repL 16 (0 : UInt8)).set 15 1 = putL 1 16 := by decide
theorem vecM_long (rk : List UInt8) {l : List (List UInt8)} {s d : List UInt8} (h : l.length ≠ 0) (hs : l.getD (l.length - 1) [] = s) (hd : vecD rk l (l.length - 1) = d) (h16 : 16 ≤ s.length) : vecM rk l = macM rk (s.take (s.length - 16) ++ xorP (s.drop (s.length - 16)) d) := by
  rw [vecM_some rk h, hs, hd, if_pos h16]
theorem vecM_short (rk : List UInt8) {l : List (List UInt8)} {s d : List UInt8} (h : l.length ≠ 0) (hs : l.getD (l.length - 1) [] = s) (hd : vecD rk l (l.length - 1) = d) (h16 : s.length < 16) : vecM rk l = macM rk (xorP (dblL d) (padL (s ++ [128]))) := by
  rw [vecM_some rk h, hs, hd, if_neg (by omega)]
def lp_rvctr_0 : SCode :=
  .seq (.seq (.reg [⟨(some 19), .mv (.t 6), none⟩,
    ⟨(some 20), .mv (.t 1), none⟩,
    ⟨(some 21), .len (.t 20), none⟩,
    ⟨(some 22), .bin .lss (.t 19) (.t 21), none⟩])
  (.cond (.t 22) (.skip)
   (.exit 0)))
  (.seq (.block 1 (.seq (.reg [⟨(some 25), .mv (.t 1), none⟩,
     ⟨(some 26), .mv (.t 6), none⟩,
     ⟨(some 27), .idxSl 1 (.t 25) (.t 26), none⟩,
     ⟨(some 28), .load .sc (.t 27), none⟩,
     ⟨(some 29), .len (.t 28), none⟩,
     ⟨(some 30), .bin .gtr (.t 29) (.k (.c (.d (.int .i64 65535)))), none⟩])
   (.cond (.t 30) (.seq (.reg [⟨(some 4), .mv (.k (.c .nil)), none⟩,
      ⟨(some 5), .mv (.k (.c (.d (.int .i64 2)))), none⟩])
    (.ret))
    (.skip))))
  (.reg [⟨(some 23), .mv (.t 6), none⟩,
    ⟨(some 24), .bin .add (.t 23) (.k (.c (.d (.int .i64 1)))), none⟩,
    ⟨(some 6), .mv (.t 24), none⟩]))
def lp_rvctr_1 : SCode :=
  .seq (.seq (.reg [⟨(some 45), .mv (.t 10), none⟩,
    ⟨(some 46), .mv (.t 1), none⟩,
    ⟨(some 47), .len (.t 46), none⟩,
    ⟨(some 48), .bin .sub (.t 47) (.k (.c (.d (.int .i64 1)))), none⟩,
    ⟨(some 49), .bin .lss (.t 45) (.t 48), none⟩])
  (.cond (.t 49) (.skip)
   (.exit 2)))
  (.seq (.block 3 (.reg [⟨(some 52), .mv (.t 9), none⟩,
     ⟨(some 53), .call 16 [(.t 52)] none, none⟩,
     ⟨(some 54), .loadB (.ag 688) (.t 7), none⟩,
     ⟨(some 55), .mv (.t 1), none⟩,
     ⟨(some 56), .mv (.t 10), none⟩,
     ⟨(some 57), .idxSl 1 (.t 55) (.t 56), none⟩,
     ⟨(some 58), .load .sc (.t 57), none⟩,
     ⟨(some 59), .call 28 [(.t 54), (.t 58)] none, none⟩,
     ⟨(some 60), .call 20 [(.t 53), (.t 59)] none, none⟩,
     ⟨(some 9), .mv (.t 60), none⟩]))
  (.reg [⟨(some 50), .mv (.t 10), none⟩,
    ⟨(some 51), .bin .add (.t 50) (.k (.c (.d (.int .i64 1)))), none⟩,
    ⟨(some 10), .mv (.t 51), none⟩]))
def sf_rvctr : SFn := ⟨2, 96,
  .seq (.reg [⟨(some 4), .mv (.k (.c .nil)), none⟩,
    ⟨(some 5), .mv (.k (.c (.d (.int .i64 0)))), none⟩])
  (.seq (.seq (.reg [⟨(some 13), .mv (.t 0), none⟩,
    ⟨(some 14), .len (.t 13), none⟩,
    ⟨(some 15), .bin .neq (.t 14) (.k (.c (.d (.int .i64 16)))), none⟩])
  (.cond (.t 15) (.seq (.reg [⟨(some 4), .mv (.k (.c .nil)), none⟩,
     ⟨(some 5), .mv (.k (.c (.d (.int .i64 5)))), none⟩])
   (.ret))
   (.skip)))
  (.seq (.seq (.reg [⟨(some 16), .mv (.t 1), none⟩,
    ⟨(some 17), .len (.t 16), none⟩,
    ⟨(some 18), .bin .gtr (.t 17) (.k (.c (.d (.int .i64 17)))), none⟩])
  (.cond (.t 18) (.seq (.reg [⟨(some 4), .mv (.k (.c .nil)), none⟩,
     ⟨(some 5), .mv (.k (.c (.d (.int .i64 8)))), none⟩])
   (.ret))
   (.skip)))
  (.seq (.seq (.reg [⟨(some 6), .mv (.k (.c (.d (.int .i64 0)))), none⟩])
  (.block 0 (.loop lp_rvctr_0)))
  (.seq (.reg [⟨(some 31), .mv (.t 0), none⟩,
    ⟨(some 32), .call 26 [(.t 31)] none, none⟩,
    ⟨(some 7), .alloc (repL 688 (.d (.int .u8 0))), none⟩,
    ⟨none, .store (.ag 688) (.t 7) (.t 32), none⟩])
  (.seq (.reg [⟨(some 33), .make 1 1 (.int .u8 0) (.k (.c (.d (.int .i64 16)))) (.k (.c (.d (.int .i64 16)))), none⟩,
    ⟨(some 8), .mv (.t 33), none⟩])
  (.seq (.seq (.reg [⟨(some 34), .mv (.t 1), none⟩,
    ⟨(some 35), .len (.t 34), none⟩,
    ⟨(some 36), .bin .eql (.t 35) (.k (.c (.d (.int .i64 0)))), none⟩])
  (.cond (.t 36) (.seq (.reg [⟨(some 37), .mv (.t 8), none⟩,
     ⟨(some 38), .idxSl 1 (.t 37) (.k (.c (.d (.int .i64 15)))), none⟩,
     ⟨none, .store .sc (.t 38) (.k (.c (.d (.int .u8 1)))), none⟩])
   (.seq (.reg [⟨(some 39), .loadB (.ag 688) (.t 7), none⟩,
     ⟨(some 40), .mv (.t 8), none⟩,
     ⟨(some 41), .call 28 [(.t 39), (.t 40)] none, none⟩,
     ⟨(some 4), .mv (.t 41), none⟩,
     ⟨(some 5), .mv (.k (.c (.d (.int .i64 0)))), none⟩])
   (.ret)))
   (.skip)))
  (.seq (.reg [⟨(some 42), .loadB (.ag 688) (.t 7), none⟩,
    ⟨(some 43), .mv (.t 8), none⟩,
    ⟨(some 44), .call 28 [(.t 42), (.t 43)] none, none⟩,
    ⟨(some 9), .mv (.t 44), none⟩])
  (.seq (.seq (.reg [⟨(some 10), .mv (.k (.c (.d (.int .i64 0)))), none⟩])
  (.block 2 (.loop lp_rvctr_1)))
  (.seq (.reg [⟨(some 61), .mv (.t 1), none⟩,
    ⟨(some 62), .mv (.t 1), none⟩,
    ⟨(some 63), .len (.t 62), none⟩,
    ⟨(some 64), .bin .sub (.t 63) (.k (.c (.d (.int .i64 1)))), none⟩,
    ⟨(some 65), .idxSl 1 (.t 61) (.t 64), none⟩,
    ⟨(some 66), .load .sc (.t 65), none⟩,
    ⟨(some 11), .mv (.t 66), none⟩])
  (.seq (.seq (.reg [⟨(some 67), .mv (.t 11), none⟩,
    ⟨(some 68), .len (.t 67), none⟩,
    ⟨(some 69), .bin .geq (.t 68) (.k (.c (.d (.int .i64 16)))), none⟩])
  (.cond (.t 69) (.seq (.reg [⟨(some 70), .mv (.t 11), none⟩,
     ⟨(some 71), .len (.t 70), none⟩,
     ⟨(some 72), .bin .sub (.t 71) (.k (.c (.d (.int .i64 16)))), none⟩,
     ⟨(some 12), .mv (.t 72), none⟩])
   (.seq (.reg [⟨(some 73), .loadB (.ag 688) (.t 7), none⟩,
     ⟨(some 74), .mv (.t 11), none⟩,
     ⟨(some 75), .mv (.t 12), none⟩,
     ⟨(some 76), .slice 1 (.t 74) none (some (.t 75)) none, none⟩,
     ⟨(some 77), .mv (.t 11), none⟩,
     ⟨(some 78), .mv (.t 12), none⟩,
     ⟨(some 79), .slice 1 (.t 77) (some (.t 78)) none none, none⟩,
     ⟨(some 80), .mv (.t 9), none⟩,
     ⟨(some 81), .call 20 [(.t 79), (.t 80)] none, none⟩,
     ⟨(some 82), .bldSl false 2 1 (.sl []) [(0, (.t 76)), (1, (.t 81))], none⟩,
     ⟨(some 83), .call 30 [(.t 82)] none, none⟩,
     ⟨(some 84), .call 28 [(.t 73), (.t 83)] none, none⟩,
     ⟨(some 4), .mv (.t 84), none⟩,
     ⟨(some 5), .mv (.k (.c (.d (.int .i64 0)))), none⟩])
   (.ret)))
   (.skip)))
  (.seq (.reg [⟨(some 85), .loadB (.ag 688) (.t 7), none⟩,
    ⟨(some 86), .mv (.t 9), none⟩,
    ⟨(some 87), .call 16 [(.t 86)] none, none⟩,
    ⟨(some 88), .mv (.t 11), none⟩,
    ⟨(some 89), .bldSl false 1 1 (.sl []) [(0, (.t 88))], none⟩,
    ⟨(some 90), .call 30 [(.t 89)] (some (0, 1)), none⟩,
    ⟨(some 91), .bldSl false 1 1 (.int .u8 0) [(0, (.k (.c (.d (.int .u8 128)))))], none⟩,
    ⟨(some 92), .app false 1 1 (.t 90) (.t 91), none⟩,
    ⟨(some 93), .call 31 [(.t 92), (.k (.c (.d (.int .i64 16))))] none, none⟩,
    ⟨(some 94), .call 20 [(.t 87), (.t 93)] none, none⟩,
    ⟨(some 95), .call 28 [(.t 85), (.t 94)] none, none⟩,
    ⟨(some 4), .mv (.t 95), none⟩,
    ⟨(some 5), .mv (.k (.c (.d (.int .i64 0)))), none⟩])
  (.ret)))))))))))),
  [(4, none), (5, none)]⟩
theorem cf_rvctr : compFn Try.prog { own := [90], comp := [], frz := [], nils := [], bx := [39, 42, 54, 73, 85] } Try.f13 = some sf_rvctr := by kernel_rfl
set_option maxRecDepth 20000 in
set_option maxHeartbeats 6400000 in
theorem rvctr_c (G : Glob) (key : List UInt8) (l : List (List UInt8)) (hk : key.length ≤ 9223372036854775807) (hl : l.length ≤ 9223372036854775807) (hb : ∀ x ∈ l, x.length ≤ 9223372036854775807) : Den Try.prog G 13 [.sl (key.map bD), .sl (l.map fun l => D.sl (l.map bD))] (.tup [.c (.d (.sl ((vctV key l).map bD))), .c (.d (.int .i64 (vctE key l)))]) := by
  refine den_walk Try.func13 cf_rvctr rfl rfl ?_
  unfold vctV vctE
  by_cases h : key.length = 16
  · by_cases h2 : l.length ≤ 17
    · rw [if_neg (by omega : ¬ key.length ≠ 16), if_neg (by omega : ¬ 17 < l.length)]
      simp only [sf_rvctr, putAll, wx, wy, wz, stV, seval, IntWalk.iteOmega, IntWalk.toNatUp, reduceCtorEq]
      refine loop_st (rv0St key l) (fun i => l.length - i) (fun i => i ≤ l.length ∧ ∀ j, j < i → (l.getD j []).length ≤ 65535) 0 ⟨Nat.zero_le _, fun j hj => by omega⟩ ?_ ?_
      · refine ent_l (fun i => 0) ?_ ?_ rfl rfl <;> simp only [wx, wex, wez, stV, seval, IntWalk.iteOmega, IntWalk.toNatUp, reduceCtorEq] <;> rfl
      · rintro i ⟨hi, hok⟩
        by_cases hlt : i < l.length
        · have g1 := getL_lt hlt
          have hx := hb _ (getL_mem hlt)
          by_cases hlong : 65535 < (l.getD i []).length
          · have hL := longL_yes hlt hlong
            rw [hL, if_neg (by simp), if_pos rfl]
            simp only [lp_rvctr_0, rv0St, wx, wy, wz, stV, seval, IntWalk.iteOmega, IntWalk.toNatUp, reduceCtorEq, get_map, g1]
            exact ret_d2 (by simp only [wx, wy, wz, stV, seval, IntWalk.iteOmega, IntWalk.toNatUp, reduceCtorEq]) (by simp only [wx, wy, wz, stV, seval, IntWalk.iteOmega, IntWalk.toNatUp, reduceCtorEq])
          · simp only [lp_rvctr_0, rv0St, wx, wy, wz, stV, seval, IntWalk.iteOmega, IntWalk.toNatUp, reduceCtorEq, get_map, g1]
            refine lop_next (i + 1) (by omega) ⟨by omega, fun j hj => ?_⟩ (ent_l (fun i => i) ?_ ?_ rfl rfl)
            · rcases Nat.lt_or_ge j i with h | h
              · exact hok j h
              · obtain rfl : j = i := by omega
                omega
            all_goals simp only [wx, wex, wez, stV, seval, IntWalk.iteOmega, IntWalk.toNatUp, reduceCtorEq]
        · have hL := longL_no (l := l) (fun j hj => hok j (by omega))
          rw [hL, if_pos ⟨h, h2, rfl⟩, if_neg (by simp)]
          have hall := longL_all hL
          have hM := macM4_len h
          have r4 : List.drop 688 (repL 688 (0 : UInt8)) = [] := List.drop_eq_nil_of_le (by rw [repL_len]; omega)
          have t0 : (repL 16 (0 : UInt8)).take 16 = zero16 := rfl
          have t1 : (macM4 key).take 688 = macM4 key := List.take_of_length_le (by omega)
          simp only [lp_rvctr_0, rv0St, wx, wy, wz, stV, seval, IntWalk.iteOmega, IntWalk.toNatUp, reduceCtorEq, repL_bC]
          have k0 := rmcc_f G key zero16 h (by decide)
          by_cases h0 : l.length = 0
          · rw [vecM_none _ h0]
            have z3 : 15 < (repL 16 (0 : UInt8)).length := by rw [repL_len]; decide
            have z4 : ((repL 16 (0 : UInt8)).map bD).set 15 (D.int .u8 1) = (putL 1 16).map bD := by rw [← one16]; exact set_map bD _ 15 1
            have z5 : (putL 1 16).take 16 = putL 1 16 := List.take_of_length_le (by rw [putL_length]; decide)
            have z6 : (putL 1 16).length = 16 := putL_length _ _
            refine st_call (prep_c G key h) rfl (.inl rfl) ?_
            simp only [len_map, hM, repL_len, map_C, drop_map, app_map, r4, List.append_nil, z16, stO_bs z3 (one_int _ _), z4, take_map, t1, allD_bs, wx, wy, wz, stV, seval, IntWalk.iteOmega, IntWalk.toNatUp, reduceCtorEq]
            have k1 := rmcc_f G key (putL 1 16) h (by rw [putL_length]; decide)
            refine st_call k1 (by simp only [wx, wy, wz, stV, seval, IntWalk.iteOmega, IntWalk.toNatUp, reduceCtorEq, take_map, z5, repL_len]) (.inr (fl_b _ _)) ?_
            simp only [wx, wy, wz, stV, seval, IntWalk.iteOmega, IntWalk.toNatUp, reduceCtorEq]
            exact ret_d2 (by simp only [wx, wy, wz, stV, seval, IntWalk.iteOmega, IntWalk.toNatUp, reduceCtorEq]) (by simp only [wx, wy, wz, stV, seval, IntWalk.iteOmega, IntWalk.toNatUp, reduceCtorEq])
          · refine st_call (prep_c G key h) rfl (.inl rfl) ?_
            simp only [len_map, hM, repL_len, map_C, drop_map, app_map, r4, List.append_nil, z16, take_map, t1, allD_bs, wx, wy, wz, stV, seval, IntWalk.iteOmega, IntWalk.toNatUp, reduceCtorEq]
            refine st_call k0 (by simp only [wx, wy, wz, stV, seval, IntWalk.iteOmega, IntWalk.toNatUp, reduceCtorEq, take_map, t0, repL_len]) (.inr (fl_b _ _)) ?_
            simp only [wx, wy, wz, stV, seval, IntWalk.iteOmega, IntWalk.toNatUp, reduceCtorEq]
            refine loop_st (rv1St key l) (fun i => l.length - 1 - i) (fun i => i ≤ l.length - 1) 0 (Nat.zero_le _) ?_ ?_
            · refine ent_l (fun i => if i = 1 then 264 else 56) ?_ ?_ rfl (by simp [V.ids, W.ids, C.ids, Ob.ids, ids_bC]) <;> simp only [wx, wex, wez, stV, seval, IntWalk.iteOmega, IntWalk.toNatUp, reduceCtorEq, ren_bC, ids_bC, vecD] <;> rfl
            · intro i hi
              have hd := vecD_len (rkK key) l i
              by_cases hlt : i < l.length - 1
              · have g1 := getL_lt (l := l) (j := i) (by omega)
                have hx := hall _ (getL_mem (l := l) (j := i) (by omega))
                have hs : xorP (dblL (vecD (rkK key) l i)) (macM (rkK key) (l.getD i [])) = vecD (rkK key) l (i + 1) := rfl
                have h1 := rdbb_c G (vecD (rkK key) l i) (by omega)
                have h2 := rmcc_c G key (l.getD i []) h (by omega)
                have h3 := rxor_c G (dblL (vecD (rkK key) l i)) (macM (rkK key) (l.getD i [])) (by rw [dblL_len hd]; decide) (by rw [macM_len]; decide)
                rw [hs] at h3
                simp only [lp_rvctr_1, rv1St, wx, wy, wz, stV, seval, IntWalk.iteOmega, IntWalk.toNatUp, reduceCtorEq, len_map, hM, take_map, t1, allD_bs, get_map, g1]
                refine st_call (h1) rfl (.inl rfl) ?_
                simp only [len_map, hM, take_map, t1, allD_bs, get_map, g1, wx, wy, wz, stV, seval, IntWalk.iteOmega, IntWalk.toNatUp, reduceCtorEq]
                refine st_call (h2) rfl (.inl rfl) ?_
                simp only [wx, wy, wz, stV, seval, IntWalk.iteOmega, IntWalk.toNatUp, reduceCtorEq]
                refine st_call (h3) rfl (.inl rfl) ?_
                simp only [wx, wy, wz, stV, seval, IntWalk.iteOmega, IntWalk.toNatUp, reduceCtorEq]
                refine lop_next (i + 1) (by omega) (by omega) (ent_l (fun i => i) ?_ ?_ rfl (by simp [V.ids, W.ids, C.ids, Ob.ids, ids_bC])) <;> simp only [wx, wex, wez, stV, seval, IntWalk.iteOmega, IntWalk.toNatUp, reduceCtorEq, ren_bC, ids_bC]
              · obtain rfl : i = l.length - 1 := by omega
                have g1 := getL_lt (l := l) (j := l.length - 1) (by omega)
                have hx := hall _ (getL_mem (l := l) (j := l.length - 1) (by omega))
                have e1 : (((l.length : Int) - 1).toNat) = l.length - 1 := by omega
                generalize hs : l.getD (l.length - 1) [] = s at *
                generalize hdd : vecD (rkK key) l (l.length - 1) = d at *
                have e2 : (((s.length : Int) - 16).toNat) = s.length - 16 := by omega
                by_cases h16 : 16 ≤ s.length
                · rw [vecM_long _ h0 hs hdd h16]
                  have hl : (s.drop (s.length - 16)).length = 16 := by rw [List.length_drop]; omega
                  have ht : (s.drop (s.length - 16)).take (s.length - (s.length - 16)) = s.drop (s.length - 16) := List.take_of_length_le (by omega)
                  have hj := rjoin_c G [s.take (s.length - 16), xorP (s.drop (s.length - 16)) d] (by simp) (by simp [xorP_len]; omega)
                  have hf : [s.take (s.length - 16), xorP (s.drop (s.length - 16)) d].flatten = s.take (s.length - 16) ++ xorP (s.drop (s.length - 16)) d := by simp
                  rw [hf] at hj
                  have k3 := rmcc_c G key (s.take (s.length - 16) ++ xorP (s.drop (s.length - 16)) d) h (by rw [List.length_append, xorP_len, ← List.length_append, List.take_append_drop]; omega)
                  simp only [lp_rvctr_1, rv1St, hdd, wx, wy, wz, stV, seval, IntWalk.iteOmega, IntWalk.toNatUp, reduceCtorEq, len_map, hM, take_map, t1, allD_bs, get_map, g1, e1, e2, ht]
                  refine st_call (rxor_c G (s.drop (s.length - 16)) d (by omega) (by omega)) rfl (.inl rfl) ?_
                  simp only [wx, wy, wz, stV, seval, IntWalk.iteOmega, IntWalk.toNatUp, reduceCtorEq]
                  refine st_call (hj) rfl (.inl rfl) ?_
                  simp only [wx, wy, wz, stV, seval, IntWalk.iteOmega, IntWalk.toNatUp, reduceCtorEq]
                  refine st_call (k3) rfl (.inl rfl) ?_
                  simp only [wx, wy, wz, stV, seval, IntWalk.iteOmega, IntWalk.toNatUp, reduceCtorEq]
                  exact ret_d2 (by simp only [wx, wy, wz, stV, seval, IntWalk.iteOmega, IntWalk.toNatUp, reduceCtorEq]) (by simp only [wx, wy, wz, stV, seval, IntWalk.iteOmega, IntWalk.toNatUp, reduceCtorEq])
                · have h15 : s.length < 16 := by omega
                  rw [vecM_short _ h0 hs hdd h15]
                  have hj := rjoin_c G [s] (by simp) (by simp; omega)
                  have hf : [s].flatten = s := by simp
                  rw [hf] at hj
                  have p1 := rpad_c G (s ++ [128]) 16 (by simp; omega)
                  rw [padN_16] at p1
                  have b128 : s.map bD ++ [D.int .u8 128] = (s ++ [128]).map bD := by rw [List.map_append]; rfl
                  have tc2 : (s ++ [128]).take (s.length + 1) = s ++ [128] := List.take_of_length_le (by simp)
                  have lc : (s ++ [(128 : UInt8)]).length = s.length + 1 := by simp
                  have p3 := rxor_c G (dblL d) (padL (s ++ [128])) (by rw [dblL_len hd]; decide) (by rw [padL_short h15]; decide)
                  have k3 := rmcc_c G key (xorP (dblL d) (padL (s ++ [128]))) h (by rw [xorP_len, dblL_len hd]; decide)
                  simp only [lp_rvctr_1, rv1St, hdd, wx, wy, wz, stV, seval, IntWalk.iteOmega, IntWalk.toNatUp, reduceCtorEq, len_map, hM, take_map, t1, allD_bs, get_map, g1, e1]
                  refine st_call (rdbb_c G d (by omega)) rfl (.inl rfl) ?_
                  simp only [wx, wy, wz, stV, seval, IntWalk.iteOmega, IntWalk.toNatUp, reduceCtorEq]
                  refine st_call (hj) rfl (.inl rfl) ?_
                  simp only [srcV, b128, wx, wy, wz, stV, seval, IntWalk.iteOmega, IntWalk.toNatUp, reduceCtorEq]
                  refine st_call p1 (by simp only [wx, wy, wz, stV, seval, IntWalk.iteOmega, IntWalk.toNatUp, reduceCtorEq, take_map, tc2, lc]) (.inr (fl_b _ _)) ?_
                  simp only [wx, wy, wz, stV, seval, IntWalk.iteOmega, IntWalk.toNatUp, reduceCtorEq]
                  refine st_call (p3) rfl (.inl rfl) ?_
                  simp only [wx, wy, wz, stV, seval, IntWalk.iteOmega, IntWalk.toNatUp, reduceCtorEq]
                  refine st_call (k3) rfl (.inl rfl) ?_
                  simp only [wx, wy, wz, stV, seval, IntWalk.iteOmega, IntWalk.toNatUp, reduceCtorEq]
                  exact ret_d2 (by simp only [wx, wy, wz, stV, seval, IntWalk.iteOmega, IntWalk.toNatUp, reduceCtorEq]) (by simp only [wx, wy, wz, stV, seval, IntWalk.iteOmega, IntWalk.toNatUp, reduceCtorEq])
    · rw [if_neg (by omega), if_neg (by omega), if_pos (by omega)]
      have h3 : 17 < l.length := by omega
      simp only [sf_rvctr, putAll, wx, wy, wz, stV, seval, IntWalk.iteOmega, IntWalk.toNatUp, reduceCtorEq]
      exact ret_d2 (by simp only [wx, wy, wz, stV, seval, IntWalk.iteOmega, IntWalk.toNatUp, reduceCtorEq]) (by simp only [wx, wy, wz, stV, seval, IntWalk.iteOmega, IntWalk.toNatUp, reduceCtorEq])
  · rw [if_neg (by omega), if_pos h]
    simp only [sf_rvctr, putAll, wx, wy, wz, stV, seval, IntWalk.iteOmega, IntWalk.toNatUp, reduceCtorEq]
    exact ret_d2 (by simp only [wx, wy, wz, stV, seval, IntWalk.iteOmega, IntWalk.toNatUp, reduceCtorEq]) (by simp only [wx, wy, wz, stV, seval, IntWalk.iteOmega, IntWalk.toNatUp, reduceCtorEq])
end Go.Proofs.Ytnadfnnkdnakhaa
