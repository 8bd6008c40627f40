/- Layer 5 on data: the program's codes. Own work. -/
import Derived.Test.YtnadfnnkdnakhaaPm1
set_option linter.unusedVariables false
set_option linter.unusedSimpArgs false
namespace Go.Proofs.Ytnadfnnkdnakhaa
open Go.RowKit

theorem blkV_ok {key b : List UInt8} (h : key.length = 16) (hb : b.length = 16) : blkV key b = encK (rkK key) b := if_pos ⟨h, hb⟩
theorem blkE_ok {key b : List UInt8} (h : key.length = 16) (hb : b.length = 16) : blkE key b = 0 := by unfold blkE; rw [if_neg (by omega), if_neg (by omega)]
theorem padN_16 (b : List UInt8) : padN b 16 = padL b := rfl
/-- A key and what follows from it. -/
def cdD (key : List UInt8) : D := .agg [.sl (key.map bD), .sl ((sub1 (rkK key)).map bD), .sl ((sub2 (rkK key)).map bD)]
def cdV (key : List UInt8) : D := if key.length = 16 then cdD key else .agg [.sl [], .sl [], .sl []]
theorem fl_bt (s : Nat) (l : List UInt8) (k : IntKind) (n : Int) : V.flat (.tup [.c (.fr s (l.map bD)), .c (.d (.int k n))]) = true := by
  have := fl_b s l
  simp only [V.flat, W.flat, List.all_cons, List.all_nil, Bool.and_true] at this ⊢
  rw [this]; rfl
def sf_kenc : SFn := ⟨2, 15,
  .seq (.reg [⟨(some 2), .box .roBox (.t 0), none⟩,
    ⟨(some 4), .mv (.k (.c .nil)), none⟩])
  (.seq (.reg [⟨(some 8), .fieldAddr 0 (.t 2), none⟩,
    ⟨(some 9), .load .sc (.t 8), none⟩,
    ⟨(some 10), .mv (.t 1), none⟩,
    ⟨(some 11), .call 19 [(.t 9), (.t 10)] (some (0, 1)), none⟩,
    ⟨(some 7), .mv (.t 11), none⟩,
    ⟨(some 12), .extract (.t 7) 0, none⟩,
    ⟨(some 13), .extract (.t 7) 1, none⟩,
    ⟨(some 5), .mv (.t 12), none⟩,
    ⟨(some 6), .mv (.t 13), none⟩])
  (.seq (.reg [⟨(some 14), .mv (.t 5), none⟩,
    ⟨(some 4), .mv (.t 14), none⟩])
  (.ret))),
  [(4, none)]⟩
theorem cf_kenc : compFn Try.prog { own := [], comp := [(11, 0)], frz := [], nils := [] } Try.f39 = some sf_kenc := by kernel_rfl
set_option maxHeartbeats 1600000 in
theorem kenc_f (G : Glob) (key b : List UInt8) (h : key.length = 16) (hb : b.length = 16) : Den Try.prog G 39 [.agg [.sl (key.map bD)], .sl (b.map bD)] (.w (.c (.fr 1 ((encK (rkK key) b).map bD)))) := by
  refine den_walk Try.func39 cf_kenc rfl rfl ?_
  have hx := blk_f G key b (by omega) (by omega)
  rw [blkV_ok h hb, blkE_ok h hb] at hx
  simp only [sf_kenc, putAll, wx, wy, wz, stV, seval, IntWalk.iteOmega, IntWalk.toNatUp, reduceCtorEq]
  refine st_call (hx) rfl (.inl rfl) ?_
  simp only [wx, wy, wz, stV, seval, IntWalk.iteOmega, IntWalk.toNatUp, reduceCtorEq]
  exact ret_f1 (by simp only [wx, wy, wz, stV, seval, IntWalk.iteOmega, IntWalk.toNatUp, reduceCtorEq])
theorem kenc_c (G : Glob) (key b : List UInt8) (h : key.length = 16) (hb : b.length = 16) : Den Try.prog G 39 [.agg [.sl (key.map bD)], .sl (b.map bD)] (.w (.c (.d (.sl ((encK (rkK key) b).map bD))))) := den_ro (kenc_f G key b h hb)
def sf_cdof : SFn := ⟨1, 25,
  .seq (.reg [⟨(some 2), .alloc [.nil, .nil, .nil], none⟩,
    ⟨(some 3), .mv (.k (.c (.d (.int .i64 0)))), none⟩])
  (.seq (.reg [⟨(some 8), .mv (.t 0), none⟩,
    ⟨(some 9), .make 1 1 (.int .u8 0) (.k (.c (.d (.int .i64 16)))) (.k (.c (.d (.int .i64 16)))), none⟩,
    ⟨(some 10), .call 19 [(.t 8), (.t 9)] none, none⟩,
    ⟨(some 7), .mv (.t 10), none⟩,
    ⟨(some 11), .extract (.t 7) 0, none⟩,
    ⟨(some 12), .extract (.t 7) 1, none⟩,
    ⟨(some 4), .mv (.t 11), none⟩,
    ⟨(some 5), .mv (.t 12), none⟩])
  (.seq (.seq (.reg [⟨(some 13), .mv (.t 5), none⟩,
    ⟨(some 14), .bin .neq (.t 13) (.k (.c (.d (.int .i64 0)))), none⟩])
  (.cond (.t 14) (.seq (.reg [⟨(some 15), .build [.nil, .nil, .nil] [], none⟩,
     ⟨(some 16), .mv (.t 5), none⟩,
     ⟨none, .store (.ag 3) (.t 2) (.t 15), none⟩,
     ⟨(some 3), .mv (.t 16), none⟩])
   (.ret))
   (.skip)))
  (.seq (.reg [⟨(some 17), .mv (.t 4), none⟩,
    ⟨(some 18), .call 15 [(.t 17)] none, none⟩,
    ⟨(some 6), .mv (.t 18), none⟩])
  (.seq (.reg [⟨(some 19), .mv (.t 0), none⟩,
    ⟨(some 20), .build [.nil] [(0, 1, (.t 19))], none⟩,
    ⟨(some 21), .mv (.t 6), none⟩,
    ⟨(some 22), .mv (.t 6), none⟩,
    ⟨(some 23), .call 15 [(.t 22)] none, none⟩,
    ⟨(some 24), .build [.nil, .nil, .nil] [(0, 1, (.t 20)), (1, 1, (.t 21)), (2, 1, (.t 23))], none⟩,
    ⟨none, .store (.ag 3) (.t 2) (.t 24), none⟩,
    ⟨(some 3), .mv (.k (.c (.d (.int .i64 0)))), none⟩])
  (.ret))))),
  [(2, (some (.ag 3))), (3, none)]⟩
theorem cf_cdof : compFn Try.prog { own := [], comp := [], frz := [], nils := [] } Try.f24 = some sf_cdof := by kernel_rfl
set_option maxHeartbeats 1600000 in
theorem cdof_c (G : Glob) (key : List UInt8) (hk : key.length ≤ 9223372036854775807) : Den Try.prog G 24 [.sl (key.map bD)] (.tup [.c (.d (cdV key)), .c (.d (.int .i64 (keyE key)))]) := by
  refine den_walk Try.func24 cf_cdof rfl rfl ?_
  have t0 : (repL 16 (0 : UInt8)).take 16 = zero16 := rfl
  by_cases h : key.length = 16
  · have hx := blk_f G key zero16 (by omega) (by decide)
    rw [blkV_ok h (by decide), blkE_ok h (by decide)] at hx
    have hv : cdV key = cdD key := if_pos h
    have he : keyE key = 0 := by unfold keyE; rw [if_neg (by omega)]
    have h1 := dbb_c G (encK (rkK key) zero16) (by rw [encK_len]; decide)
    have h2 := dbb_c G (sub1 (rkK key)) (by rw [sub1_len]; decide)
    have s1 : dblL (encK (rkK key) zero16) = sub1 (rkK key) := rfl
    have s2 : dblL (sub1 (rkK key)) = sub2 (rkK key) := rfl
    rw [s1] at h1
    rw [s2] at h2
    rw [hv, he]
    simp only [sf_cdof, putAll, wx, wy, wz, stV, seval, IntWalk.iteOmega, IntWalk.toNatUp, reduceCtorEq, z16]
    refine st_call hx (by simp only [wx, wy, wz, stV, seval, IntWalk.iteOmega, IntWalk.toNatUp, reduceCtorEq, take_map, t0, repL_len]) (.inr (fl_bt _ _ _ _)) ?_
    simp only [wx, wy, wz, stV, seval, IntWalk.iteOmega, IntWalk.toNatUp, reduceCtorEq]
    refine st_call (h1) rfl (.inl rfl) ?_
    simp only [wx, wy, wz, stV, seval, IntWalk.iteOmega, IntWalk.toNatUp, reduceCtorEq]
    refine st_call (h2) rfl (.inl rfl) ?_
    simp only [wx, wy, wz, stV, seval, IntWalk.iteOmega, IntWalk.toNatUp, reduceCtorEq]
    exact ret_d2 (by simp only [wx, wy, wz, stV, seval, IntWalk.iteOmega, IntWalk.toNatUp, reduceCtorEq, cdD]) (by simp only [wx, wy, wz, stV, seval, IntWalk.iteOmega, IntWalk.toNatUp, reduceCtorEq])
  · have hv : cdV key = .agg [.sl [], .sl [], .sl []] := if_neg h
    have he : keyE key = 5 := if_pos h
    have hx := blk_f G key zero16 (by omega) (by decide)
    have v1 : blkV key zero16 = [] := if_neg (fun k => h k.1)
    have v2 : blkE key zero16 = 5 := if_pos h
    rw [v1, v2] at hx
    rw [hv, he]
    simp only [sf_cdof, putAll, wx, wy, wz, stV, seval, IntWalk.iteOmega, IntWalk.toNatUp, reduceCtorEq, z16]
    refine st_call hx (by simp only [wx, wy, wz, stV, seval, IntWalk.iteOmega, IntWalk.toNatUp, reduceCtorEq, take_map, t0, repL_len]) (.inr (fl_bt _ _ _ _)) ?_
    simp only [wx, wy, wz, stV, seval, IntWalk.iteOmega, IntWalk.toNatUp, reduceCtorEq]
    exact ret_d2 (by simp only [wx, wy, wz, stV, seval, IntWalk.iteOmega, IntWalk.toNatUp, reduceCtorEq]) (by simp only [wx, wy, wz, stV, seval, IntWalk.iteOmega, IntWalk.toNatUp, reduceCtorEq])
def sf_fild : SFn := ⟨1, 8,
  .seq (.reg [⟨(some 2), .mv (.k (.c .nil)), none⟩])
  (.seq (.reg [⟨(some 3), .mv (.t 0), none⟩,
    ⟨(some 4), .bldSl false 1 1 (.int .u8 0) [(0, (.k (.c (.d (.int .u8 128)))))], none⟩,
    ⟨(some 5), .bldSl false 2 1 (.sl []) [(0, (.t 3)), (1, (.t 4))], none⟩,
    ⟨(some 6), .call 55 [(.t 5)] none, none⟩,
    ⟨(some 7), .call 58 [(.t 6), (.k (.c (.d (.int .i64 16))))] none, none⟩,
    ⟨(some 2), .mv (.t 7), none⟩])
  (.ret)),
  [(2, none)]⟩
theorem cf_fild : compFn Try.prog { own := [], comp := [], frz := [], nils := [] } Try.f54 = some sf_fild := by kernel_rfl
set_option maxHeartbeats 1600000 in
theorem fild_c (G : Glob) (b : List UInt8) (hb : b.length ≤ 70000) : Den Try.prog G 54 [.sl (b.map bD)] (.w (.c (.d (.sl ((padL (b ++ [128])).map bD))))) := by
  refine den_walk Try.func54 cf_fild rfl rfl ?_
  have hj := join_c G [b, [128]] (by simp) (by simp; omega)
  have hf : [b, [128]].flatten = b ++ [128] := by simp
  rw [hf] at hj
  have hp := pad_c G (b ++ [128]) 16 (by simp; omega)
  rw [padN_16] at hp
  simp only [sf_fild, putAll, wx, wy, wz, stV, seval, IntWalk.iteOmega, IntWalk.toNatUp, reduceCtorEq]
  refine st_call (hj) rfl (.inl rfl) ?_
  simp only [wx, wy, wz, stV, seval, IntWalk.iteOmega, IntWalk.toNatUp, reduceCtorEq]
  refine st_call (hp) rfl (.inl rfl) ?_
  simp only [wx, wy, wz, stV, seval, IntWalk.iteOmega, IntWalk.toNatUp, reduceCtorEq]
  exact ret_d1 (by simp only [wx, wy, wz, stV, seval, IntWalk.iteOmega, IntWalk.toNatUp, reduceCtorEq])
theorem endM_full (rk : List UInt8) {e : List UInt8} (h : e.length = 16) : endM rk e = xorP e (sub1 rk) := if_pos h
theorem endM_part (rk : List UInt8) {e : List UInt8} (h : e.length ≠ 16) : endM rk e = xorP (padL (e ++ [128])) (sub2 rk) := if_neg h
def sf_clast : SFn := ⟨2, 17,
  .seq (.reg [⟨(some 2), .box .roBox (.t 0), none⟩,
    ⟨(some 4), .mv (.k (.c .nil)), none⟩])
  (.seq (.seq (.reg [⟨(some 5), .mv (.t 1), none⟩,
    ⟨(some 6), .len (.t 5), none⟩,
    ⟨(some 7), .bin .eql (.t 6) (.k (.c (.d (.int .i64 16)))), none⟩])
  (.cond (.t 7) (.seq (.reg [⟨(some 8), .mv (.t 1), none⟩,
     ⟨(some 9), .fieldAddr 1 (.t 2), none⟩,
     ⟨(some 10), .load .sc (.t 9), none⟩,
     ⟨(some 11), .call 40 [(.t 8), (.t 10)] none, none⟩,
     ⟨(some 4), .mv (.t 11), none⟩])
   (.ret))
   (.skip)))
  (.seq (.reg [⟨(some 12), .mv (.t 1), none⟩,
    ⟨(some 13), .call 54 [(.t 12)] none, none⟩,
    ⟨(some 14), .fieldAddr 2 (.t 2), none⟩,
    ⟨(some 15), .load .sc (.t 14), none⟩,
    ⟨(some 16), .call 40 [(.t 13), (.t 15)] none, none⟩,
    ⟨(some 4), .mv (.t 16), none⟩])
  (.ret))),
  [(4, none)]⟩
theorem cf_clast : compFn Try.prog { own := [], comp := [], frz := [], nils := [] } Try.f41 = some sf_clast := by kernel_rfl
set_option maxHeartbeats 1600000 in
theorem clast_c (G : Glob) (key b : List UInt8) (hb : b.length ≤ 16) : Den Try.prog G 41 [cdD key, .sl (b.map bD)] (.w (.c (.d (.sl ((endM (rkK key) b).map bD))))) := by
  refine den_walk Try.func41 cf_clast rfl rfl ?_
  by_cases h : b.length = 16
  · rw [endM_full _ h]
    simp only [sf_clast, putAll, cdD, wx, wy, wz, stV, seval, IntWalk.iteOmega, IntWalk.toNatUp, reduceCtorEq, h]
    refine st_call (cmb_c G b (sub1 (rkK key)) h (sub1_len _)) rfl (.inl rfl) ?_
    simp only [wx, wy, wz, stV, seval, IntWalk.iteOmega, IntWalk.toNatUp, reduceCtorEq]
    exact ret_d1 (by simp only [wx, wy, wz, stV, seval, IntWalk.iteOmega, IntWalk.toNatUp, reduceCtorEq])
  · rw [endM_part _ h]
    simp only [sf_clast, putAll, cdD, wx, wy, wz, stV, seval, IntWalk.iteOmega, IntWalk.toNatUp, reduceCtorEq]
    refine st_call (fild_c G b (by omega)) rfl (.inl rfl) ?_
    simp only [wx, wy, wz, stV, seval, IntWalk.iteOmega, IntWalk.toNatUp, reduceCtorEq]
    refine st_call (cmb_c G (padL (b ++ [128])) (sub2 (rkK key)) (padL_short (by omega)) (sub2_len _)) rfl (.inl rfl) ?_
    simp only [wx, wy, wz, stV, seval, IntWalk.iteOmega, IntWalk.toNatUp, reduceCtorEq]
    exact ret_d1 (by simp only [wx, wy, wz, stV, seval, IntWalk.iteOmega, IntWalk.toNatUp, reduceCtorEq])
def codV (key b : List UInt8) : Nat → V
  | 0 => .w (.c (.own 1 1 0 16))
  | i + 1 => .w (.c (.d (.sl ((cbcM (rkK key) b (i + 1)).map bD))))
def codSt (key b : List UInt8) (i : Nat) : St := ⟨ofL [(1, .w (.c (.d (.sl ((b.drop (16 * i)).map bD))))), (2, .w (.c (.rp [.sl (key.map bD), .sl ((sub1 (rkK key)).map bD), .sl ((sub2 (rkK key)).map bD)]))), (5, codV key b i)], hL [(1, .row 1 ((repL 16 (0 : UInt8)).map bD))], uL [1]⟩
theorem drop16 (b : List UInt8) (i : Nat) : ((b.drop (16 * i)).drop 16).take ((b.drop (16 * i)).length - 16) = b.drop (16 * (i + 1)) := by
  rw [List.drop_drop, List.take_of_length_le (by simp only [List.length_drop]; omega)]; rfl
def lp_code_0 : SCode :=
  .seq (.seq (.reg [⟨(some 7), .mv (.t 1), none⟩,
    ⟨(some 8), .len (.t 7), none⟩,
    ⟨(some 9), .bin .gtr (.t 8) (.k (.c (.d (.int .i64 16)))), none⟩])
  (.cond (.t 9) (.skip)
   (.exit 0)))
  (.block 1 (.seq (.reg [⟨(some 10), .fieldAddr 0 (.t 2), none⟩,
     ⟨(some 11), .load (.ag 1) (.t 10), none⟩,
     ⟨(some 12), .mv (.t 5), none⟩,
     ⟨(some 13), .mv (.t 1), none⟩,
     ⟨(some 14), .slice 1 (.t 13) none (some (.k (.c (.d (.int .i64 16))))) none, none⟩,
     ⟨(some 15), .call 40 [(.t 12), (.t 14)] none, none⟩,
     ⟨(some 16), .call 39 [(.t 11), (.t 15)] none, none⟩,
     ⟨(some 5), .mv (.t 16), none⟩])
   (.reg [⟨(some 17), .mv (.t 1), none⟩,
     ⟨(some 18), .slice 1 (.t 17) (some (.k (.c (.d (.int .i64 16))))) none none, none⟩,
     ⟨(some 1), .mv (.t 18), none⟩])))
def sf_code : SFn := ⟨2, 27,
  .seq (.reg [⟨(some 2), .box .roBox (.t 0), none⟩,
    ⟨(some 4), .mv (.k (.c .nil)), none⟩])
  (.seq (.reg [⟨(some 6), .make 1 1 (.int .u8 0) (.k (.c (.d (.int .i64 16)))) (.k (.c (.d (.int .i64 16)))), none⟩,
    ⟨(some 5), .mv (.t 6), none⟩])
  (.seq (.block 0 (.loop lp_code_0))
  (.seq (.reg [⟨(some 19), .fieldAddr 0 (.t 2), none⟩,
    ⟨(some 20), .load (.ag 1) (.t 19), none⟩,
    ⟨(some 21), .mv (.t 5), none⟩,
    ⟨(some 22), .load (.ag 3) (.t 2), none⟩,
    ⟨(some 23), .mv (.t 1), none⟩,
    ⟨(some 24), .call 41 [(.t 22), (.t 23)] none, none⟩,
    ⟨(some 25), .call 40 [(.t 21), (.t 24)] none, none⟩,
    ⟨(some 26), .call 39 [(.t 20), (.t 25)] (some (0, 1)), none⟩,
    ⟨(some 4), .mv (.t 26), none⟩])
  (.ret)))),
  [(4, none)]⟩
theorem cf_code : compFn Try.prog { own := [26], comp := [], frz := [], nils := [] } Try.f27 = some sf_code := by kernel_rfl
set_option maxHeartbeats 3200000 in
theorem code_f (G : Glob) (key b : List UInt8) (h : key.length = 16) (hb : b.length ≤ 70000) : Den Try.prog G 27 [cdD key, .sl (b.map bD)] (.w (.c (.fr 1 ((macM (rkK key) b).map bD)))) := by
  refine den_walk Try.func27 cf_code rfl rfl ?_
  have t0 : (repL 16 (0 : UInt8)).take 16 = zero16 := rfl
  have hah : aheadM b = (b.length + 15) / 16 - 1 := rfl
  have hm : ∀ i, i = aheadM b → macM (rkK key) b = encK (rkK key) (xorP (cbcM (rkK key) b i) (endM (rkK key) (b.drop (16 * i)))) := fun i e => by rw [e]; rfl
  simp only [sf_code, putAll, cdD, wx, wy, wz, stV, seval, IntWalk.iteOmega, IntWalk.toNatUp, reduceCtorEq, z16]
  refine loop_st (codSt key b) (fun i => aheadM b - i) (fun i => i ≤ aheadM b) 0 (Nat.zero_le _) ?_ ?_
  · refine ent_l (fun i => 48) ?_ ?_ rfl rfl <;> simp only [wx, wex, wez, stV, seval, IntWalk.iteOmega, IntWalk.toNatUp, reduceCtorEq, codV]
  · intro i hi
    have hcl : (b.drop (16 * i)).length = b.length - 16 * i := List.length_drop
    have hdr := drop16 b i
    by_cases hlt : i < aheadM b
    · have hT : ((b.drop (16 * i)).take 16).length = 16 := by rw [List.length_take]; omega
      have hstep : encK (rkK key) (xorP (cbcM (rkK key) b i) ((b.drop (16 * i)).take 16)) = cbcM (rkK key) b (i + 1) := rfl
      have h1 := cmb_c G (cbcM (rkK key) b i) ((b.drop (16 * i)).take 16) (cbcM_len _ _ _) hT
      have h2 := kenc_c G key (xorP (cbcM (rkK key) b i) ((b.drop (16 * i)).take 16)) h (by rw [xorP_len, cbcM_len])
      rw [hstep] at h2
      rcases i with _ | i
      · have hz : cbcM (rkK key) b 0 = zero16 := rfl
        rw [hz] at h1 h2
        simp only [Nat.mul_zero, List.drop_zero, Nat.zero_add, Nat.mul_one] at hdr
        simp only [lp_code_0, codSt, codV, wx, wy, wz, stV, seval, IntWalk.iteOmega, IntWalk.toNatUp, reduceCtorEq]
        refine st_call h1 (by simp only [wx, wy, wz, stV, seval, IntWalk.iteOmega, IntWalk.toNatUp, reduceCtorEq, take_map, t0, repL_len]) (.inr (fl_b _ _)) ?_
        simp only [wx, wy, wz, stV, seval, IntWalk.iteOmega, IntWalk.toNatUp, reduceCtorEq]
        refine st_call (h2) rfl (.inl rfl) ?_
        simp only [hdr, wx, wy, wz, stV, seval, IntWalk.iteOmega, IntWalk.toNatUp, reduceCtorEq]
        refine lop_next (0 + 1) (by omega) (by omega) (ent_l (fun i => i) ?_ ?_ rfl rfl) <;> simp only [wx, wex, wez, stV, seval, IntWalk.iteOmega, IntWalk.toNatUp, reduceCtorEq, codV]
      · simp only [lp_code_0, codSt, codV, wx, wy, wz, stV, seval, IntWalk.iteOmega, IntWalk.toNatUp, reduceCtorEq]
        refine st_call (h1) rfl (.inl rfl) ?_
        simp only [wx, wy, wz, stV, seval, IntWalk.iteOmega, IntWalk.toNatUp, reduceCtorEq]
        refine st_call (h2) rfl (.inl rfl) ?_
        simp only [hdr, wx, wy, wz, stV, seval, IntWalk.iteOmega, IntWalk.toNatUp, reduceCtorEq]
        refine lop_next (i + 1 + 1) (by omega) (by omega) (ent_l (fun i => i) ?_ ?_ rfl rfl) <;> simp only [wx, wex, wez, stV, seval, IntWalk.iteOmega, IntWalk.toNatUp, reduceCtorEq, codV]
    · rw [hm i (by omega)]
      have hl16 : (b.drop (16 * i)).length ≤ 16 := by omega
      have h1 := clast_c G key (b.drop (16 * i)) hl16
      have h2 := cmb_c G (cbcM (rkK key) b i) (endM (rkK key) (b.drop (16 * i))) (cbcM_len _ _ _) (endM_len hl16)
      have h3 := kenc_f G key (xorP (cbcM (rkK key) b i) (endM (rkK key) (b.drop (16 * i)))) h (by rw [xorP_len, cbcM_len])
      rcases i with _ | i
      · have hz : cbcM (rkK key) b 0 = zero16 := rfl
        rw [hz] at h2 h3 ⊢
        simp only [lp_code_0, codSt, codV, wx, wy, wz, stV, seval, IntWalk.iteOmega, IntWalk.toNatUp, reduceCtorEq]
        refine st_call (h1) rfl (.inl rfl) ?_
        simp only [wx, wy, wz, stV, seval, IntWalk.iteOmega, IntWalk.toNatUp, reduceCtorEq]
        refine st_call h2 (by simp only [wx, wy, wz, stV, seval, IntWalk.iteOmega, IntWalk.toNatUp, reduceCtorEq, take_map, t0, repL_len]) (.inr (fl_b _ _)) ?_
        simp only [wx, wy, wz, stV, seval, IntWalk.iteOmega, IntWalk.toNatUp, reduceCtorEq]
        refine st_call (h3) rfl (.inl rfl) ?_
        simp only [wx, wy, wz, stV, seval, IntWalk.iteOmega, IntWalk.toNatUp, reduceCtorEq]
        exact ret_f1 (by simp only [wx, wy, wz, stV, seval, IntWalk.iteOmega, IntWalk.toNatUp, reduceCtorEq])
      · simp only [lp_code_0, codSt, codV, wx, wy, wz, stV, seval, IntWalk.iteOmega, IntWalk.toNatUp, reduceCtorEq]
        refine st_call (h1) rfl (.inl rfl) ?_
        simp only [wx, wy, wz, stV, seval, IntWalk.iteOmega, IntWalk.toNatUp, reduceCtorEq]
        refine st_call (h2) rfl (.inl rfl) ?_
        simp only [wx, wy, wz, stV, seval, IntWalk.iteOmega, IntWalk.toNatUp, reduceCtorEq]
        refine st_call (h3) rfl (.inl rfl) ?_
        simp only [wx, wy, wz, stV, seval, IntWalk.iteOmega, IntWalk.toNatUp, reduceCtorEq]
        exact ret_f1 (by simp only [wx, wy, wz, stV, seval, IntWalk.iteOmega, IntWalk.toNatUp, reduceCtorEq])
theorem code_c (G : Glob) (key b : List UInt8) (h : key.length = 16) (hb : b.length ≤ 70000) : Den Try.prog G 27 [cdD key, .sl (b.map bD)] (.w (.c (.d (.sl ((macM (rkK key) b).map bD))))) := den_ro (code_f G key b h hb)
def sf_clsd : SFn := ⟨2, 26,
  .seq (.reg [⟨(some 4), .mv (.k (.c .nil)), none⟩])
  (.seq (.reg [⟨(some 6), .mv (.t 0), none⟩,
    ⟨(some 7), .len (.t 6), none⟩,
    ⟨(some 8), .bin .sub (.t 7) (.k (.c (.d (.int .i64 16)))), none⟩,
    ⟨(some 5), .mv (.t 8), none⟩])
  (.seq (.seq (.reg [⟨(some 9), .mv (.t 5), none⟩,
    ⟨(some 10), .bin .lss (.t 9) (.k (.c (.d (.int .i64 0)))), none⟩])
  (.cond (.t 10) (.seq (.reg [⟨(some 11), .mv (.t 1), none⟩,
     ⟨(some 12), .call 15 [(.t 11)] none, none⟩,
     ⟨(some 13), .mv (.t 0), none⟩,
     ⟨(some 14), .call 54 [(.t 13)] none, none⟩,
     ⟨(some 15), .call 40 [(.t 12), (.t 14)] none, none⟩,
     ⟨(some 4), .mv (.t 15), none⟩])
   (.ret))
   (.skip)))
  (.seq (.reg [⟨(some 16), .mv (.t 0), none⟩,
    ⟨(some 17), .mv (.t 5), none⟩,
    ⟨(some 18), .slice 1 (.t 16) none (some (.t 17)) none, none⟩,
    ⟨(some 19), .mv (.t 0), none⟩,
    ⟨(some 20), .mv (.t 5), none⟩,
    ⟨(some 21), .slice 1 (.t 19) (some (.t 20)) none none, none⟩,
    ⟨(some 22), .mv (.t 1), none⟩,
    ⟨(some 23), .call 40 [(.t 21), (.t 22)] none, none⟩,
    ⟨(some 24), .bldSl false 2 1 (.sl []) [(0, (.t 18)), (1, (.t 23))], none⟩,
    ⟨(some 25), .call 55 [(.t 24)] none, none⟩,
    ⟨(some 4), .mv (.t 25), none⟩])
  (.ret)))),
  [(4, none)]⟩
theorem cf_clsd : compFn Try.prog { own := [], comp := [], frz := [], nils := [] } Try.f43 = some sf_clsd := by kernel_rfl
set_option maxHeartbeats 1600000 in
theorem clsd_c (G : Glob) (s d : List UInt8) (hs : s.length ≤ 70000) (hd : d.length = 16) : Den Try.prog G 43 [.sl (s.map bD), .sl (d.map bD)] (.w (.c (.d (.sl ((if 16 ≤ s.length then s.take (s.length - 16) ++ xorP (s.drop (s.length - 16)) d else xorP (dblL d) (padL (s ++ [128]))).map bD))))) := by
  refine den_walk Try.func43 cf_clsd rfl rfl ?_
  by_cases h : 16 ≤ s.length
  · rw [if_pos h]
    have hl : (s.drop (s.length - 16)).length = 16 := by rw [List.length_drop]; omega
    have ht : (s.drop (s.length - 16)).take (s.length - (s.length - 16)) = s.drop (s.length - 16) := List.take_of_length_le (by omega)
    have hj := join_c G [s.take (s.length - 16), xorP (s.drop (s.length - 16)) d] (by simp) (by simp [xorP_len]; omega)
    have hf : [s.take (s.length - 16), xorP (s.drop (s.length - 16)) d].flatten = s.take (s.length - 16) ++ xorP (s.drop (s.length - 16)) d := by simp
    rw [hf] at hj
    have e1 : (((s.length : Int) - 16).toNat) = s.length - 16 := by omega
    simp only [sf_clsd, putAll, wx, wy, wz, stV, seval, IntWalk.iteOmega, IntWalk.toNatUp, reduceCtorEq, e1, ht]
    refine st_call (cmb_c G (s.drop (s.length - 16)) d hl hd) rfl (.inl rfl) ?_
    simp only [wx, wy, wz, stV, seval, IntWalk.iteOmega, IntWalk.toNatUp, reduceCtorEq]
    refine st_call (hj) rfl (.inl rfl) ?_
    simp only [wx, wy, wz, stV, seval, IntWalk.iteOmega, IntWalk.toNatUp, reduceCtorEq]
    exact ret_d1 (by simp only [wx, wy, wz, stV, seval, IntWalk.iteOmega, IntWalk.toNatUp, reduceCtorEq])
  · rw [if_neg h]
    simp only [sf_clsd, putAll, wx, wy, wz, stV, seval, IntWalk.iteOmega, IntWalk.toNatUp, reduceCtorEq]
    refine st_call (dbb_c G d (by omega)) rfl (.inl rfl) ?_
    simp only [wx, wy, wz, stV, seval, IntWalk.iteOmega, IntWalk.toNatUp, reduceCtorEq]
    refine st_call (fild_c G s (by omega)) rfl (.inl rfl) ?_
    simp only [wx, wy, wz, stV, seval, IntWalk.iteOmega, IntWalk.toNatUp, reduceCtorEq]
    refine st_call (cmb_c G (dblL d) (padL (s ++ [128])) (dblL_len hd) (padL_short (by omega))) rfl (.inl rfl) ?_
    simp only [wx, wy, wz, stV, seval, IntWalk.iteOmega, IntWalk.toNatUp, reduceCtorEq]
    exact ret_d1 (by simp only [wx, wy, wz, stV, seval, IntWalk.iteOmega, IntWalk.toNatUp, reduceCtorEq])
def vecSt (key : List UInt8) (l : List (List UInt8)) (i : Nat) : St := ⟨ofL [(1, .w (.c (.d (.sl (l.map fun l => D.sl (l.map bD)))))), (2, .w (.c (.rp [.sl (key.map bD), .sl ((sub1 (rkK key)).map bD), .sl ((sub2 (rkK key)).map bD)]))), (5, .w (.c (.d (.sl ((vecD (rkK key) l i).map bD))))), (6, .w (.c (.d (.int .i64 ((l.length : Int) - 1))))), (23, .w (.c (.d (.sl ((l.take (l.length - 1)).map fun l => D.sl (l.map bD)))))), (24, .w (.c (.d (.int .i64 ((l.length : Int) - 1))))), (25, .w (.c (.d (.int .i64 (i : Int)))))], hL [(1, .row 1 ((repL 16 (0 : UInt8)).map bD))], uL [1]⟩
theorem vecM_none (rk : List UInt8) {l : List (List UInt8)} (h : l.length = 0) : vecM rk l = macM rk (putL 1 16) := by
  unfold vecM; rw [if_pos h]; congr 1
theorem vecM_some (rk : List UInt8) {l : List (List UInt8)} (h : l.length ≠ 0) : vecM rk l = macM rk (if 16 ≤ (l.getD (l.length - 1) []).length then (l.getD (l.length - 1) []).take ((l.getD (l.length - 1) []).length - 16) ++ xorP ((l.getD (l.length - 1) []).drop ((l.getD (l.length - 1) []).length - 16)) (vecD rk l (l.length - 1)) else xorP (dblL (vecD rk l (l.length - 1))) (padL (l.getD (l.length - 1) [] ++ [128]))) := by
  unfold vecM; rw [if_neg h]; dsimp only; split <;> rfl
theorem getL_lt {l : List (List UInt8)} {j : Nat} (h : j < l.length) : l[j]? = some (l.getD j []) := by
  rw [List.getD_eq_getElem?_getD, List.getElem?_eq_getElem h]; rfl
theorem getL_mem {l : List (List UInt8)} {j : Nat} (h : j < l.length) : l.getD j [] ∈ l := by
  rw [List.getD_eq_getElem?_getD, List.getElem?_eq_getElem h]; exact List.getElem_mem h
def lp_vect_0 : SCode :=
  .seq (.reg [⟨(some 26), .bin .lss (.t 25) (.t 24), none⟩])
  (.seq (.cond (.t 26) (.skip)
   (.exit 0))
  (.seq (.block 1 (.seq (.reg [⟨(some 27), .idxSl 1 (.t 23) (.t 25), none⟩,
     ⟨(some 28), .load .sc (.t 27), none⟩,
     ⟨(some 8), .mv (.t 28), none⟩])
   (.reg [⟨(some 29), .mv (.t 5), none⟩,
     ⟨(some 30), .call 15 [(.t 29)] none, none⟩,
     ⟨(some 31), .load (.ag 3) (.t 2), none⟩,
     ⟨(some 32), .mv (.t 8), none⟩,
     ⟨(some 33), .call 27 [(.t 31), (.t 32)] none, none⟩,
     ⟨(some 34), .call 40 [(.t 30), (.t 33)] none, none⟩,
     ⟨(some 5), .mv (.t 34), none⟩])))
  (.reg [⟨(some 35), .bin .add (.t 25) (.k (.c (.d (.int .i64 1)))), none⟩,
    ⟨(some 25), .mv (.t 35), none⟩])))
def sf_vect : SFn := ⟨2, 44,
  .seq (.reg [⟨(some 2), .box .roBox (.t 0), none⟩,
    ⟨(some 4), .mv (.k (.c .nil)), none⟩])
  (.seq (.seq (.reg [⟨(some 9), .mv (.t 1), none⟩,
    ⟨(some 10), .len (.t 9), none⟩,
    ⟨(some 11), .bin .eql (.t 10) (.k (.c (.d (.int .i64 0)))), none⟩])
  (.cond (.t 11) (.seq (.reg [⟨(some 12), .load (.ag 3) (.t 2), none⟩,
     ⟨(some 13), .call 42 [(.k (.c (.d (.int .u64 1)))), (.k (.c (.d (.int .i64 16))))] none, none⟩,
     ⟨(some 14), .call 27 [(.t 12), (.t 13)] none, none⟩,
     ⟨(some 4), .mv (.t 14), none⟩])
   (.ret))
   (.skip)))
  (.seq (.reg [⟨(some 15), .load (.ag 3) (.t 2), none⟩,
    ⟨(some 16), .make 1 1 (.int .u8 0) (.k (.c (.d (.int .i64 16)))) (.k (.c (.d (.int .i64 16)))), none⟩,
    ⟨(some 17), .call 27 [(.t 15), (.t 16)] none, none⟩,
    ⟨(some 5), .mv (.t 17), none⟩])
  (.seq (.reg [⟨(some 18), .mv (.t 1), none⟩,
    ⟨(some 19), .len (.t 18), none⟩,
    ⟨(some 20), .bin .sub (.t 19) (.k (.c (.d (.int .i64 1)))), none⟩,
    ⟨(some 6), .mv (.t 20), none⟩])
  (.seq (.seq (.reg [⟨(some 21), .mv (.t 1), none⟩,
    ⟨(some 22), .mv (.t 6), none⟩,
    ⟨(some 23), .slice 1 (.t 21) none (some (.t 22)) none, none⟩,
    ⟨(some 24), .len (.t 23), none⟩,
    ⟨(some 25), .mv (.k (.c (.d (.int .i64 0)))), none⟩])
  (.block 0 (.loop lp_vect_0)))
  (.seq (.reg [⟨(some 36), .load (.ag 3) (.t 2), none⟩,
    ⟨(some 37), .mv (.t 1), none⟩,
    ⟨(some 38), .mv (.t 6), none⟩,
    ⟨(some 39), .idxSl 1 (.t 37) (.t 38), none⟩,
    ⟨(some 40), .load .sc (.t 39), none⟩,
    ⟨(some 41), .mv (.t 5), none⟩,
    ⟨(some 42), .call 43 [(.t 40), (.t 41)] none, none⟩,
    ⟨(some 43), .call 27 [(.t 36), (.t 42)] none, none⟩,
    ⟨(some 4), .mv (.t 43), none⟩])
  (.ret)))))),
  [(4, none)]⟩
theorem cf_vect : compFn Try.prog { own := [], comp := [], frz := [], nils := [] } Try.f29 = some sf_vect := by kernel_rfl
set_option maxHeartbeats 3200000 in
theorem vect_c (G : Glob) (key : List UInt8) (l : List (List UInt8)) (h : key.length = 16) (hl : l.length ≤ 17) (hb : ∀ x ∈ l, x.length ≤ 65535) : Den Try.prog G 29 [cdD key, .sl (l.map fun l => D.sl (l.map bD))] (.w (.c (.d (.sl ((vecM (rkK key) l).map bD))))) := by
  refine den_walk Try.func29 cf_vect rfl rfl ?_
  have t0 : (repL 16 (0 : UInt8)).take 16 = zero16 := rfl
  by_cases h0 : l.length = 0
  · rw [vecM_none _ h0]
    simp only [sf_vect, putAll, cdD, wx, wy, wz, stV, seval, IntWalk.iteOmega, IntWalk.toNatUp, reduceCtorEq, h0]
    refine st_call (put_in G 1 16 (by decide)) rfl (.inl rfl) ?_
    simp only [wx, wy, wz, stV, seval, IntWalk.iteOmega, IntWalk.toNatUp, reduceCtorEq]
    refine st_call (code_c G key (putL 1 16) h (by rw [putL_length]; decide)) rfl (.inl rfl) ?_
    simp only [wx, wy, wz, stV, seval, IntWalk.iteOmega, IntWalk.toNatUp, reduceCtorEq]
    exact ret_d1 (by simp only [wx, wy, wz, stV, seval, IntWalk.iteOmega, IntWalk.toNatUp, reduceCtorEq])
  · rw [vecM_some _ h0]
    have e1 : (((l.length : Int) - 1).toNat) = l.length - 1 := by omega
    have e2 : (l.take (l.length - 1)).length = l.length - 1 := by rw [List.length_take]; omega
    have e3 : ((l.length - 1 : Nat) : Int) = (l.length : Int) - 1 := by omega
    simp only [sf_vect, putAll, cdD, wx, wy, wz, stV, seval, IntWalk.iteOmega, IntWalk.toNatUp, reduceCtorEq, z16]
    refine st_call (code_f G key zero16 h (by decide)) (by simp only [wx, wy, wz, stV, seval, IntWalk.iteOmega, IntWalk.toNatUp, reduceCtorEq, take_map, t0, repL_len, cdD]) (.inr (fl_b _ _)) ?_
    simp only [wx, wy, wz, stV, seval, IntWalk.iteOmega, IntWalk.toNatUp, reduceCtorEq, e1, e2, e3, allSz_ls]
    refine loop_st (vecSt key l) (fun i => l.length - 1 - i) (fun i => i ≤ l.length - 1) 0 (Nat.zero_le _) ?_ ?_
    · refine ent_l (fun i => 128) ?_ ?_ rfl rfl <;> simp only [wx, wex, wez, stV, seval, IntWalk.iteOmega, IntWalk.toNatUp, reduceCtorEq, vecD, e2, e3]
    · intro i hi
      have hd := vecD_len (rkK key) l i
      by_cases hlt : i < l.length - 1
      · have g1 : (l.take (l.length - 1))[i]? = some (l.getD i []) := by rw [List.getElem?_take, if_pos hlt, getL_lt (by omega)]
        have hx := hb _ (getL_mem (l := l) (j := i) (by omega))
        have hs : xorP (dblL (vecD (rkK key) l i)) (macM (rkK key) (l.getD i [])) = vecD (rkK key) l (i + 1) := rfl
        have h1 := dbb_c G (vecD (rkK key) l i) (by omega)
        have h2 := code_c G key (l.getD i []) h (by omega)
        have h3 := cmb_c G (dblL (vecD (rkK key) l i)) (macM (rkK key) (l.getD i [])) (dblL_len hd) (macM_len _ _)
        rw [hs] at h3
        simp only [lp_vect_0, vecSt, wx, wy, wz, stV, seval, IntWalk.iteOmega, IntWalk.toNatUp, reduceCtorEq, get_map, g1, e2, e3]
        refine st_call (h1) rfl (.inl rfl) ?_
        simp only [wx, wy, wz, stV, seval, IntWalk.iteOmega, IntWalk.toNatUp, reduceCtorEq]
        refine st_call (h2) rfl (.inl rfl) ?_
        simp only [wx, wy, wz, stV, seval, IntWalk.iteOmega, IntWalk.toNatUp, reduceCtorEq]
        refine st_call (h3) rfl (.inl rfl) ?_
        simp only [wx, wy, wz, stV, seval, IntWalk.iteOmega, IntWalk.toNatUp, reduceCtorEq]
        refine lop_next (i + 1) (by omega) (by omega) (ent_l (fun i => i) ?_ ?_ rfl rfl) <;> simp only [wx, wex, wez, stV, seval, IntWalk.iteOmega, IntWalk.toNatUp, reduceCtorEq]
      · obtain rfl : i = l.length - 1 := by omega
        have g1 : l[l.length - 1]? = some (l.getD (l.length - 1) []) := getL_lt (by omega)
        have hx := hb _ (getL_mem (l := l) (j := l.length - 1) (by omega))
        have h1 := clsd_c G (l.getD (l.length - 1) []) (vecD (rkK key) l (l.length - 1)) (by omega) hd
        have hcl : ∀ s d : List UInt8, s.length ≤ 65535 → d.length = 16 → (if 16 ≤ s.length then s.take (s.length - 16) ++ xorP (s.drop (s.length - 16)) d else xorP (dblL d) (padL (s ++ [128]))).length ≤ 70000 := by
          intro s d h1 h2
          split
          · rw [List.length_append, xorP_len, ← List.length_append, List.take_append_drop]; omega
          · rw [xorP_len, dblL_len h2]; decide
        have h2 := code_c G key _ h (hcl _ _ hx hd)
        simp only [lp_vect_0, vecSt, wx, wy, wz, stV, seval, IntWalk.iteOmega, IntWalk.toNatUp, reduceCtorEq, get_map, g1, e1, e3]
        refine st_call (h1) rfl (.inl rfl) ?_
        simp only [wx, wy, wz, stV, seval, IntWalk.iteOmega, IntWalk.toNatUp, reduceCtorEq]
        refine st_call (h2) rfl (.inl rfl) ?_
        simp only [wx, wy, wz, stV, seval, IntWalk.iteOmega, IntWalk.toNatUp, reduceCtorEq]
        exact ret_d1 (by simp only [wx, wy, wz, stV, seval, IntWalk.iteOmega, IntWalk.toNatUp, reduceCtorEq])
/-! ### The calls -/
def subV (f : List UInt8 → List UInt8) (key : List UInt8) : List UInt8 := if key.length = 16 then f (rkK key) else []
def sf_subk : SFn := ⟨1, 17,
  .seq (.reg [⟨(some 2), .mv (.k (.c .nil)), none⟩,
    ⟨(some 3), .mv (.k (.c .nil)), none⟩,
    ⟨(some 4), .mv (.k (.c (.d (.int .i64 0)))), none⟩])
  (.seq (.reg [⟨(some 8), .mv (.t 0), none⟩,
    ⟨(some 9), .call 24 [(.t 8)] none, none⟩,
    ⟨(some 7), .mv (.t 9), none⟩,
    ⟨(some 10), .extract (.t 7) 0, none⟩,
    ⟨(some 11), .extract (.t 7) 1, none⟩,
    ⟨(some 5), .alloc [.nil, .nil, .nil], none⟩,
    ⟨none, .store (.ag 3) (.t 5) (.t 10), none⟩,
    ⟨(some 6), .mv (.t 11), none⟩])
  (.seq (.reg [⟨(some 12), .fieldAddr 1 (.t 5), none⟩,
    ⟨(some 13), .load .sc (.t 12), none⟩,
    ⟨(some 14), .fieldAddr 2 (.t 5), none⟩,
    ⟨(some 15), .load .sc (.t 14), none⟩,
    ⟨(some 16), .mv (.t 6), none⟩,
    ⟨(some 2), .mv (.t 13), none⟩,
    ⟨(some 3), .mv (.t 15), none⟩,
    ⟨(some 4), .mv (.t 16), none⟩])
  (.ret))),
  [(2, none), (3, none), (4, none)]⟩
theorem cf_subk : compFn Try.prog { own := [], comp := [], frz := [], nils := [] } Try.f8 = some sf_subk := by kernel_rfl
set_option maxHeartbeats 1600000 in
theorem subk_c (G : Glob) (key : List UInt8) (hk : key.length ≤ 9223372036854775807) : Den Try.prog G 8 [.sl (key.map bD)] (.tup [.c (.d (.sl ((subV sub1 key).map bD))), .c (.d (.sl ((subV sub2 key).map bD))), .c (.d (.int .i64 (keyE key)))]) := by
  refine den_walk Try.func8 cf_subk rfl rfl ?_
  have hx := cdof_c G key hk
  by_cases h : key.length = 16
  · have hv : cdV key = cdD key := if_pos h
    have v1 : subV sub1 key = sub1 (rkK key) := if_pos h
    have v2 : subV sub2 key = sub2 (rkK key) := if_pos h
    rw [hv] at hx
    rw [v1, v2]
    simp only [sf_subk, putAll, wx, wy, wz, stV, seval, IntWalk.iteOmega, IntWalk.toNatUp, reduceCtorEq]
    refine st_call (hx) rfl (.inl rfl) ?_
    simp only [cdD, wx, wy, wz, stV, seval, IntWalk.iteOmega, IntWalk.toNatUp, reduceCtorEq]
    exact ret_d3 (by simp only [wx, wy, wz, stV, seval, IntWalk.iteOmega, IntWalk.toNatUp, reduceCtorEq]) (by simp only [wx, wy, wz, stV, seval, IntWalk.iteOmega, IntWalk.toNatUp, reduceCtorEq]) (by simp only [wx, wy, wz, stV, seval, IntWalk.iteOmega, IntWalk.toNatUp, reduceCtorEq])
  · have hv : cdV key = .agg [.sl [], .sl [], .sl []] := if_neg h
    have v1 : subV sub1 key = [] := if_neg h
    have v2 : subV sub2 key = [] := if_neg h
    rw [hv] at hx
    rw [v1, v2]
    simp only [sf_subk, putAll, wx, wy, wz, stV, seval, IntWalk.iteOmega, IntWalk.toNatUp, reduceCtorEq]
    refine st_call (hx) rfl (.inl rfl) ?_
    simp only [wx, wy, wz, stV, seval, IntWalk.iteOmega, IntWalk.toNatUp, reduceCtorEq]
    exact ret_d3 (by simp only [wx, wy, wz, stV, seval, IntWalk.iteOmega, IntWalk.toNatUp, reduceCtorEq]) (by simp only [wx, wy, wz, stV, seval, IntWalk.iteOmega, IntWalk.toNatUp, reduceCtorEq]) (by simp only [wx, wy, wz, stV, seval, IntWalk.iteOmega, IntWalk.toNatUp, reduceCtorEq])
def macE (key b : List UInt8) : Int := if key.length ≠ 16 then 5 else if 65535 < b.length then 2 else 0
def macV (key b : List UInt8) : List UInt8 := if key.length = 16 ∧ b.length ≤ 65535 then macM (rkK key) b else []
def sf_cmac : SFn := ⟨2, 22,
  .seq (.reg [⟨(some 4), .mv (.k (.c .nil)), none⟩,
    ⟨(some 5), .mv (.k (.c (.d (.int .i64 0)))), none⟩])
  (.seq (.reg [⟨(some 9), .mv (.t 0), none⟩,
    ⟨(some 10), .call 24 [(.t 9)] none, none⟩,
    ⟨(some 8), .mv (.t 10), none⟩,
    ⟨(some 11), .extract (.t 8) 0, none⟩,
    ⟨(some 12), .extract (.t 8) 1, none⟩,
    ⟨(some 6), .alloc [.nil, .nil, .nil], none⟩,
    ⟨none, .store (.ag 3) (.t 6) (.t 11), none⟩,
    ⟨(some 7), .mv (.t 12), none⟩])
  (.seq (.seq (.reg [⟨(some 13), .mv (.t 7), none⟩,
    ⟨(some 14), .bin .neq (.t 13) (.k (.c (.d (.int .i64 0)))), none⟩])
  (.cond (.t 14) (.seq (.reg [⟨(some 15), .mv (.t 7), none⟩,
     ⟨(some 4), .mv (.k (.c .nil)), none⟩,
     ⟨(some 5), .mv (.t 15), none⟩])
   (.ret))
   (.skip)))
  (.seq (.seq (.reg [⟨(some 16), .mv (.t 1), none⟩,
    ⟨(some 17), .len (.t 16), none⟩,
    ⟨(some 18), .bin .gtr (.t 17) (.k (.c (.d (.int .i64 65535)))), none⟩])
  (.cond (.t 18) (.seq (.reg [⟨(some 4), .mv (.k (.c .nil)), none⟩,
     ⟨(some 5), .mv (.k (.c (.d (.int .i64 2)))), none⟩])
   (.ret))
   (.skip)))
  (.seq (.reg [⟨(some 19), .load (.ag 3) (.t 6), none⟩,
    ⟨(some 20), .mv (.t 1), none⟩,
    ⟨(some 21), .call 27 [(.t 19), (.t 20)] none, none⟩,
    ⟨(some 4), .mv (.t 21), none⟩,
    ⟨(some 5), .mv (.k (.c (.d (.int .i64 0)))), none⟩])
  (.ret))))),
  [(4, none), (5, none)]⟩
theorem cf_cmac : compFn Try.prog { own := [], comp := [], frz := [], nils := [] } Try.f10 = some sf_cmac := by kernel_rfl
set_option maxHeartbeats 1600000 in
theorem cmac_c (G : Glob) (key b : List UInt8) (hk : key.length ≤ 9223372036854775807) (hb : b.length ≤ 9223372036854775807) : Den Try.prog G 10 [.sl (key.map bD), .sl (b.map bD)] (.tup [.c (.d (.sl ((macV key b).map bD))), .c (.d (.int .i64 (macE key b)))]) := by
  refine den_walk Try.func10 cf_cmac rfl rfl ?_
  have hx := cdof_c G key hk
  unfold macV macE
  by_cases h : key.length = 16
  · have hv : cdV key = cdD key := if_pos h
    have he : keyE key = 0 := by unfold keyE; rw [if_neg (by omega)]
    rw [hv, he] at hx
    by_cases h2 : b.length ≤ 65535
    · rw [if_pos ⟨h, h2⟩, if_neg (by omega), if_neg (by omega)]
      simp only [sf_cmac, putAll, wx, wy, wz, stV, seval, IntWalk.iteOmega, IntWalk.toNatUp, reduceCtorEq]
      refine st_call (hx) rfl (.inl rfl) ?_
      simp only [cdD, wx, wy, wz, stV, seval, IntWalk.iteOmega, IntWalk.toNatUp, reduceCtorEq]
      refine st_call (code_c G key b h (by omega)) rfl (.inl rfl) ?_
      simp only [wx, wy, wz, stV, seval, IntWalk.iteOmega, IntWalk.toNatUp, reduceCtorEq]
      exact ret_d2 (by simp only [wx, wy, wz, stV, seval, IntWalk.iteOmega, IntWalk.toNatUp, reduceCtorEq]) (by simp only [wx, wy, wz, stV, seval, IntWalk.iteOmega, IntWalk.toNatUp, reduceCtorEq])
    · rw [if_neg (by omega), if_neg (by omega), if_pos (by omega)]
      have h3 : 65535 < b.length := by omega
      simp only [sf_cmac, putAll, wx, wy, wz, stV, seval, IntWalk.iteOmega, IntWalk.toNatUp, reduceCtorEq]
      refine st_call (hx) rfl (.inl rfl) ?_
      simp only [cdD, wx, wy, wz, stV, seval, IntWalk.iteOmega, IntWalk.toNatUp, reduceCtorEq]
      exact ret_d2 (by simp only [wx, wy, wz, stV, seval, IntWalk.iteOmega, IntWalk.toNatUp, reduceCtorEq]) (by simp only [wx, wy, wz, stV, seval, IntWalk.iteOmega, IntWalk.toNatUp, reduceCtorEq])
  · have hv : cdV key = .agg [.sl [], .sl [], .sl []] := if_neg h
    have he : keyE key = 5 := if_pos h
    rw [hv, he] at hx
    rw [if_neg (by omega), if_pos h]
    simp only [sf_cmac, putAll, wx, wy, wz, stV, seval, IntWalk.iteOmega, IntWalk.toNatUp, reduceCtorEq]
    refine st_call (hx) rfl (.inl rfl) ?_
    simp only [wx, wy, wz, stV, seval, IntWalk.iteOmega, IntWalk.toNatUp, reduceCtorEq]
    exact ret_d2 (by simp only [wx, wy, wz, stV, seval, IntWalk.iteOmega, IntWalk.toNatUp, reduceCtorEq]) (by simp only [wx, wy, wz, stV, seval, IntWalk.iteOmega, IntWalk.toNatUp, reduceCtorEq])
def longL (l : List (List UInt8)) : Bool := l.any fun x => decide (65535 < x.length)
def vctE (key : List UInt8) (l : List (List UInt8)) : Int := if key.length ≠ 16 then 5 else if 17 < l.length then 8 else if longL l = true then 2 else 0
def vctV (key : List UInt8) (l : List (List UInt8)) : List UInt8 := if key.length = 16 ∧ l.length ≤ 17 ∧ longL l = false then vecM (rkK key) l else []
theorem longL_no {l : List (List UInt8)} (h : ∀ j, j < l.length → (l.getD j []).length ≤ 65535) : longL l = false := by
  unfold longL
  rw [List.any_eq_false]
  intro x hx
  obtain ⟨j, hj, rfl⟩ := List.getElem_of_mem hx
  have := h j hj
  rw [List.getD_eq_getElem?_getD, List.getElem?_eq_getElem hj] at this
  simpa using this
theorem longL_yes {l : List (List UInt8)} {j : Nat} (hj : j < l.length) (h : 65535 < (l.getD j []).length) : longL l = true := by
  unfold longL
  rw [List.any_eq_true]
  exact ⟨_, getL_mem hj, decide_eq_true h⟩
theorem longL_all {l : List (List UInt8)} (h : longL l = false) : ∀ x ∈ l, x.length ≤ 65535 := by
  unfold longL at h
  rw [List.any_eq_false] at h
  intro x hx
  have := h x hx
  simpa using this
def vctSt (key : List UInt8) (l : List (List UInt8)) (i : Nat) : St := ⟨ofL [(1, .w (.c (.d (.sl (l.map fun l => D.sl (l.map bD)))))), (6, .w (.c (.ptr 1 1 0 0))), (21, .w (.c (.d (.sl (l.map fun l => D.sl (l.map bD)))))), (22, .w (.c (.d (.int .i64 (l.length : Int))))), (23, .w (.c (.d (.int .i64 (i : Int)))))], hL [(1, .box [.d (.sl (key.map bD)), .d (.sl ((sub1 (rkK key)).map bD)), .d (.sl ((sub2 (rkK key)).map bD))])], uL [1]⟩
def lp_vctr_0 : SCode :=
  .seq (.reg [⟨(some 24), .bin .lss (.t 23) (.t 22), none⟩])
  (.seq (.cond (.t 24) (.skip)
   (.exit 0))
  (.seq (.block 1 (.seq (.reg [⟨(some 25), .idxSl 1 (.t 21) (.t 23), none⟩,
     ⟨(some 26), .load .sc (.t 25), none⟩,
     ⟨(some 9), .mv (.t 26), none⟩])
   (.seq (.reg [⟨(some 27), .mv (.t 9), none⟩,
     ⟨(some 28), .len (.t 27), none⟩,
     ⟨(some 29), .bin .gtr (.t 28) (.k (.c (.d (.int .i64 65535)))), none⟩])
   (.cond (.t 29) (.seq (.reg [⟨(some 4), .mv (.k (.c .nil)), none⟩,
      ⟨(some 5), .mv (.k (.c (.d (.int .i64 2)))), none⟩])
    (.ret))
    (.skip)))))
  (.reg [⟨(some 30), .bin .add (.t 23) (.k (.c (.d (.int .i64 1)))), none⟩,
    ⟨(some 23), .mv (.t 30), none⟩])))
def sf_vctr : SFn := ⟨2, 34,
  .seq (.reg [⟨(some 4), .mv (.k (.c .nil)), none⟩,
    ⟨(some 5), .mv (.k (.c (.d (.int .i64 0)))), none⟩])
  (.seq (.reg [⟨(some 11), .mv (.t 0), none⟩,
    ⟨(some 12), .call 24 [(.t 11)] none, none⟩,
    ⟨(some 10), .mv (.t 12), none⟩,
    ⟨(some 13), .extract (.t 10) 0, none⟩,
    ⟨(some 14), .extract (.t 10) 1, none⟩,
    ⟨(some 6), .alloc [.nil, .nil, .nil], none⟩,
    ⟨none, .store (.ag 3) (.t 6) (.t 13), none⟩,
    ⟨(some 7), .mv (.t 14), none⟩])
  (.seq (.seq (.reg [⟨(some 15), .mv (.t 7), none⟩,
    ⟨(some 16), .bin .neq (.t 15) (.k (.c (.d (.int .i64 0)))), none⟩])
  (.cond (.t 16) (.seq (.reg [⟨(some 17), .mv (.t 7), none⟩,
     ⟨(some 4), .mv (.k (.c .nil)), none⟩,
     ⟨(some 5), .mv (.t 17), none⟩])
   (.ret))
   (.skip)))
  (.seq (.seq (.reg [⟨(some 18), .mv (.t 1), none⟩,
    ⟨(some 19), .len (.t 18), none⟩,
    ⟨(some 20), .bin .gtr (.t 19) (.k (.c (.d (.int .i64 17)))), none⟩])
  (.cond (.t 20) (.seq (.reg [⟨(some 4), .mv (.k (.c .nil)), none⟩,
     ⟨(some 5), .mv (.k (.c (.d (.int .i64 8)))), none⟩])
   (.ret))
   (.skip)))
  (.seq (.seq (.reg [⟨(some 21), .mv (.t 1), none⟩,
    ⟨(some 22), .len (.t 21), none⟩,
    ⟨(some 23), .mv (.k (.c (.d (.int .i64 0)))), none⟩])
  (.block 0 (.loop lp_vctr_0)))
  (.seq (.reg [⟨(some 31), .load (.ag 3) (.t 6), none⟩,
    ⟨(some 32), .mv (.t 1), none⟩,
    ⟨(some 33), .call 29 [(.t 31), (.t 32)] none, none⟩,
    ⟨(some 4), .mv (.t 33), none⟩,
    ⟨(some 5), .mv (.k (.c (.d (.int .i64 0)))), none⟩])
  (.ret)))))),
  [(4, none), (5, none)]⟩
theorem cf_vctr : compFn Try.prog { own := [], comp := [], frz := [], nils := [] } Try.f12 = some sf_vctr := by kernel_rfl
set_option maxHeartbeats 3200000 in
theorem vctr_c (G : Glob) (key : List UInt8) (l : List (List UInt8)) (hk : key.length ≤ 9223372036854775807) (hl : l.length ≤ 9223372036854775807) (hb : ∀ x ∈ l, x.length ≤ 9223372036854775807) : Den Try.prog G 12 [.sl (key.map bD), .sl (l.map fun l => D.sl (l.map bD))] (.tup [.c (.d (.sl ((vctV key l).map bD))), .c (.d (.int .i64 (vctE key l)))]) := by
  refine den_walk Try.func12 cf_vctr rfl rfl ?_
  have hx := cdof_c G key hk
  unfold vctV vctE
  by_cases h : key.length = 16
  · have hv : cdV key = cdD key := if_pos h
    have he : keyE key = 0 := by unfold keyE; rw [if_neg (by omega)]
    rw [hv, he] at hx
    by_cases h2 : l.length ≤ 17
    · rw [if_neg (by omega : ¬ key.length ≠ 16), if_neg (by omega : ¬ 17 < l.length)]
      simp only [sf_vctr, putAll, wx, wy, wz, stV, seval, IntWalk.iteOmega, IntWalk.toNatUp, reduceCtorEq]
      refine st_call (hx) rfl (.inl rfl) ?_
      simp only [cdD, wx, wy, wz, stV, seval, IntWalk.iteOmega, IntWalk.toNatUp, reduceCtorEq]
      refine loop_st (vctSt key l) (fun i => l.length - i) (fun i => i ≤ l.length ∧ ∀ j, j < i → (l.getD j []).length ≤ 65535) 0 ⟨Nat.zero_le _, fun j hj => by omega⟩ ?_ ?_
      · refine ent_l (fun i => 48) ?_ ?_ rfl rfl <;> simp only [wx, wex, wez, stV, seval, IntWalk.iteOmega, IntWalk.toNatUp, reduceCtorEq]
      · rintro i ⟨hi, hok⟩
        by_cases hlt : i < l.length
        · have g1 := getL_lt hlt
          have hx := hb _ (getL_mem hlt)
          by_cases hlong : 65535 < (l.getD i []).length
          · have hL := longL_yes hlt hlong
            rw [hL, if_neg (by simp), if_pos rfl]
            simp only [lp_vctr_0, vctSt, wx, wy, wz, stV, seval, IntWalk.iteOmega, IntWalk.toNatUp, reduceCtorEq, get_map, g1]
            exact ret_d2 (by simp only [wx, wy, wz, stV, seval, IntWalk.iteOmega, IntWalk.toNatUp, reduceCtorEq]) (by simp only [wx, wy, wz, stV, seval, IntWalk.iteOmega, IntWalk.toNatUp, reduceCtorEq])
          · simp only [lp_vctr_0, vctSt, wx, wy, wz, stV, seval, IntWalk.iteOmega, IntWalk.toNatUp, reduceCtorEq, get_map, g1]
            refine lop_next (i + 1) (by omega) ⟨by omega, fun j hj => ?_⟩ (ent_l (fun i => i) ?_ ?_ rfl rfl)
            · rcases Nat.lt_or_ge j i with h | h
              · exact hok j h
              · obtain rfl : j = i := by omega
                omega
            all_goals simp only [wx, wex, wez, stV, seval, IntWalk.iteOmega, IntWalk.toNatUp, reduceCtorEq]
        · have hL := longL_no (l := l) (fun j hj => hok j (by omega))
          rw [hL, if_pos ⟨h, h2, rfl⟩, if_neg (by simp)]
          simp only [lp_vctr_0, vctSt, wx, wy, wz, stV, seval, IntWalk.iteOmega, IntWalk.toNatUp, reduceCtorEq]
          refine st_call (vect_c G key l h h2 (longL_all hL)) rfl (.inl rfl) ?_
          simp only [wx, wy, wz, stV, seval, IntWalk.iteOmega, IntWalk.toNatUp, reduceCtorEq]
          exact ret_d2 (by simp only [wx, wy, wz, stV, seval, IntWalk.iteOmega, IntWalk.toNatUp, reduceCtorEq]) (by simp only [wx, wy, wz, stV, seval, IntWalk.iteOmega, IntWalk.toNatUp, reduceCtorEq])
    · rw [if_neg (by omega), if_neg (by omega), if_pos (by omega)]
      have h3 : 17 < l.length := by omega
      simp only [sf_vctr, putAll, wx, wy, wz, stV, seval, IntWalk.iteOmega, IntWalk.toNatUp, reduceCtorEq]
      refine st_call (hx) rfl (.inl rfl) ?_
      simp only [cdD, wx, wy, wz, stV, seval, IntWalk.iteOmega, IntWalk.toNatUp, reduceCtorEq]
      exact ret_d2 (by simp only [wx, wy, wz, stV, seval, IntWalk.iteOmega, IntWalk.toNatUp, reduceCtorEq]) (by simp only [wx, wy, wz, stV, seval, IntWalk.iteOmega, IntWalk.toNatUp, reduceCtorEq])
  · have hv : cdV key = .agg [.sl [], .sl [], .sl []] := if_neg h
    have he : keyE key = 5 := if_pos h
    rw [hv, he] at hx
    rw [if_neg (by omega), if_pos h]
    simp only [sf_vctr, putAll, wx, wy, wz, stV, seval, IntWalk.iteOmega, IntWalk.toNatUp, reduceCtorEq]
    refine st_call (hx) rfl (.inl rfl) ?_
    simp only [wx, wy, wz, stV, seval, IntWalk.iteOmega, IntWalk.toNatUp, reduceCtorEq]
    exact ret_d2 (by simp only [wx, wy, wz, stV, seval, IntWalk.iteOmega, IntWalk.toNatUp, reduceCtorEq]) (by simp only [wx, wy, wz, stV, seval, IntWalk.iteOmega, IntWalk.toNatUp, reduceCtorEq])
end Go.Proofs.Ytnadfnnkdnakhaa
