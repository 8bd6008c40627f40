/- Layer 4 on data: bytes, in both codes: double, Times, Sub, the table. Own work. -/
import Derived.Test.YtnadfnnkdnakhaaPo1
import Derived.Test.YtnadfnnkdnakhaaPc2
set_option linter.unusedVariables false
set_option linter.unusedSimpArgs false
namespace Go.Proofs.Ytnadfnnkdnakhaa
open Go.RowKit

theorem low_bit (y : UInt8) (i : Nat) : (andB (shrB y i) 1 == 1) = bitB y i := by
  have h : (andB (shrB y i) 1).toNat = y.toNat / 2 ^ i % 2 := by
    have h2 : y.toNat / 2 ^ i < 256 := Nat.lt_of_le_of_lt (Nat.div_le_self _ _) (byte_lt y)
    unfold andB shrB
    rw [UInt8.toNat_and, UInt8.toNat_ofNat_of_lt' (by simpa [UInt8.size] using h2)]
    exact Nat.and_one_is_mod _
  unfold bitB
  rw [Nat.testBit_eq_decide_div_mod_eq, Bool.eq_iff_iff, beq_iff_eq, decide_eq_true_iff, ← UInt8.toNat_inj, h]
  rfl
theorem shrB_shrB (y : UInt8) (i : Nat) : shrB (shrB y i) 1 = shrB y (i + 1) := by
  have h2 : y.toNat / 2 ^ i < 256 := Nat.lt_of_le_of_lt (Nat.div_le_self _ _) (byte_lt y)
  unfold shrB
  rw [UInt8.toNat_ofNat_of_lt' (by simpa [UInt8.size] using h2), Nat.div_div_eq_div_mul, Nat.pow_one, Nat.pow_succ]
theorem shrB_zero (y : UInt8) : shrB y 0 = y := by
  unfold shrB; simp
theorem tm_end (x y : UInt8) : ∀ n, ∀ i, shrB y i = 0 → tmN x y (i + n) = tmN x y i
  | 0, _, _ => rfl
  | n + 1, i, h => by
    have hb : bitB y i = false := by rw [← low_bit, h]; rfl
    have h1 : tmN x y (i + 1) = tmN x y i := by rw [tmN, hb]; exact xorB_zero _
    have h2 : shrB y (i + 1) = 0 := by rw [← shrB_shrB, h]; rfl
    rw [show i + (n + 1) = i + 1 + n by omega, tm_end x y n (i + 1) h2, h1]
theorem shr8 (y : UInt8) : shrB y 8 = 0 := by
  unfold shrB
  rw [Nat.div_eq_of_lt (by have := byte_lt y; omega)]; rfl
theorem tm_step (x y : UInt8) (i : Nat) : xorB (tmN x y i) (selB (bitB y i) (xtN x i)) = tmN x y (i + 1) := rfl
theorem pos_ne {x : UInt8} (h : x ≠ 0) : 0 < x.toNat := by
  rcases Nat.eq_zero_or_pos x.toNat with e | e
  · exact absurd (UInt8.toNat_inj.1 e) h
  · exact e
theorem xt_cases (x : UInt8) : xtB x = if shrB x 7 == 1 then xorB (shlB x 1) 27 else shlB x 1 := by
  have := all_b (p := fun x => xtB x == if shrB x 7 == 1 then xorB (shlB x 1) 27 else shlB x 1) (by decide +kernel) x
  simpa using this
theorem xt_two (x : UInt8) : timesK x 2 = xtB x := by
  have := all_b (p := fun x => timesK x 2 == xtB x) (by decide +kernel) x
  simpa using this

def sf_dbl : SFn := ⟨1, 11,
  .seq (.reg [⟨(some 2), .mv (.k (.c (.d (.int .u8 0)))), none⟩])
  (.seq (.seq (.reg [⟨(some 3), .mv (.t 0), none⟩,
    ⟨(some 4), .bin .shr (.t 3) (.k (.c (.d (.int .u64 7)))), none⟩,
    ⟨(some 5), .bin .eql (.t 4) (.k (.c (.d (.int .u8 1)))), none⟩])
  (.cond (.t 5) (.seq (.reg [⟨(some 6), .mv (.t 0), none⟩,
     ⟨(some 7), .bin .shl (.t 6) (.k (.c (.d (.int .u64 1)))), none⟩,
     ⟨(some 8), .bin .xor (.t 7) (.k (.c (.d (.int .u8 27)))), none⟩,
     ⟨(some 2), .mv (.t 8), none⟩])
   (.ret))
   (.skip)))
  (.seq (.reg [⟨(some 9), .mv (.t 0), none⟩,
    ⟨(some 10), .bin .shl (.t 9) (.k (.c (.d (.int .u64 1)))), none⟩,
    ⟨(some 2), .mv (.t 10), none⟩])
  (.ret))),
  [(2, none)]⟩
theorem cf_dbl : compFn Try.prog { own := [], comp := [], frz := [], nils := [] } Try.f52 = some sf_dbl := by kernel_rfl
theorem dbl_c (G : Glob) (x : UInt8) : Den Try.prog G 52 [bD x] (.w (.c (.d (bD (xtB x))))) := by
  refine den_walk Try.func52 cf_dbl rfl rfl ?_
  have h1 := bl_shr x .u64 7 7 rfl (by decide)
  have h2 := bl_eql (shrB x 7) 1 1 rfl
  have h3 := bl_shl x .u64 1 1 rfl (by decide)
  have h4 := bl_xor (shlB x 1) 27 27 rfl
  rw [xt_cases]
  cases h5 : shrB x 7 == 1
  · rw [h5] at h2
    simp only [sf_dbl, putAll, h1, h2, h3, h4, wx, wy, wz, stV, seval, IntWalk.iteOmega, IntWalk.toNatUp, reduceCtorEq, if_false, Bool.false_eq_true]
    exact ret_d1 (by simp only [wx, wy, wz, stV, seval, IntWalk.iteOmega, IntWalk.toNatUp, reduceCtorEq])
  · rw [h5] at h2
    simp only [sf_dbl, putAll, h1, h2, h3, h4, wx, wy, wz, stV, seval, IntWalk.iteOmega, IntWalk.toNatUp, reduceCtorEq, if_true]
    exact ret_d1 (by simp only [wx, wy, wz, stV, seval, IntWalk.iteOmega, IntWalk.toNatUp, reduceCtorEq])
/-! ### Times -/
theorem xtN_zero (x : UInt8) : xtN x 0 = x := rfl
theorem tmN_zero (x y : UInt8) : tmN x y 0 = 0 := rfl
def timSt (x y : UInt8) (i : Nat) : St := ⟨ofL [(0, .w (.c (.d (bD (xtN x i))))), (1, .w (.c (.d (bD (shrB y i))))), (5, .w (.c (.d (bD (tmN x y i)))))], hL [], uL []⟩
def boxT : List UInt8 := [99, 124, 119, 123, 242, 107, 111, 197, 48, 1, 103, 43, 254, 215, 171, 118, 202, 130, 201, 125, 250, 89, 71, 240, 173, 212, 162, 175, 156, 164, 114, 192, 183, 253, 147, 38, 54, 63, 247, 204, 52, 165, 229, 241, 113, 216, 49, 21, 4, 199, 35, 195, 24, 150, 5, 154, 7, 18, 128, 226, 235, 39, 178, 117, 9, 131, 44, 26, 27, 110, 90, 160, 82, 59, 214, 179, 41, 227, 47, 132, 83, 209, 0, 237, 32, 252, 177, 91, 106, 203, 190, 57, 74, 76, 88, 207, 208, 239, 170, 251, 67, 77, 51, 133, 69, 249, 2, 127, 80, 60, 159, 168, 81, 163, 64, 143, 146, 157, 56, 245, 188, 182, 218, 33, 16, 255, 243, 210, 205, 12, 19, 236, 95, 151, 68, 23, 196, 167, 126, 61, 100, 93, 25, 115, 96, 129, 79, 220, 34, 42, 144, 136, 70, 238, 184, 20, 222, 94, 11, 219, 224, 50, 58, 10, 73, 6, 36, 92, 194, 211, 172, 98, 145, 149, 228, 121, 231, 200, 55, 109, 141, 213, 78, 169, 108, 86, 244, 234, 101, 122, 174, 8, 186, 120, 37, 46, 28, 166, 180, 198, 232, 221, 116, 31, 75, 189, 139, 138, 112, 62, 181, 102, 72, 3, 246, 14, 97, 53, 87, 185, 134, 193, 29, 158, 225, 248, 152, 17, 105, 217, 142, 148, 155, 30, 135, 233, 206, 85, 40, 223, 140, 161, 137, 13, 191, 230, 66, 104, 65, 153, 45, 15, 176, 84, 187, 22]
theorem boxT_eq : boxT = boxL := by decide +kernel
def timS2 (x y : UInt8) (i : Nat) : St := ⟨ofL [(0, .w (.c (.d (bD (xtN x i))))), (1, .w (.c (.d (bD (shrB y i))))), (5, .w (.c (.d (bD (tmN x y i))))), (6, .w (.c (.d (.int .i64 (i : Int)))))], hL [], uL []⟩
theorem xt_high (x : UInt8) : xtB x = if andB x 128 != 0 then xorB (shlB x 1) 27 else shlB x 1 := by
  have := all_b (p := fun x => xtB x == if andB x 128 != 0 then xorB (shlB x 1) 27 else shlB x 1) (by decide +kernel) x
  simpa using this
def lp_rtim_0 : SCode :=
  .seq (.seq (.reg [⟨(some 8), .mv (.t 6), none⟩,
    ⟨(some 9), .bin .lss (.t 8) (.k (.c (.d (.int .i64 8)))), none⟩])
  (.cond (.t 9) (.skip)
   (.exit 0)))
  (.seq (.block 1 (.seq (.seq (.reg [⟨(some 12), .mv (.t 1), none⟩,
     ⟨(some 13), .bin .and (.t 12) (.k (.c (.d (.int .u8 1)))), none⟩,
     ⟨(some 14), .bin .eql (.t 13) (.k (.c (.d (.int .u8 1)))), none⟩])
   (.cond (.t 14) (.reg [⟨(some 15), .mv (.t 5), none⟩,
      ⟨(some 16), .mv (.t 0), none⟩,
      ⟨(some 17), .bin .xor (.t 15) (.t 16), none⟩,
      ⟨(some 5), .mv (.t 17), none⟩])
    (.skip)))
   (.seq (.reg [⟨(some 18), .mv (.t 0), none⟩,
     ⟨(some 19), .bin .and (.t 18) (.k (.c (.d (.int .u8 128)))), none⟩,
     ⟨(some 7), .mv (.t 19), none⟩])
   (.seq (.reg [⟨(some 20), .mv (.t 0), none⟩,
     ⟨(some 21), .bin .shl (.t 20) (.k (.c (.d (.int .u64 1)))), none⟩,
     ⟨(some 0), .mv (.t 21), none⟩])
   (.seq (.seq (.reg [⟨(some 22), .mv (.t 7), none⟩,
     ⟨(some 23), .bin .neq (.t 22) (.k (.c (.d (.int .u8 0)))), none⟩])
   (.cond (.t 23) (.reg [⟨(some 24), .mv (.t 0), none⟩,
      ⟨(some 25), .bin .xor (.t 24) (.k (.c (.d (.int .u8 27)))), none⟩,
      ⟨(some 0), .mv (.t 25), none⟩])
    (.skip)))
   (.reg [⟨(some 26), .mv (.t 1), none⟩,
     ⟨(some 27), .bin .shr (.t 26) (.k (.c (.d (.int .u64 1)))), none⟩,
     ⟨(some 1), .mv (.t 27), none⟩]))))))
  (.reg [⟨(some 10), .mv (.t 6), none⟩,
    ⟨(some 11), .bin .add (.t 10) (.k (.c (.d (.int .i64 1)))), none⟩,
    ⟨(some 6), .mv (.t 11), none⟩]))
def sf_rtim : SFn := ⟨2, 29,
  .seq (.reg [⟨(some 4), .mv (.k (.c (.d (.int .u8 0)))), none⟩])
  (.seq (.reg [⟨(some 5), .mv (.k (.c (.d (.int .u8 0)))), none⟩])
  (.seq (.seq (.reg [⟨(some 6), .mv (.k (.c (.d (.int .i64 0)))), none⟩])
  (.block 0 (.loop lp_rtim_0)))
  (.seq (.reg [⟨(some 28), .mv (.t 5), none⟩,
    ⟨(some 4), .mv (.t 28), none⟩])
  (.ret)))),
  [(4, none)]⟩
theorem cf_rtim : compFn Try.prog { own := [], comp := [], frz := [], nils := [] } Try.f38 = some sf_rtim := by kernel_rfl
set_option maxHeartbeats 1600000 in
theorem rtim_c (G : Glob) (x y : UInt8) : Den Try.prog G 38 [bD x, bD y] (.w (.c (.d (bD (timesK x y))))) := by
  refine den_walk Try.func38 cf_rtim rfl rfl ?_
  simp only [sf_rtim, putAll, wx, wy, wz, stV, seval, IntWalk.iteOmega, IntWalk.toNatUp, reduceCtorEq]
  refine loop_st (timS2 x y) (fun i => 8 - i) (fun i => i ≤ 8) 0 (Nat.zero_le _) ?_ ?_
  · refine ent_l (fun _ => 0) ?_ ?_ rfl rfl <;> simp only [wx, wex, wez, stV, seval, IntWalk.iteOmega, IntWalk.toNatUp, reduceCtorEq, shrB_zero, xtN_zero, tmN_zero] <;> rfl
  · intro i hi
    by_cases hlt : i < 8
    · have h1 := bl_and (shrB y i) 1 1 rfl
      have h2 := bl_eql (andB (shrB y i) 1) 1 1 rfl
      have h3 := bl_shr (shrB y i) .u64 1 1 rfl (by decide)
      have h4 := binV_xorB (tmN x y i) (xtN x i)
      have h5 := tm_step x y i
      rw [shrB_shrB] at h3
      rw [low_bit] at h2
      have h7 : xtB (xtN x i) = xtN x (i + 1) := rfl
      rw [xt_high] at h7
      have g1 := bl_and (xtN x i) 128 128 rfl
      have g2 := bl_neq (andB (xtN x i) 128) 0 0 rfl
      have g3 := bl_shl (xtN x i) .u64 1 1 rfl (by decide)
      have g4 := bl_xor (shlB (xtN x i) 1) 27 27 rfl
      cases hb : bitB y i <;> cases hh : andB (xtN x i) 128 != 0 <;> rw [hb] at h2 h5 <;> rw [hh] at g2 h7
      · have h8 : tmN x y i = tmN x y (i + 1) := by rw [← h5]; exact (xorB_zero _).symm
        simp only [if_false, Bool.false_eq_true] at h7
        simp only [lp_rtim_0, timS2, h1, h2, h3, h4, g1, g2, g3, wx, wy, wz, stV, seval, IntWalk.iteOmega, IntWalk.toNatUp, reduceCtorEq, h7]
        refine lop_next (i + 1) (by omega) (by omega) (ent_l (fun _ => 0) ?_ ?_ rfl rfl) <;> simp only [wx, wex, wez, stV, seval, IntWalk.iteOmega, IntWalk.toNatUp, reduceCtorEq, h8]
      · have h8 : tmN x y i = tmN x y (i + 1) := by rw [← h5]; exact (xorB_zero _).symm
        simp only [if_true] at h7
        simp only [lp_rtim_0, timS2, h1, h2, h3, h4, g1, g2, g3, g4, wx, wy, wz, stV, seval, IntWalk.iteOmega, IntWalk.toNatUp, reduceCtorEq, h7]
        refine lop_next (i + 1) (by omega) (by omega) (ent_l (fun _ => 0) ?_ ?_ rfl rfl) <;> simp only [wx, wex, wez, stV, seval, IntWalk.iteOmega, IntWalk.toNatUp, reduceCtorEq, h8]
      · have h8 : xorB (tmN x y i) (xtN x i) = tmN x y (i + 1) := h5
        simp only [if_false, Bool.false_eq_true] at h7
        simp only [lp_rtim_0, timS2, h1, h2, h3, h4, g1, g2, g3, wx, wy, wz, stV, seval, IntWalk.iteOmega, IntWalk.toNatUp, reduceCtorEq, h7]
        refine lop_next (i + 1) (by omega) (by omega) (ent_l (fun _ => 0) ?_ ?_ rfl rfl) <;> simp only [wx, wex, wez, stV, seval, IntWalk.iteOmega, IntWalk.toNatUp, reduceCtorEq, h8]
      · have h8 : xorB (tmN x y i) (xtN x i) = tmN x y (i + 1) := h5
        simp only [if_true] at h7
        simp only [lp_rtim_0, timS2, h1, h2, h3, h4, g1, g2, g3, g4, wx, wy, wz, stV, seval, IntWalk.iteOmega, IntWalk.toNatUp, reduceCtorEq, h7]
        refine lop_next (i + 1) (by omega) (by omega) (ent_l (fun _ => 0) ?_ ?_ rfl rfl) <;> simp only [wx, wex, wez, stV, seval, IntWalk.iteOmega, IntWalk.toNatUp, reduceCtorEq, h8]
    · obtain rfl : i = 8 := by omega
      have e : timesK x y = tmN x y 8 := rfl
      simp only [lp_rtim_0, timS2, wx, wy, wz, stV, seval, IntWalk.iteOmega, IntWalk.toNatUp, reduceCtorEq, e]
      exact ret_d1 (by simp only [wx, wy, wz, stV, seval, IntWalk.iteOmega, IntWalk.toNatUp, reduceCtorEq])
/-! ### Rotations, the affine part -/
def sf_rleft : SFn := ⟨2, 15,
  .seq (.reg [⟨(some 4), .mv (.k (.c (.d (.int .u8 0)))), none⟩])
  (.seq (.reg [⟨(some 5), .mv (.t 0), none⟩,
    ⟨(some 6), .mv (.t 1), none⟩,
    ⟨(some 7), .conv .u64 (.t 6), none⟩,
    ⟨(some 8), .bin .shl (.t 5) (.t 7), none⟩,
    ⟨(some 9), .mv (.t 0), none⟩,
    ⟨(some 10), .mv (.t 1), none⟩,
    ⟨(some 11), .bin .sub (.k (.c (.d (.int .i64 8)))) (.t 10), none⟩,
    ⟨(some 12), .conv .u64 (.t 11), none⟩,
    ⟨(some 13), .bin .shr (.t 9) (.t 12), none⟩,
    ⟨(some 14), .bin .or (.t 8) (.t 13), none⟩,
    ⟨(some 4), .mv (.t 14), none⟩])
  (.ret)),
  [(4, none)]⟩
theorem cf_rleft : compFn Try.prog { own := [], comp := [], frz := [], nils := [] } Try.f53 = some sf_rleft := by kernel_rfl
theorem rleft_c (G : Glob) (x : UInt8) (j : Nat) (h1 : 1 ≤ j) (h2 : j ≤ 4) : Den Try.prog G 53 [bD x, .int .i64 (j : Int)] (.w (.c (.d (bD (leftB x j))))) := by
  refine den_walk Try.func53 cf_rleft rfl rfl ?_
  have g1 := bl_shl x .u64 j (j : Int) rfl (by omega)
  have g2 := bl_shr x .u64 (8 - j) (8 - (j : Int)) (by omega) (by omega)
  have g3 := binV_orB (shlB x j) (shrB x (8 - j))
  have e : leftB x j = orB (shlB x j) (shrB x (8 - j)) := rfl
  simp only [sf_rleft, putAll, wx, wy, wz, stV, seval, IntWalk.iteOmega, IntWalk.toNatUp, reduceCtorEq, g1, g2, g3, e]
  exact ret_d1 (by simp only [wx, wy, wz, stV, seval, IntWalk.iteOmega, IntWalk.toNatUp, reduceCtorEq])
theorem aff_eq (y : UInt8) : xorB (xorB (xorB (xorB (xorB y (leftB y 1)) (leftB y 2)) (leftB y 3)) (leftB y 4)) 99 = affB y := rfl
/-! ### The table -/
set_option maxRecDepth 100000 in
theorem box_size : ByteArray.size ⟨#[99, 124, 119, 123, 242, 107, 111, 197, 48, 1, 103, 43, 254, 215, 171, 118, 202, 130, 201, 125, 250, 89, 71, 240, 173, 212, 162, 175, 156, 164, 114, 192, 183, 253, 147, 38, 54, 63, 247, 204, 52, 165, 229, 241, 113, 216, 49, 21, 4, 199, 35, 195, 24, 150, 5, 154, 7, 18, 128, 226, 235, 39, 178, 117, 9, 131, 44, 26, 27, 110, 90, 160, 82, 59, 214, 179, 41, 227, 47, 132, 83, 209, 0, 237, 32, 252, 177, 91, 106, 203, 190, 57, 74, 76, 88, 207, 208, 239, 170, 251, 67, 77, 51, 133, 69, 249, 2, 127, 80, 60, 159, 168, 81, 163, 64, 143, 146, 157, 56, 245, 188, 182, 218, 33, 16, 255, 243, 210, 205, 12, 19, 236, 95, 151, 68, 23, 196, 167, 126, 61, 100, 93, 25, 115, 96, 129, 79, 220, 34, 42, 144, 136, 70, 238, 184, 20, 222, 94, 11, 219, 224, 50, 58, 10, 73, 6, 36, 92, 194, 211, 172, 98, 145, 149, 228, 121, 231, 200, 55, 109, 141, 213, 78, 169, 108, 86, 244, 234, 101, 122, 174, 8, 186, 120, 37, 46, 28, 166, 180, 198, 232, 221, 116, 31, 75, 189, 139, 138, 112, 62, 181, 102, 72, 3, 246, 14, 97, 53, 87, 185, 134, 193, 29, 158, 225, 248, 152, 17, 105, 217, 142, 148, 155, 30, 135, 233, 206, 85, 40, 223, 140, 161, 137, 13, 191, 230, 66, 104, 65, 153, 45, 15, 176, 84, 187, 22]⟩ = 256 := rfl
set_option maxRecDepth 100000 in
theorem box_at (x : UInt8) : (ByteArray.data ⟨#[99, 124, 119, 123, 242, 107, 111, 197, 48, 1, 103, 43, 254, 215, 171, 118, 202, 130, 201, 125, 250, 89, 71, 240, 173, 212, 162, 175, 156, 164, 114, 192, 183, 253, 147, 38, 54, 63, 247, 204, 52, 165, 229, 241, 113, 216, 49, 21, 4, 199, 35, 195, 24, 150, 5, 154, 7, 18, 128, 226, 235, 39, 178, 117, 9, 131, 44, 26, 27, 110, 90, 160, 82, 59, 214, 179, 41, 227, 47, 132, 83, 209, 0, 237, 32, 252, 177, 91, 106, 203, 190, 57, 74, 76, 88, 207, 208, 239, 170, 251, 67, 77, 51, 133, 69, 249, 2, 127, 80, 60, 159, 168, 81, 163, 64, 143, 146, 157, 56, 245, 188, 182, 218, 33, 16, 255, 243, 210, 205, 12, 19, 236, 95, 151, 68, 23, 196, 167, 126, 61, 100, 93, 25, 115, 96, 129, 79, 220, 34, 42, 144, 136, 70, 238, 184, 20, 222, 94, 11, 219, 224, 50, 58, 10, 73, 6, 36, 92, 194, 211, 172, 98, 145, 149, 228, 121, 231, 200, 55, 109, 141, 213, 78, 169, 108, 86, 244, 234, 101, 122, 174, 8, 186, 120, 37, 46, 28, 166, 180, 198, 232, 221, 116, 31, 75, 189, 139, 138, 112, 62, 181, 102, 72, 3, 246, 14, 97, 53, 87, 185, 134, 193, 29, 158, 225, 248, 152, 17, 105, 217, 142, 148, 155, 30, 135, 233, 206, 85, 40, 223, 140, 161, 137, 13, 191, 230, 66, 104, 65, 153, 45, 15, 176, 84, 187, 22]⟩).toList[x.toNat]? = some (subK x) := by
  have e : (ByteArray.data ⟨#[99, 124, 119, 123, 242, 107, 111, 197, 48, 1, 103, 43, 254, 215, 171, 118, 202, 130, 201, 125, 250, 89, 71, 240, 173, 212, 162, 175, 156, 164, 114, 192, 183, 253, 147, 38, 54, 63, 247, 204, 52, 165, 229, 241, 113, 216, 49, 21, 4, 199, 35, 195, 24, 150, 5, 154, 7, 18, 128, 226, 235, 39, 178, 117, 9, 131, 44, 26, 27, 110, 90, 160, 82, 59, 214, 179, 41, 227, 47, 132, 83, 209, 0, 237, 32, 252, 177, 91, 106, 203, 190, 57, 74, 76, 88, 207, 208, 239, 170, 251, 67, 77, 51, 133, 69, 249, 2, 127, 80, 60, 159, 168, 81, 163, 64, 143, 146, 157, 56, 245, 188, 182, 218, 33, 16, 255, 243, 210, 205, 12, 19, 236, 95, 151, 68, 23, 196, 167, 126, 61, 100, 93, 25, 115, 96, 129, 79, 220, 34, 42, 144, 136, 70, 238, 184, 20, 222, 94, 11, 219, 224, 50, 58, 10, 73, 6, 36, 92, 194, 211, 172, 98, 145, 149, 228, 121, 231, 200, 55, 109, 141, 213, 78, 169, 108, 86, 244, 234, 101, 122, 174, 8, 186, 120, 37, 46, 28, 166, 180, 198, 232, 221, 116, 31, 75, 189, 139, 138, 112, 62, 181, 102, 72, 3, 246, 14, 97, 53, 87, 185, 134, 193, 29, 158, 225, 248, 152, 17, 105, 217, 142, 148, 155, 30, 135, 233, 206, 85, 40, 223, 140, 161, 137, 13, 191, 230, 66, 104, 65, 153, 45, 15, 176, 84, 187, 22]⟩).toList = boxT := rfl
  rw [e, boxT_eq]; exact boxL_get x
set_option maxRecDepth 100000
def sf_sub : SFn := ⟨1, 5,
  .seq (.reg [⟨(some 2), .mv (.k (.c (.d (.int .u8 0)))), none⟩])
  (.seq (.reg [⟨(some 3), .mv (.t 0), none⟩,
    ⟨(some 4), .idxStr (.k (.c (.d (.str ⟨#[99, 124, 119, 123, 242, 107, 111, 197, 48, 1, 103, 43, 254, 215, 171, 118, 202, 130, 201, 125, 250, 89, 71, 240, 173, 212, 162, 175, 156, 164, 114, 192, 183, 253, 147, 38, 54, 63, 247, 204, 52, 165, 229, 241, 113, 216, 49, 21, 4, 199, 35, 195, 24, 150, 5, 154, 7, 18, 128, 226, 235, 39, 178, 117, 9, 131, 44, 26, 27, 110, 90, 160, 82, 59, 214, 179, 41, 227, 47, 132, 83, 209, 0, 237, 32, 252, 177, 91, 106, 203, 190, 57, 74, 76, 88, 207, 208, 239, 170, 251, 67, 77, 51, 133, 69, 249, 2, 127, 80, 60, 159, 168, 81, 163, 64, 143, 146, 157, 56, 245, 188, 182, 218, 33, 16, 255, 243, 210, 205, 12, 19, 236, 95, 151, 68, 23, 196, 167, 126, 61, 100, 93, 25, 115, 96, 129, 79, 220, 34, 42, 144, 136, 70, 238, 184, 20, 222, 94, 11, 219, 224, 50, 58, 10, 73, 6, 36, 92, 194, 211, 172, 98, 145, 149, 228, 121, 231, 200, 55, 109, 141, 213, 78, 169, 108, 86, 244, 234, 101, 122, 174, 8, 186, 120, 37, 46, 28, 166, 180, 198, 232, 221, 116, 31, 75, 189, 139, 138, 112, 62, 181, 102, 72, 3, 246, 14, 97, 53, 87, 185, 134, 193, 29, 158, 225, 248, 152, 17, 105, 217, 142, 148, 155, 30, 135, 233, 206, 85, 40, 223, 140, 161, 137, 13, 191, 230, 66, 104, 65, 153, 45, 15, 176, 84, 187, 22]⟩)))) (.t 3), none⟩,
    ⟨(some 2), .mv (.t 4), none⟩])
  (.ret)),
  [(2, none)]⟩
theorem cf_sub : compFn Try.prog { own := [], comp := [], frz := [], nils := [] } Try.f57 = some sf_sub := by kernel_rfl
theorem sub_c (G : Glob) (x : UInt8) : Den Try.prog G 57 [bD x] (.w (.c (.d (bD (subK x))))) := by
  refine den_walk Try.func57 cf_sub rfl rfl ?_
  have h := byte_lt x
  have e := box_at x
  simp only [sf_sub, putAll, wx, wy, wz, stV, seval, IntWalk.iteOmega, IntWalk.toNatUp, reduceCtorEq, box_size, e]
  exact ret_d1 (by simp only [wx, wy, wz, stV, seval, IntWalk.iteOmega, IntWalk.toNatUp, reduceCtorEq])
def powSt (x : UInt8) (i : Nat) : St := ⟨ofL [(0, .w (.c (.d (bD x)))), (3, .w (.c (.d (bD (powB x i))))), (4, .w (.c (.d (.int .i64 (i : Int)))))], hL [], uL []⟩
theorem pow_step (x : UInt8) (i : Nat) : timesK (powB x i) x = powB x (i + 1) := rfl
end Go.Proofs.Ytnadfnnkdnakhaa
