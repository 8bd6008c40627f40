/- The laws of layer 4. Own work. -/
import Derived.Test.YtopnilojhpddiaaAlV
import Derived.Test.YtopnilojhpddiaaPw1
import Derived.Test.YtopnilojhpddiaaPcD
set_option linter.unusedVariables false
set_option linter.unusedSimpArgs false
namespace Go.Proofs.Ytopnilojhpddiaa
open Go.RowKit

theorem binS_lst (a b : ByteArray) : binS .eql a b = some (.bool (a.data.toList == b.data.toList)) := by
  cases a; cases b
  rename_i x y
  have h := binS_same x.toList y.toList
  simpa using h
def key4 : List UInt8 := [0, 1, 2, 3, 4, 5, 6, 7, 8, 9, 10, 11, 12, 13, 14, 15]
def in4 : List UInt8 := [0, 17, 34, 51, 68, 85, 102, 119, 136, 153, 170, 187, 204, 221, 238, 255]
theorem unh_k : unhL (ByteArray.data ⟨#[48, 48, 48, 49, 48, 50, 48, 51, 48, 52, 48, 53, 48, 54, 48, 55, 48, 56, 48, 57, 48, 97, 48, 98, 48, 99, 48, 100, 48, 101, 48, 102]⟩).toList = key4 := by decide +kernel
theorem uno_k : unhO (ByteArray.data ⟨#[48, 48, 48, 49, 48, 50, 48, 51, 48, 52, 48, 53, 48, 54, 48, 55, 48, 56, 48, 57, 48, 97, 48, 98, 48, 99, 48, 100, 48, 101, 48, 102]⟩).toList = true := by decide +kernel
theorem unh_i : unhL (ByteArray.data ⟨#[48, 48, 49, 49, 50, 50, 51, 51, 52, 52, 53, 53, 54, 54, 55, 55, 56, 56, 57, 57, 97, 97, 98, 98, 99, 99, 100, 100, 101, 101, 102, 102]⟩).toList = in4 := by decide +kernel
theorem uno_i : unhO (ByteArray.data ⟨#[48, 48, 49, 49, 50, 50, 51, 51, 52, 52, 53, 53, 54, 54, 55, 55, 56, 56, 57, 57, 97, 97, 98, 98, 99, 99, 100, 100, 101, 101, 102, 102]⟩).toList = true := by decide +kernel
/-! ### The example of the standard, round by round -/
theorem kbx0 : kb key4 0 = [0, 1, 2, 3, 4, 5, 6, 7, 8, 9, 10, 11, 12, 13, 14, 15] := rfl
theorem kbx1 : kb key4 1 = [214, 170, 116, 253, 210, 175, 114, 250, 218, 166, 120, 241, 214, 171, 118, 254] := by rw [kb_next (key := key4) rfl 0, kbx0]; decide +kernel
theorem kbx2 : kb key4 2 = [182, 146, 207, 11, 100, 61, 189, 241, 190, 155, 197, 0, 104, 48, 179, 254] := by rw [kb_next (key := key4) rfl 1, kbx1]; decide +kernel
theorem kbx3 : kb key4 3 = [182, 255, 116, 78, 210, 194, 201, 191, 108, 89, 12, 191, 4, 105, 191, 65] := by rw [kb_next (key := key4) rfl 2, kbx2]; decide +kernel
theorem kbx4 : kb key4 4 = [71, 247, 247, 188, 149, 53, 62, 3, 249, 108, 50, 188, 253, 5, 141, 253] := by rw [kb_next (key := key4) rfl 3, kbx3]; decide +kernel
theorem kbx5 : kb key4 5 = [60, 170, 163, 232, 169, 159, 157, 235, 80, 243, 175, 87, 173, 246, 34, 170] := by rw [kb_next (key := key4) rfl 4, kbx4]; decide +kernel
theorem kbx6 : kb key4 6 = [94, 57, 15, 125, 247, 166, 146, 150, 167, 85, 61, 193, 10, 163, 31, 107] := by rw [kb_next (key := key4) rfl 5, kbx5]; decide +kernel
theorem kbx7 : kb key4 7 = [20, 249, 112, 26, 227, 95, 226, 140, 68, 10, 223, 77, 78, 169, 192, 38] := by rw [kb_next (key := key4) rfl 6, kbx6]; decide +kernel
theorem kbx8 : kb key4 8 = [71, 67, 135, 53, 164, 28, 101, 185, 224, 22, 186, 244, 174, 191, 122, 210] := by rw [kb_next (key := key4) rfl 7, kbx7]; decide +kernel
theorem kbx9 : kb key4 9 = [84, 153, 50, 209, 240, 133, 87, 104, 16, 147, 237, 156, 190, 44, 151, 78] := by rw [kb_next (key := key4) rfl 8, kbx8]; decide +kernel
theorem kbx10 : kb key4 10 = [19, 17, 29, 127, 227, 148, 74, 23, 243, 7, 167, 139, 77, 43, 48, 197] := by rw [kb_next (key := key4) rfl 9, kbx9]; decide +kernel
theorem stx0 : toL (encF (keyF (rkK key4)) (ofB16 in4) 0) = [0, 16, 32, 48, 64, 80, 96, 112, 128, 144, 160, 176, 192, 208, 224, 240] := by rw [← addL_enc _ _ rfl, kb_toL (key := key4) rfl (by decide), kbx0]; decide +kernel
theorem stx1 : toL (encF (keyF (rkK key4)) (ofB16 in4) 1) = [137, 216, 16, 232, 133, 90, 206, 104, 45, 24, 67, 216, 203, 18, 143, 228] := by rw [← rnd_enc (n := 0) _ _ (by decide), stx0, kb_toL (key := key4) (r := 1) rfl (by decide), kbx1]; decide +kernel
theorem stx2 : toL (encF (keyF (rkK key4)) (ofB16 in4) 2) = [73, 21, 89, 143, 85, 229, 215, 160, 218, 202, 148, 250, 31, 10, 99, 247] := by rw [← rnd_enc (n := 1) _ _ (by decide), stx1, kb_toL (key := key4) (r := 2) rfl (by decide), kbx2]; decide +kernel
theorem stx3 : toL (encF (keyF (rkK key4)) (ofB16 in4) 3) = [250, 99, 106, 40, 37, 179, 57, 201, 64, 102, 138, 49, 87, 36, 77, 23] := by rw [← rnd_enc (n := 2) _ _ (by decide), stx2, kb_toL (key := key4) (r := 3) rfl (by decide), kbx3]; decide +kernel
theorem stx4 : toL (encF (keyF (rkK key4)) (ofB16 in4) 4) = [36, 114, 64, 35, 105, 102, 179, 250, 110, 210, 117, 50, 136, 66, 91, 108] := by rw [← rnd_enc (n := 3) _ _ (by decide), stx3, kb_toL (key := key4) (r := 4) rfl (by decide), kbx4]; decide +kernel
theorem stx5 : toL (encF (keyF (rkK key4)) (ofB16 in4) 5) = [200, 22, 119, 188, 155, 122, 201, 59, 37, 2, 121, 146, 176, 38, 25, 150] := by rw [← rnd_enc (n := 4) _ _ (by decide), stx4, kb_toL (key := key4) (r := 5) rfl (by decide), kbx5]; decide +kernel
theorem stx6 : toL (encF (keyF (rkK key4)) (ofB16 in4) 6) = [198, 47, 225, 9, 247, 94, 237, 195, 204, 121, 57, 93, 132, 249, 207, 93] := by rw [← rnd_enc (n := 5) _ _ (by decide), stx5, kb_toL (key := key4) (r := 6) rfl (by decide), kbx6]; decide +kernel
theorem stx7 : toL (encF (keyF (rkK key4)) (ofB16 in4) 7) = [209, 135, 108, 15, 121, 196, 48, 10, 180, 85, 148, 173, 214, 111, 244, 31] := by rw [← rnd_enc (n := 6) _ _ (by decide), stx6, kb_toL (key := key4) (r := 7) rfl (by decide), kbx7]; decide +kernel
theorem stx8 : toL (encF (keyF (rkK key4)) (ofB16 in4) 8) = [253, 227, 186, 210, 5, 229, 208, 215, 53, 71, 150, 78, 241, 254, 55, 241] := by rw [← rnd_enc (n := 7) _ _ (by decide), stx7, kb_toL (key := key4) (r := 8) rfl (by decide), kbx8]; decide +kernel
theorem stx9 : toL (encF (keyF (rkK key4)) (ofB16 in4) 9) = [189, 110, 124, 61, 242, 181, 119, 158, 11, 97, 33, 110, 139, 16, 182, 137] := by rw [← rnd_enc (n := 8) _ _ (by decide), stx8, kb_toL (key := key4) (r := 9) rfl (by decide), kbx9]; decide +kernel
theorem blk_lit : blockC key4 in4 = [105, 196, 224, 216, 106, 123, 4, 48, 216, 205, 183, 128, 112, 180, 197, 90] := by
  show encK (rkK key4) in4 = _
  rw [← last_enc, stx9, kb_toL (key := key4) (r := 10) rfl (by decide), kbx10]; decide +kernel
theorem blk_ki : hexL (blockC key4 in4) = [54, 57, 99, 52, 101, 48, 100, 56, 54, 97, 55, 98, 48, 52, 51, 48, 100, 56, 99, 100, 98, 55, 56, 48, 55, 48, 98, 52, 99, 53, 53, 97] := by rw [blk_lit]; decide +kernel
theorem blkV_ki : blkV key4 in4 = blockC key4 in4 := if_pos ⟨rfl, rfl⟩
theorem blkE_ki : blkE key4 in4 = 0 := rfl
def sf_known4 : SFn := ⟨0, 28,
  .seq (.reg [⟨(some 0), .mv (.k (.c (.d (.bool false)))), none⟩])
  (.seq (.reg [⟨(some 8), .call 26 [(.k (.c (.d (.str ⟨#[48, 48, 48, 49, 48, 50, 48, 51, 48, 52, 48, 53, 48, 54, 48, 55, 48, 56, 48, 57, 48, 97, 48, 98, 48, 99, 48, 100, 48, 101, 48, 102]⟩))))] none, none⟩,
    ⟨(some 7), .mv (.t 8), none⟩,
    ⟨(some 9), .extract (.t 7) 0, none⟩,
    ⟨(some 10), .extract (.t 7) 1, none⟩,
    ⟨(some 1), .mv (.t 9), none⟩,
    ⟨(some 2), .mv (.t 10), none⟩])
  (.seq (.reg [⟨(some 12), .call 26 [(.k (.c (.d (.str ⟨#[48, 48, 49, 49, 50, 50, 51, 51, 52, 52, 53, 53, 54, 54, 55, 55, 56, 56, 57, 57, 97, 97, 98, 98, 99, 99, 100, 100, 101, 101, 102, 102]⟩))))] none, none⟩,
    ⟨(some 11), .mv (.t 12), none⟩,
    ⟨(some 13), .extract (.t 11) 0, none⟩,
    ⟨(some 14), .extract (.t 11) 1, none⟩,
    ⟨(some 3), .mv (.t 13), none⟩,
    ⟨(some 4), .mv (.t 14), none⟩])
  (.seq (.reg [⟨(some 16), .mv (.t 1), none⟩,
    ⟨(some 17), .mv (.t 3), none⟩,
    ⟨(some 18), .call 11 [(.t 16), (.t 17)] none, none⟩,
    ⟨(some 15), .mv (.t 18), none⟩,
    ⟨(some 19), .extract (.t 15) 0, none⟩,
    ⟨(some 20), .extract (.t 15) 1, none⟩,
    ⟨(some 5), .mv (.t 19), none⟩,
    ⟨(some 6), .mv (.t 20), none⟩])
  (.seq (.reg [⟨(some 21), .mv (.t 6), none⟩,
    ⟨(some 22), .bin .eql (.t 21) (.k (.c (.d (.int .i64 0)))), none⟩,
    ⟨(some 23), .mv (.t 22), none⟩,
    ⟨(some 24), .mv (.t 5), (some (23, true))⟩,
    ⟨(some 25), .call 27 [(.t 24)] none, (some (23, true))⟩,
    ⟨(some 26), .bin .eql (.t 25) (.k (.c (.d (.str ⟨#[54, 57, 99, 52, 101, 48, 100, 56, 54, 97, 55, 98, 48, 52, 51, 48, 100, 56, 99, 100, 98, 55, 56, 48, 55, 48, 98, 52, 99, 53, 53, 97]⟩)))), (some (23, true))⟩,
    ⟨(some 27), .pick (.t 23) (.t 26) (.k (.c (.d (.bool false)))), none⟩,
    ⟨(some 0), .mv (.t 27), none⟩])
  (.ret))))),
  [(0, none)]⟩
theorem cf_known4 : compFn Try.prog { own := [], comp := [], frz := [], nils := [] } Try.f8 = some sf_known4 := by kernel_rfl
set_option maxHeartbeats 1600000 in
theorem known4_c (G : Glob) : Den Try.prog G 8 [] (.w (.c (.d (.bool true)))) := by
  refine den_walk Try.func8 cf_known4 rfl rfl ?_
  simp only [sf_known4, putAll, wx, wy, wz, stV, seval, IntWalk.iteOmega, IntWalk.toNatUp, reduceCtorEq]
  refine st_call (unhex_c G ⟨#[48, 48, 48, 49, 48, 50, 48, 51, 48, 52, 48, 53, 48, 54, 48, 55, 48, 56, 48, 57, 48, 97, 48, 98, 48, 99, 48, 100, 48, 101, 48, 102]⟩ (by decide)) rfl (.inl rfl) ?_
  simp only [unh_k, uno_k, wx, wy, wz, stV, seval, IntWalk.iteOmega, IntWalk.toNatUp, reduceCtorEq]
  refine st_call (unhex_c G ⟨#[48, 48, 49, 49, 50, 50, 51, 51, 52, 52, 53, 53, 54, 54, 55, 55, 56, 56, 57, 57, 97, 97, 98, 98, 99, 99, 100, 100, 101, 101, 102, 102]⟩ (by decide)) rfl (.inl rfl) ?_
  simp only [unh_i, uno_i, wx, wy, wz, stV, seval, IntWalk.iteOmega, IntWalk.toNatUp, reduceCtorEq]
  refine st_call (blk_c G key4 in4 (by decide) (by decide)) rfl (.inl rfl) ?_
  simp only [blkV_ki, blkE_ki, wx, wy, wz, stV, seval, IntWalk.iteOmega, IntWalk.toNatUp, reduceCtorEq]
  refine st_call (hex_c G (blockC key4 in4) (by rw [show (blockC key4 in4).length = 16 from encK_len _ _]; decide)) rfl (.inl rfl) ?_
  simp only [binS_lst, blk_ki, beq_self_eq_true, wx, wy, wz, stV, seval, IntWalk.iteOmega, IntWalk.toNatUp, reduceCtorEq]
  exact ret_d1 (by simp only [wx, wy, wz, stV, seval, IntWalk.iteOmega, IntWalk.toNatUp, reduceCtorEq])
theorem keyV_len (key : List UInt8) : (keyV key).length ≤ 140737488355328 := by unfold keyV; split <;> simp [kbs]
def sf_cacts : SFn := ⟨3, 107,
  .seq (.reg [⟨(some 6), .mv (.k (.c (.d (.bool false)))), none⟩])
  (.seq (.seq (.reg [⟨(some 19), .mv (.t 0), none⟩,
    ⟨(some 20), .len (.t 19), none⟩,
    ⟨(some 21), .bin .gtr (.t 20) (.k (.c (.d (.int .i64 40)))), none⟩,
    ⟨(some 22), .mv (.t 21), none⟩,
    ⟨(some 23), .mv (.t 1), (some (22, false))⟩,
    ⟨(some 24), .len (.t 23), (some (22, false))⟩,
    ⟨(some 25), .bin .gtr (.t 24) (.k (.c (.d (.int .i64 40)))), (some (22, false))⟩,
    ⟨(some 26), .pick (.t 22) (.k (.c (.d (.bool true)))) (.t 25), none⟩,
    ⟨(some 27), .mv (.t 26), none⟩,
    ⟨(some 28), .mv (.t 2), (some (27, false))⟩,
    ⟨(some 29), .len (.t 28), (some (27, false))⟩,
    ⟨(some 30), .bin .gtr (.t 29) (.k (.c (.d (.int .i64 100)))), (some (27, false))⟩,
    ⟨(some 31), .pick (.t 27) (.k (.c (.d (.bool true)))) (.t 30), none⟩])
  (.cond (.t 31) (.seq (.reg [⟨(some 32), .call 8 [] none, none⟩,
     ⟨(some 6), .mv (.t 32), none⟩])
   (.ret))
   (.skip)))
  (.seq (.reg [⟨(some 34), .mv (.t 0), none⟩,
    ⟨(some 35), .call 9 [(.t 34)] none, none⟩,
    ⟨(some 33), .mv (.t 35), none⟩,
    ⟨(some 36), .extract (.t 33) 0, none⟩,
    ⟨(some 37), .extract (.t 33) 1, none⟩,
    ⟨(some 7), .mv (.t 36), none⟩,
    ⟨(some 8), .mv (.t 37), none⟩])
  (.seq (.reg [⟨(some 39), .mv (.t 0), none⟩,
    ⟨(some 40), .call 10 [(.t 39)] none, none⟩,
    ⟨(some 38), .mv (.t 40), none⟩,
    ⟨(some 41), .extract (.t 38) 0, none⟩,
    ⟨(some 42), .extract (.t 38) 1, none⟩,
    ⟨(some 9), .mv (.t 41), none⟩,
    ⟨(some 10), .mv (.t 42), none⟩])
  (.seq (.reg [⟨(some 44), .mv (.t 0), none⟩,
    ⟨(some 45), .mv (.t 1), none⟩,
    ⟨(some 46), .call 11 [(.t 44), (.t 45)] none, none⟩,
    ⟨(some 43), .mv (.t 46), none⟩,
    ⟨(some 47), .extract (.t 43) 0, none⟩,
    ⟨(some 48), .extract (.t 43) 1, none⟩,
    ⟨(some 11), .mv (.t 47), none⟩,
    ⟨(some 12), .mv (.t 48), none⟩])
  (.seq (.reg [⟨(some 50), .mv (.t 0), none⟩,
    ⟨(some 51), .mv (.t 1), none⟩,
    ⟨(some 52), .call 12 [(.t 50), (.t 51)] none, none⟩,
    ⟨(some 49), .mv (.t 52), none⟩,
    ⟨(some 53), .extract (.t 49) 0, none⟩,
    ⟨(some 54), .extract (.t 49) 1, none⟩,
    ⟨(some 13), .mv (.t 53), none⟩,
    ⟨(some 14), .mv (.t 54), none⟩])
  (.seq (.reg [⟨(some 56), .mv (.t 0), none⟩,
    ⟨(some 57), .mv (.t 1), none⟩,
    ⟨(some 58), .mv (.t 2), none⟩,
    ⟨(some 59), .call 13 [(.t 56), (.t 57), (.t 58)] none, none⟩,
    ⟨(some 55), .mv (.t 59), none⟩,
    ⟨(some 60), .extract (.t 55) 0, none⟩,
    ⟨(some 61), .extract (.t 55) 1, none⟩,
    ⟨(some 15), .mv (.t 60), none⟩,
    ⟨(some 16), .mv (.t 61), none⟩])
  (.seq (.reg [⟨(some 63), .mv (.t 0), none⟩,
    ⟨(some 64), .mv (.t 1), none⟩,
    ⟨(some 65), .mv (.t 2), none⟩,
    ⟨(some 66), .call 14 [(.t 63), (.t 64), (.t 65)] none, none⟩,
    ⟨(some 62), .mv (.t 66), none⟩,
    ⟨(some 67), .extract (.t 62) 0, none⟩,
    ⟨(some 68), .extract (.t 62) 1, none⟩,
    ⟨(some 17), .mv (.t 67), none⟩,
    ⟨(some 18), .mv (.t 68), none⟩])
  (.seq (.reg [⟨(some 69), .call 8 [] none, none⟩,
    ⟨(some 70), .mv (.t 69), none⟩,
    ⟨(some 71), .mv (.t 8), (some (70, true))⟩,
    ⟨(some 72), .mv (.t 10), (some (70, true))⟩,
    ⟨(some 73), .bin .eql (.t 71) (.t 72), (some (70, true))⟩,
    ⟨(some 74), .pick (.t 70) (.t 73) (.k (.c (.d (.bool false)))), none⟩,
    ⟨(some 75), .mv (.t 74), none⟩,
    ⟨(some 76), .mv (.t 7), (some (75, true))⟩,
    ⟨(some 77), .mv (.t 9), (some (75, true))⟩,
    ⟨(some 78), .call 15 [(.t 76), (.t 77)] none, (some (75, true))⟩,
    ⟨(some 79), .pick (.t 75) (.t 78) (.k (.c (.d (.bool false)))), none⟩,
    ⟨(some 80), .mv (.t 79), none⟩,
    ⟨(some 81), .mv (.t 12), (some (80, true))⟩,
    ⟨(some 82), .mv (.t 14), (some (80, true))⟩,
    ⟨(some 83), .bin .eql (.t 81) (.t 82), (some (80, true))⟩,
    ⟨(some 84), .pick (.t 80) (.t 83) (.k (.c (.d (.bool false)))), none⟩,
    ⟨(some 85), .mv (.t 84), none⟩,
    ⟨(some 86), .mv (.t 11), (some (85, true))⟩,
    ⟨(some 87), .mv (.t 13), (some (85, true))⟩,
    ⟨(some 88), .call 16 [(.t 86), (.t 87)] none, (some (85, true))⟩,
    ⟨(some 89), .pick (.t 85) (.t 88) (.k (.c (.d (.bool false)))), none⟩,
    ⟨(some 90), .mv (.t 89), none⟩,
    ⟨(some 91), .mv (.t 1), (some (90, true))⟩,
    ⟨(some 92), .call 17 [(.t 91)] none, (some (90, true))⟩,
    ⟨(some 93), .mv (.t 1), (some (90, true))⟩,
    ⟨(some 94), .call 18 [(.t 93)] none, (some (90, true))⟩,
    ⟨(some 95), .call 16 [(.t 92), (.t 94)] none, (some (90, true))⟩,
    ⟨(some 96), .pick (.t 90) (.t 95) (.k (.c (.d (.bool false)))), none⟩,
    ⟨(some 97), .mv (.t 96), none⟩,
    ⟨(some 98), .mv (.t 16), (some (97, true))⟩,
    ⟨(some 99), .mv (.t 18), (some (97, true))⟩,
    ⟨(some 100), .bin .eql (.t 98) (.t 99), (some (97, true))⟩,
    ⟨(some 101), .pick (.t 97) (.t 100) (.k (.c (.d (.bool false)))), none⟩,
    ⟨(some 102), .mv (.t 101), none⟩,
    ⟨(some 103), .mv (.t 15), (some (102, true))⟩,
    ⟨(some 104), .mv (.t 17), (some (102, true))⟩,
    ⟨(some 105), .call 16 [(.t 103), (.t 104)] none, (some (102, true))⟩,
    ⟨(some 106), .pick (.t 102) (.t 105) (.k (.c (.d (.bool false)))), none⟩,
    ⟨(some 6), .mv (.t 106), none⟩])
  (.ret))))))))),
  [(6, none)]⟩
theorem cf_cacts : compFn Try.prog { own := [], comp := [], frz := [], nils := [] } Try.f3 = some sf_cacts := by kernel_rfl
set_option maxHeartbeats 1600000 in
theorem cacts_c (G : Glob) (key : List UInt8) (hkey : key.length ≤ maxLen) (inp : List UInt8) (hinp : inp.length ≤ maxLen) (b : List UInt8) (hb : b.length ≤ maxLen)  : Den Try.prog G 3 [.sl (key.map bD), .sl (inp.map bD), .sl (b.map bD)] (.w (.c (.d (.bool true)))) := by
  refine den_walk Try.func3 cf_cacts rfl rfl ?_
  by_cases g1 : 40 < key.length
  · simp only [sf_cacts, putAll, wx, wy, wz, stV, seval, IntWalk.iteOmega, IntWalk.toNatUp, reduceCtorEq]
    refine st_call (known4_c G) rfl (.inl rfl) ?_
    simp only [wx, wy, wz, stV, seval, IntWalk.iteOmega, IntWalk.toNatUp, reduceCtorEq]
    exact ret_d1 (by simp only [wx, wy, wz, stV, seval, IntWalk.iteOmega, IntWalk.toNatUp, reduceCtorEq])
  · by_cases g2 : 40 < inp.length
    · simp only [sf_cacts, putAll, wx, wy, wz, stV, seval, IntWalk.iteOmega, IntWalk.toNatUp, reduceCtorEq]
      refine st_call (known4_c G) rfl (.inl rfl) ?_
      simp only [wx, wy, wz, stV, seval, IntWalk.iteOmega, IntWalk.toNatUp, reduceCtorEq]
      exact ret_d1 (by simp only [wx, wy, wz, stV, seval, IntWalk.iteOmega, IntWalk.toNatUp, reduceCtorEq])
    · by_cases g3 : 100 < b.length
      · simp only [sf_cacts, putAll, wx, wy, wz, stV, seval, IntWalk.iteOmega, IntWalk.toNatUp, reduceCtorEq]
        refine st_call (known4_c G) rfl (.inl rfl) ?_
        simp only [wx, wy, wz, stV, seval, IntWalk.iteOmega, IntWalk.toNatUp, reduceCtorEq]
        exact ret_d1 (by simp only [wx, wy, wz, stV, seval, IntWalk.iteOmega, IntWalk.toNatUp, reduceCtorEq])
      · simp only [sf_cacts, putAll, wx, wy, wz, stV, seval, IntWalk.iteOmega, IntWalk.toNatUp, reduceCtorEq]
        refine st_call (keys_c G key (by omega)) rfl (.inl rfl) ?_
        simp only [wx, wy, wz, stV, seval, IntWalk.iteOmega, IntWalk.toNatUp, reduceCtorEq]
        refine st_call (rkeys_c G key (by omega)) rfl (.inl rfl) ?_
        simp only [wx, wy, wz, stV, seval, IntWalk.iteOmega, IntWalk.toNatUp, reduceCtorEq]
        refine st_call (blk_c G key inp (by omega) (by omega)) rfl (.inl rfl) ?_
        simp only [wx, wy, wz, stV, seval, IntWalk.iteOmega, IntWalk.toNatUp, reduceCtorEq]
        refine st_call (rblk_c G key inp (by omega) (by omega)) rfl (.inl rfl) ?_
        simp only [wx, wy, wz, stV, seval, IntWalk.iteOmega, IntWalk.toNatUp, reduceCtorEq]
        refine st_call (stm_c G key inp b (by omega) (by omega) (by omega)) rfl (.inl rfl) ?_
        simp only [wx, wy, wz, stV, seval, IntWalk.iteOmega, IntWalk.toNatUp, reduceCtorEq]
        refine st_call (rstm_c G key inp b (by omega) (by omega) (by omega)) rfl (.inl rfl) ?_
        simp only [wx, wy, wz, stV, seval, IntWalk.iteOmega, IntWalk.toNatUp, reduceCtorEq]
        refine st_call (known4_c G) rfl (.inl rfl) ?_
        simp only [wx, wy, wz, stV, seval, IntWalk.iteOmega, IntWalk.toNatUp, reduceCtorEq]
        refine st_call (sls_c G (keyV key) (keyV key) (keyV_len key) (keyV_len key)) rfl (.inl rfl) ?_
        simp only [wx, wy, wz, stV, seval, IntWalk.iteOmega, IntWalk.toNatUp, reduceCtorEq]
        refine st_call (rsame_c G (blkV key inp) (blkV key inp)) rfl (.inl rfl) ?_
        simp only [wx, wy, wz, stV, seval, IntWalk.iteOmega, IntWalk.toNatUp, reduceCtorEq]
        refine st_call (nex_c G inp (by omega)) rfl (.inl rfl) ?_
        simp only [wx, wy, wz, stV, seval, IntWalk.iteOmega, IntWalk.toNatUp, reduceCtorEq]
        refine st_call (rnex_c G inp (by omega)) rfl (.inl rfl) ?_
        simp only [wx, wy, wz, stV, seval, IntWalk.iteOmega, IntWalk.toNatUp, reduceCtorEq]
        refine st_call (rsame_c G (nexV inp) (nexV inp)) rfl (.inl rfl) ?_
        simp only [wx, wy, wz, stV, seval, IntWalk.iteOmega, IntWalk.toNatUp, reduceCtorEq]
        refine st_call (rsame_c G (strmV key inp b) (strmV key inp b)) rfl (.inl rfl) ?_
        simp only [wx, wy, wz, stV, seval, IntWalk.iteOmega, IntWalk.toNatUp, reduceCtorEq]
        exact ret_d1 (by simp only [wx, wy, wz, stV, seval, IntWalk.iteOmega, IntWalk.toNatUp, reduceCtorEq])
theorem sub_ne {x y : UInt8} (h : x ≠ y) : (subK x != subK y) = true := bne_iff_ne.2 fun e => h (sub_inj e)
def sf_cbytes : SFn := ⟨3, 73,
  .seq (.reg [⟨(some 6), .mv (.k (.c (.d (.bool false)))), none⟩])
  (.seq (.reg [⟨(some 7), .call 8 [] none, none⟩,
    ⟨(some 8), .mv (.t 7), none⟩,
    ⟨(some 9), .mv (.t 0), (some (8, true))⟩,
    ⟨(some 10), .call 19 [(.t 9)] none, (some (8, true))⟩,
    ⟨(some 11), .mv (.t 0), (some (8, true))⟩,
    ⟨(some 12), .call 20 [(.t 11)] none, (some (8, true))⟩,
    ⟨(some 13), .bin .eql (.t 10) (.t 12), (some (8, true))⟩,
    ⟨(some 14), .pick (.t 8) (.t 13) (.k (.c (.d (.bool false)))), none⟩,
    ⟨(some 15), .mv (.t 14), none⟩,
    ⟨(some 16), .mv (.t 0), (some (15, true))⟩,
    ⟨(some 17), .mv (.t 1), (some (15, true))⟩,
    ⟨(some 18), .call 21 [(.t 16), (.t 17)] none, (some (15, true))⟩,
    ⟨(some 19), .mv (.t 0), (some (15, true))⟩,
    ⟨(some 20), .mv (.t 1), (some (15, true))⟩,
    ⟨(some 21), .call 22 [(.t 19), (.t 20)] none, (some (15, true))⟩,
    ⟨(some 22), .bin .eql (.t 18) (.t 21), (some (15, true))⟩,
    ⟨(some 23), .pick (.t 15) (.t 22) (.k (.c (.d (.bool false)))), none⟩,
    ⟨(some 24), .mv (.t 23), none⟩,
    ⟨(some 25), .mv (.t 0), (some (24, true))⟩,
    ⟨(some 26), .mv (.t 1), (some (24, true))⟩,
    ⟨(some 27), .call 21 [(.t 25), (.t 26)] none, (some (24, true))⟩,
    ⟨(some 28), .mv (.t 1), (some (24, true))⟩,
    ⟨(some 29), .mv (.t 0), (some (24, true))⟩,
    ⟨(some 30), .call 21 [(.t 28), (.t 29)] none, (some (24, true))⟩,
    ⟨(some 31), .bin .eql (.t 27) (.t 30), (some (24, true))⟩,
    ⟨(some 32), .pick (.t 24) (.t 31) (.k (.c (.d (.bool false)))), none⟩,
    ⟨(some 33), .mv (.t 32), none⟩,
    ⟨(some 34), .mv (.t 0), (some (33, true))⟩,
    ⟨(some 35), .mv (.t 1), (some (33, true))⟩,
    ⟨(some 36), .mv (.t 2), (some (33, true))⟩,
    ⟨(some 37), .bin .xor (.t 35) (.t 36), (some (33, true))⟩,
    ⟨(some 38), .call 21 [(.t 34), (.t 37)] none, (some (33, true))⟩,
    ⟨(some 39), .mv (.t 0), (some (33, true))⟩,
    ⟨(some 40), .mv (.t 1), (some (33, true))⟩,
    ⟨(some 41), .call 21 [(.t 39), (.t 40)] none, (some (33, true))⟩,
    ⟨(some 42), .mv (.t 0), (some (33, true))⟩,
    ⟨(some 43), .mv (.t 2), (some (33, true))⟩,
    ⟨(some 44), .call 21 [(.t 42), (.t 43)] none, (some (33, true))⟩,
    ⟨(some 45), .bin .xor (.t 41) (.t 44), (some (33, true))⟩,
    ⟨(some 46), .bin .eql (.t 38) (.t 45), (some (33, true))⟩,
    ⟨(some 47), .pick (.t 33) (.t 46) (.k (.c (.d (.bool false)))), none⟩,
    ⟨(some 48), .mv (.t 47), none⟩,
    ⟨(some 49), .mv (.t 0), (some (48, true))⟩,
    ⟨(some 50), .mv (.t 1), (some (48, true))⟩,
    ⟨(some 51), .mv (.t 2), (some (48, true))⟩,
    ⟨(some 52), .call 21 [(.t 50), (.t 51)] none, (some (48, true))⟩,
    ⟨(some 53), .call 21 [(.t 49), (.t 52)] none, (some (48, true))⟩,
    ⟨(some 54), .mv (.t 0), (some (48, true))⟩,
    ⟨(some 55), .mv (.t 1), (some (48, true))⟩,
    ⟨(some 56), .call 21 [(.t 54), (.t 55)] none, (some (48, true))⟩,
    ⟨(some 57), .mv (.t 2), (some (48, true))⟩,
    ⟨(some 58), .call 21 [(.t 56), (.t 57)] none, (some (48, true))⟩,
    ⟨(some 59), .bin .eql (.t 53) (.t 58), (some (48, true))⟩,
    ⟨(some 60), .pick (.t 48) (.t 59) (.k (.c (.d (.bool false)))), none⟩,
    ⟨(some 61), .mv (.t 60), none⟩,
    ⟨(some 62), .mv (.t 0), (some (61, true))⟩,
    ⟨(some 63), .mv (.t 1), (some (61, true))⟩,
    ⟨(some 64), .bin .eql (.t 62) (.t 63), (some (61, true))⟩,
    ⟨(some 65), .mv (.t 64), (some (61, true))⟩,
    ⟨(some 66), .mv (.t 0), (some (65, false))⟩,
    ⟨(some 67), .call 19 [(.t 66)] none, (some (65, false))⟩,
    ⟨(some 68), .mv (.t 1), (some (65, false))⟩,
    ⟨(some 69), .call 19 [(.t 68)] none, (some (65, false))⟩,
    ⟨(some 70), .bin .neq (.t 67) (.t 69), (some (65, false))⟩,
    ⟨(some 71), .pick (.t 65) (.k (.c (.d (.bool true)))) (.t 70), (some (61, true))⟩,
    ⟨(some 72), .pick (.t 61) (.t 71) (.k (.c (.d (.bool false)))), none⟩,
    ⟨(some 6), .mv (.t 72), none⟩])
  (.ret)),
  [(6, none)]⟩
theorem cf_cbytes : compFn Try.prog { own := [], comp := [], frz := [], nils := [] } Try.f4 = some sf_cbytes := by kernel_rfl
set_option maxHeartbeats 1600000 in
theorem cbytes_c (G : Glob) (x : UInt8) (y : UInt8) (z : UInt8)  : Den Try.prog G 4 [bD x, bD y, bD z] (.w (.c (.d (.bool true)))) := by
  refine den_walk Try.func4 cf_cbytes rfl rfl ?_
  have e1 := times_comm y x
  have e2 : xorB (timesK x y) (timesK x z) = timesK x (xorB y z) := (times_lin2 x y z).symm
  have e3 := times_assoc x y z
  have x1 := binV_xorB y z
  have x2 := binV_xorB (timesK x y) (timesK x z)
  have b1 := binV_eqlB (subK x) (subK x)
  have b2 := binV_eqlB (timesK x y) (timesK x y)
  have b3 := binV_eqlB (timesK x (xorB y z)) (timesK x (xorB y z))
  have b4 := binV_eqlB (timesK (timesK x y) z) (timesK (timesK x y) z)
  have b5 := binV_eqlB x y
  have b6 := binV_neqB (subK x) (subK y)
  simp only [beq_self_eq_true] at b1 b2 b3 b4
  simp only [sf_cbytes, putAll, wx, wy, wz, stV, seval, IntWalk.iteOmega, IntWalk.toNatUp, reduceCtorEq]
  refine st_call (known4_c G) rfl (.inl rfl) ?_
  simp only [wx, wy, wz, stV, seval, IntWalk.iteOmega, IntWalk.toNatUp, reduceCtorEq]
  refine st_call (sub_c G x) rfl (.inl rfl) ?_
  simp only [wx, wy, wz, stV, seval, IntWalk.iteOmega, IntWalk.toNatUp, reduceCtorEq]
  refine st_call (rsub_c G x) rfl (.inl rfl) ?_
  simp only [b1, wx, wy, wz, stV, seval, IntWalk.iteOmega, IntWalk.toNatUp, reduceCtorEq]
  refine st_call (tim_c G x y) rfl (.inl rfl) ?_
  simp only [wx, wy, wz, stV, seval, IntWalk.iteOmega, IntWalk.toNatUp, reduceCtorEq]
  refine st_call (rtim_c G x y) rfl (.inl rfl) ?_
  simp only [b2, wx, wy, wz, stV, seval, IntWalk.iteOmega, IntWalk.toNatUp, reduceCtorEq]
  refine st_call (tim_c G x y) rfl (.inl rfl) ?_
  simp only [wx, wy, wz, stV, seval, IntWalk.iteOmega, IntWalk.toNatUp, reduceCtorEq]
  refine st_call (tim_c G y x) rfl (.inl rfl) ?_
  simp only [e1, b2, x1, wx, wy, wz, stV, seval, IntWalk.iteOmega, IntWalk.toNatUp, reduceCtorEq]
  refine st_call (tim_c G x (xorB y z)) rfl (.inl rfl) ?_
  simp only [wx, wy, wz, stV, seval, IntWalk.iteOmega, IntWalk.toNatUp, reduceCtorEq]
  refine st_call (tim_c G x y) rfl (.inl rfl) ?_
  simp only [wx, wy, wz, stV, seval, IntWalk.iteOmega, IntWalk.toNatUp, reduceCtorEq]
  refine st_call (tim_c G x z) rfl (.inl rfl) ?_
  simp only [x2, e2, b3, wx, wy, wz, stV, seval, IntWalk.iteOmega, IntWalk.toNatUp, reduceCtorEq]
  refine st_call (tim_c G y z) rfl (.inl rfl) ?_
  simp only [wx, wy, wz, stV, seval, IntWalk.iteOmega, IntWalk.toNatUp, reduceCtorEq]
  refine st_call (tim_c G x (timesK y z)) rfl (.inl rfl) ?_
  simp only [e3, wx, wy, wz, stV, seval, IntWalk.iteOmega, IntWalk.toNatUp, reduceCtorEq]
  refine st_call (tim_c G x y) rfl (.inl rfl) ?_
  simp only [wx, wy, wz, stV, seval, IntWalk.iteOmega, IntWalk.toNatUp, reduceCtorEq]
  refine st_call (tim_c G (timesK x y) z) rfl (.inl rfl) ?_
  simp only [b4, b5, wx, wy, wz, stV, seval, IntWalk.iteOmega, IntWalk.toNatUp, reduceCtorEq]
  by_cases h : x = y
  · have hb : (x == y) = true := by rw [h]; exact beq_self_eq_true y
    simp only [hb, wx, wy, wz, stV, seval, IntWalk.iteOmega, IntWalk.toNatUp, reduceCtorEq]
    exact ret_d1 (by simp only [wx, wy, wz, stV, seval, IntWalk.iteOmega, IntWalk.toNatUp, reduceCtorEq])
  · have hb : (x == y) = false := beq_eq_false_iff_ne.2 h
    rw [sub_ne h] at b6
    simp only [hb, wx, wy, wz, stV, seval, IntWalk.iteOmega, IntWalk.toNatUp, reduceCtorEq]
    refine st_call (sub_c G x) rfl (.inl rfl) ?_
    simp only [wx, wy, wz, stV, seval, IntWalk.iteOmega, IntWalk.toNatUp, reduceCtorEq]
    refine st_call (sub_c G y) rfl (.inl rfl) ?_
    simp only [b6, wx, wy, wz, stV, seval, IntWalk.iteOmega, IntWalk.toNatUp, reduceCtorEq]
    exact ret_d1 (by simp only [wx, wy, wz, stV, seval, IntWalk.iteOmega, IntWalk.toNatUp, reduceCtorEq])
def sf_cundo : SFn := ⟨2, 56,
  .seq (.reg [⟨(some 4), .mv (.k (.c (.d (.bool false)))), none⟩])
  (.seq (.seq (.reg [⟨(some 10), .mv (.t 1), none⟩,
    ⟨(some 11), .len (.t 10), none⟩,
    ⟨(some 12), .bin .gtr (.t 11) (.k (.c (.d (.int .i64 100)))), none⟩])
  (.cond (.t 12) (.seq (.reg [⟨(some 13), .call 8 [] none, none⟩,
     ⟨(some 4), .mv (.t 13), none⟩])
   (.ret))
   (.skip)))
  (.seq (.reg [⟨(some 14), .mv (.t 0), none⟩,
    ⟨(some 15), .call 24 [(.t 14), (.k (.c (.d (.int .i64 1000))))] none, none⟩,
    ⟨(some 16), .call 23 [(.t 15), (.k (.c (.d (.int .i64 32))))] none, none⟩,
    ⟨(some 5), .mv (.t 16), none⟩])
  (.seq (.reg [⟨(some 18), .mv (.t 5), none⟩,
    ⟨(some 19), .slice 1 (.t 18) none (some (.k (.c (.d (.int .i64 16))))) none, none⟩,
    ⟨(some 20), .mv (.t 5), none⟩,
    ⟨(some 21), .slice 1 (.t 20) (some (.k (.c (.d (.int .i64 16))))) none none, none⟩,
    ⟨(some 22), .mv (.t 1), none⟩,
    ⟨(some 23), .call 13 [(.t 19), (.t 21), (.t 22)] none, none⟩,
    ⟨(some 17), .mv (.t 23), none⟩,
    ⟨(some 24), .extract (.t 17) 0, none⟩,
    ⟨(some 25), .extract (.t 17) 1, none⟩,
    ⟨(some 6), .mv (.t 24), none⟩,
    ⟨(some 7), .mv (.t 25), none⟩])
  (.seq (.reg [⟨(some 27), .mv (.t 5), none⟩,
    ⟨(some 28), .slice 1 (.t 27) none (some (.k (.c (.d (.int .i64 16))))) none, none⟩,
    ⟨(some 29), .mv (.t 5), none⟩,
    ⟨(some 30), .slice 1 (.t 29) (some (.k (.c (.d (.int .i64 16))))) none none, none⟩,
    ⟨(some 31), .mv (.t 6), none⟩,
    ⟨(some 32), .call 13 [(.t 28), (.t 30), (.t 31)] none, none⟩,
    ⟨(some 26), .mv (.t 32), none⟩,
    ⟨(some 33), .extract (.t 26) 0, none⟩,
    ⟨(some 34), .extract (.t 26) 1, none⟩,
    ⟨(some 8), .mv (.t 33), none⟩,
    ⟨(some 9), .mv (.t 34), none⟩])
  (.seq (.reg [⟨(some 35), .call 8 [] none, none⟩,
    ⟨(some 36), .mv (.t 35), none⟩,
    ⟨(some 37), .mv (.t 7), (some (36, true))⟩,
    ⟨(some 38), .bin .eql (.t 37) (.k (.c (.d (.int .i64 0)))), (some (36, true))⟩,
    ⟨(some 39), .pick (.t 36) (.t 38) (.k (.c (.d (.bool false)))), none⟩,
    ⟨(some 40), .mv (.t 39), none⟩,
    ⟨(some 41), .mv (.t 9), (some (40, true))⟩,
    ⟨(some 42), .bin .eql (.t 41) (.k (.c (.d (.int .i64 0)))), (some (40, true))⟩,
    ⟨(some 43), .pick (.t 40) (.t 42) (.k (.c (.d (.bool false)))), none⟩,
    ⟨(some 44), .mv (.t 43), none⟩,
    ⟨(some 45), .mv (.t 6), (some (44, true))⟩,
    ⟨(some 46), .len (.t 45), (some (44, true))⟩,
    ⟨(some 47), .mv (.t 1), (some (44, true))⟩,
    ⟨(some 48), .len (.t 47), (some (44, true))⟩,
    ⟨(some 49), .bin .eql (.t 46) (.t 48), (some (44, true))⟩,
    ⟨(some 50), .pick (.t 44) (.t 49) (.k (.c (.d (.bool false)))), none⟩,
    ⟨(some 51), .mv (.t 50), none⟩,
    ⟨(some 52), .mv (.t 8), (some (51, true))⟩,
    ⟨(some 53), .mv (.t 1), (some (51, true))⟩,
    ⟨(some 54), .call 16 [(.t 52), (.t 53)] none, (some (51, true))⟩,
    ⟨(some 55), .pick (.t 51) (.t 54) (.k (.c (.d (.bool false)))), none⟩,
    ⟨(some 4), .mv (.t 55), none⟩])
  (.ret)))))),
  [(4, none)]⟩
theorem cf_cundo : compFn Try.prog { own := [], comp := [], frz := [], nils := [] } Try.f5 = some sf_cundo := by kernel_rfl
set_option maxHeartbeats 1600000 in
theorem cundo_c (G : Glob) (seed : Int) (hseed1 : -9223372036854775808 ≤ seed) (hseed2 : seed ≤ 9223372036854775807) (b : List UInt8) (hb : b.length ≤ maxLen)  : Den Try.prog G 5 [.int .i64 seed, .sl (b.map bD)] (.w (.c (.d (.bool true)))) := by
  refine den_walk Try.func5 cf_cundo rfl rfl ?_
  by_cases g1 : 100 < b.length
  · simp only [sf_cundo, putAll, wx, wy, wz, stV, seval, IntWalk.iteOmega, IntWalk.toNatUp, reduceCtorEq]
    refine st_call (known4_c G) rfl (.inl rfl) ?_
    simp only [wx, wy, wz, stV, seval, IntWalk.iteOmega, IntWalk.toNatUp, reduceCtorEq]
    exact ret_d1 (by simp only [wx, wy, wz, stV, seval, IntWalk.iteOmega, IntWalk.toNatUp, reduceCtorEq])
  · have hkl : (bytesK (withinN seed 1000) 32).length = 32 := bytesK_len _ _
    have e1 := within_c G seed 1000 (by decide)
    have e2 := wbytes_c G (withinN seed 1000) 32 (by decide)
    simp only [sf_cundo, putAll, wx, wy, wz, stV, seval, IntWalk.iteOmega, IntWalk.toNatUp, reduceCtorEq]
    refine st_call (e1) rfl (.inl rfl) ?_
    simp only [wx, wy, wz, stV, seval, IntWalk.iteOmega, IntWalk.toNatUp, reduceCtorEq]
    refine st_call (e2) rfl (.inl rfl) ?_
    simp only [hkl, wx, wy, wz, stV, seval, IntWalk.iteOmega, IntWalk.toNatUp, reduceCtorEq]
    generalize bytesK (withinN seed 1000) 32 = kk at *
    have h1 : (kk.take 16).length = 16 := by rw [List.length_take]; omega
    have h2 : (kk.drop 16).length = 16 := by rw [List.length_drop]; omega
    have h3 : (kk.drop 16).take 16 = kk.drop 16 := List.take_of_length_le (by omega)
    have v1 : strmV (kk.take 16) (kk.drop 16) b = strmC (rkK (kk.take 16)) (kk.drop 16) b := strmV_ok h1 h2 (by omega)
    have v2 : strmE (kk.take 16) (kk.drop 16) b = 0 := strmE_ok h1 h2 (by omega)
    have hl := strmC_len (rkK (kk.take 16)) (kk.drop 16) b
    have v3 : strmV (kk.take 16) (kk.drop 16) (strmC (rkK (kk.take 16)) (kk.drop 16) b) = b := by rw [strmV_ok h1 h2 (by omega)]; exact strmC_twice _ _ _
    have v4 : strmE (kk.take 16) (kk.drop 16) (strmC (rkK (kk.take 16)) (kk.drop 16) b) = 0 := strmE_ok h1 h2 (by omega)
    simp only [take_map, drop_map, h3]
    refine st_call (stm_c G (kk.take 16) (kk.drop 16) b (by omega) (by omega) (by omega)) rfl (.inl rfl) ?_
    simp only [take_map, drop_map, h3, v1, v2, hkl, wx, wy, wz, stV, seval, IntWalk.iteOmega, IntWalk.toNatUp, reduceCtorEq]
    refine st_call (stm_c G (kk.take 16) (kk.drop 16) (strmC (rkK (kk.take 16)) (kk.drop 16) b) (by omega) (by omega) (by omega)) rfl (.inl rfl) ?_
    simp only [v3, v4, wx, wy, wz, stV, seval, IntWalk.iteOmega, IntWalk.toNatUp, reduceCtorEq]
    refine st_call (known4_c G) rfl (.inl rfl) ?_
    simp only [hl, wx, wy, wz, stV, seval, IntWalk.iteOmega, IntWalk.toNatUp, reduceCtorEq]
    refine st_call (rsame_c G b b) rfl (.inl rfl) ?_
    simp only [wx, wy, wz, stV, seval, IntWalk.iteOmega, IntWalk.toNatUp, reduceCtorEq]
    exact ret_d1 (by simp only [wx, wy, wz, stV, seval, IntWalk.iteOmega, IntWalk.toNatUp, reduceCtorEq])
def sf_cperm : SFn := ⟨3, 59,
  .seq (.reg [⟨(some 6), .mv (.k (.c (.d (.bool false)))), none⟩])
  (.seq (.reg [⟨(some 12), .mv (.t 0), none⟩,
    ⟨(some 13), .call 24 [(.t 12), (.k (.c (.d (.int .i64 1000))))] none, none⟩,
    ⟨(some 14), .call 23 [(.t 13), (.k (.c (.d (.int .i64 32))))] none, none⟩,
    ⟨(some 7), .mv (.t 14), none⟩])
  (.seq (.reg [⟨(some 16), .mv (.t 7), none⟩,
    ⟨(some 17), .slice 1 (.t 16) none (some (.k (.c (.d (.int .i64 16))))) none, none⟩,
    ⟨(some 18), .mv (.t 7), none⟩,
    ⟨(some 19), .slice 1 (.t 18) (some (.k (.c (.d (.int .i64 16))))) none none, none⟩,
    ⟨(some 20), .call 11 [(.t 17), (.t 19)] none, none⟩,
    ⟨(some 15), .mv (.t 20), none⟩,
    ⟨(some 21), .extract (.t 15) 0, none⟩,
    ⟨(some 22), .extract (.t 15) 1, none⟩,
    ⟨(some 8), .mv (.t 21), none⟩,
    ⟨(some 9), .mv (.t 22), none⟩])
  (.seq (.reg [⟨(some 24), .mv (.t 7), none⟩,
    ⟨(some 25), .slice 1 (.t 24) none (some (.k (.c (.d (.int .i64 16))))) none, none⟩,
    ⟨(some 26), .mv (.t 7), none⟩,
    ⟨(some 27), .slice 1 (.t 26) (some (.k (.c (.d (.int .i64 16))))) none none, none⟩,
    ⟨(some 28), .mv (.t 1), none⟩,
    ⟨(some 29), .mv (.t 2), none⟩,
    ⟨(some 30), .call 25 [(.t 27), (.t 28), (.t 29)] none, none⟩,
    ⟨(some 31), .call 11 [(.t 25), (.t 30)] none, none⟩,
    ⟨(some 23), .mv (.t 31), none⟩,
    ⟨(some 32), .extract (.t 23) 0, none⟩,
    ⟨(some 33), .extract (.t 23) 1, none⟩,
    ⟨(some 10), .mv (.t 32), none⟩,
    ⟨(some 11), .mv (.t 33), none⟩])
  (.seq (.reg [⟨(some 34), .call 8 [] none, none⟩,
    ⟨(some 35), .mv (.t 34), none⟩,
    ⟨(some 36), .mv (.t 9), (some (35, true))⟩,
    ⟨(some 37), .bin .eql (.t 36) (.k (.c (.d (.int .i64 0)))), (some (35, true))⟩,
    ⟨(some 38), .pick (.t 35) (.t 37) (.k (.c (.d (.bool false)))), none⟩,
    ⟨(some 39), .mv (.t 38), none⟩,
    ⟨(some 40), .mv (.t 11), (some (39, true))⟩,
    ⟨(some 41), .bin .eql (.t 40) (.k (.c (.d (.int .i64 0)))), (some (39, true))⟩,
    ⟨(some 42), .pick (.t 39) (.t 41) (.k (.c (.d (.bool false)))), none⟩,
    ⟨(some 43), .mv (.t 42), none⟩,
    ⟨(some 44), .mv (.t 8), (some (43, true))⟩,
    ⟨(some 45), .len (.t 44), (some (43, true))⟩,
    ⟨(some 46), .bin .eql (.t 45) (.k (.c (.d (.int .i64 16)))), (some (43, true))⟩,
    ⟨(some 47), .pick (.t 43) (.t 46) (.k (.c (.d (.bool false)))), none⟩,
    ⟨(some 48), .mv (.t 47), none⟩,
    ⟨(some 49), .mv (.t 10), (some (48, true))⟩,
    ⟨(some 50), .len (.t 49), (some (48, true))⟩,
    ⟨(some 51), .bin .eql (.t 50) (.k (.c (.d (.int .i64 16)))), (some (48, true))⟩,
    ⟨(some 52), .pick (.t 48) (.t 51) (.k (.c (.d (.bool false)))), none⟩,
    ⟨(some 53), .mv (.t 52), none⟩,
    ⟨(some 54), .mv (.t 8), (some (53, true))⟩,
    ⟨(some 55), .mv (.t 10), (some (53, true))⟩,
    ⟨(some 56), .call 16 [(.t 54), (.t 55)] none, (some (53, true))⟩,
    ⟨(some 57), .un .not (.t 56), (some (53, true))⟩,
    ⟨(some 58), .pick (.t 53) (.t 57) (.k (.c (.d (.bool false)))), none⟩,
    ⟨(some 6), .mv (.t 58), none⟩])
  (.ret))))),
  [(6, none)]⟩
theorem cf_cperm : compFn Try.prog { own := [], comp := [], frz := [], nils := [] } Try.f7 = some sf_cperm := by kernel_rfl
set_option maxHeartbeats 1600000 in
theorem cperm_c (G : Glob) (seed : Int) (hseed1 : -9223372036854775808 ≤ seed) (hseed2 : seed ≤ 9223372036854775807) (pat : Int) (hpat1 : -9223372036854775808 ≤ pat) (hpat2 : pat ≤ 9223372036854775807) (pby : Int) (hpby1 : -9223372036854775808 ≤ pby) (hpby2 : pby ≤ 9223372036854775807)  : Den Try.prog G 7 [.int .i64 seed, .int .i64 pat, .int .i64 pby] (.w (.c (.d (.bool true)))) := by
  refine den_walk Try.func7 cf_cperm rfl rfl ?_
  have hkl : (bytesK (withinN seed 1000) 32).length = 32 := bytesK_len _ _
  have e1 := within_c G seed 1000 (by decide)
  have e2 := wbytes_c G (withinN seed 1000) 32 (by decide)
  simp only [sf_cperm, putAll, wx, wy, wz, stV, seval, IntWalk.iteOmega, IntWalk.toNatUp, reduceCtorEq]
  refine st_call (e1) rfl (.inl rfl) ?_
  simp only [wx, wy, wz, stV, seval, IntWalk.iteOmega, IntWalk.toNatUp, reduceCtorEq]
  refine st_call (e2) rfl (.inl rfl) ?_
  simp only [hkl, wx, wy, wz, stV, seval, IntWalk.iteOmega, IntWalk.toNatUp, reduceCtorEq]
  generalize bytesK (withinN seed 1000) 32 = kk at *
  have h1 : (kk.take 16).length = 16 := by rw [List.length_take]; omega
  have h2 : (kk.drop 16).length = 16 := by rw [List.length_drop]; omega
  have h3 : (kk.drop 16).take 16 = kk.drop 16 := List.take_of_length_le (by omega)
  have h4 := changedL_len (kk.drop 16) pat pby
  have h5 := changedL_ne (b := kk.drop 16) (by omega) pat pby
  have v1 : blkV (kk.take 16) (kk.drop 16) = blockC (kk.take 16) (kk.drop 16) := if_pos ⟨h1, h2⟩
  have v2 : blkE (kk.take 16) (kk.drop 16) = 0 := by unfold blkE; rw [if_neg (by omega), if_neg (by omega)]
  have v3 : blkV (kk.take 16) (changedL (kk.drop 16) pat pby) = blockC (kk.take 16) (changedL (kk.drop 16) pat pby) := if_pos ⟨h1, by omega⟩
  have v4 : blkE (kk.take 16) (changedL (kk.drop 16) pat pby) = 0 := by unfold blkE; rw [if_neg (by omega), if_neg (by omega)]
  have l1 : (blockC (kk.take 16) (kk.drop 16)).length = 16 := encK_len _ _
  have l2 : (blockC (kk.take 16) (changedL (kk.drop 16) pat pby)).length = 16 := encK_len _ _
  have hne : (blockC (kk.take 16) (kk.drop 16) == blockC (kk.take 16) (changedL (kk.drop 16) pat pby)) = false := beq_eq_false_iff_ne.2 fun e => h5 (encK_inj h2 (by omega) e).symm
  simp only [take_map, drop_map, h3]
  refine st_call (blk_c G (kk.take 16) (kk.drop 16) (by omega) (by omega)) rfl (.inl rfl) ?_
  simp only [take_map, drop_map, h3, v1, v2, hkl, wx, wy, wz, stV, seval, IntWalk.iteOmega, IntWalk.toNatUp, reduceCtorEq]
  refine st_call (chg_c G (kk.drop 16) pat pby (by omega) (by omega)) rfl (.inl rfl) ?_
  simp only [wx, wy, wz, stV, seval, IntWalk.iteOmega, IntWalk.toNatUp, reduceCtorEq]
  refine st_call (blk_c G (kk.take 16) (changedL (kk.drop 16) pat pby) (by omega) (by omega)) rfl (.inl rfl) ?_
  simp only [v3, v4, wx, wy, wz, stV, seval, IntWalk.iteOmega, IntWalk.toNatUp, reduceCtorEq]
  refine st_call (known4_c G) rfl (.inl rfl) ?_
  simp only [l1, l2, wx, wy, wz, stV, seval, IntWalk.iteOmega, IntWalk.toNatUp, reduceCtorEq]
  refine st_call (rsame_c G (blockC (kk.take 16) (kk.drop 16)) (blockC (kk.take 16) (changedL (kk.drop 16) pat pby))) rfl (.inl rfl) ?_
  simp only [hne, wx, wy, wz, stV, seval, IntWalk.iteOmega, IntWalk.toNatUp, reduceCtorEq]
  exact ret_d1 (by simp only [wx, wy, wz, stV, seval, IntWalk.iteOmega, IntWalk.toNatUp, reduceCtorEq])
theorem fl_t (s : Nat) (l : List UInt8) (k : IntKind) (n : Int) : V.flat (.tup [.c (.fr s (l.map bD)), .c (.d (.int k n))]) = true := by
  have := fl_b s l
  simp only [V.flat, W.flat, List.all_cons, List.all_nil, Bool.and_true] at this ⊢
  rw [this]; rfl
def gonV (R : List UInt8) : Nat → V
  | 0 => .w (.c (.own 1 1 16 16))
  | j + 1 => .w (.c (.d (.sl ((ctrC (R.drop 16) (j + 1)).map bD))))
def goSt (R b : List UInt8) (q j : Nat) : St := ⟨ofL [(1, .w (.c (.d (.int .i64 (q : Int))))), (2, .w (.c (.d (.sl (b.map bD))))), (9, .w (.c (.own 1 1 0 32))), (10, .w (.c (.own 1 1 16 16))), (12, gonV R j), (13, .w (.c (.d (.int .i64 (j : Int)))))], hL [(1, .row 1 (R.map bD))], uL [1]⟩
/-- The counter's bytes become 255, one by one. -/
def wrapL (kk : List UInt8) (i : Nat) : List UInt8 := kk.take 16 ++ (List.replicate i 255 ++ kk.drop (16 + i))
theorem wrapL_len {kk : List UInt8} (h : kk.length = 32) {i : Nat} (hi : i ≤ 16) : (wrapL kk i).length = 32 := by
  unfold wrapL; rw [List.length_append, List.length_append, List.length_take, List.length_replicate, List.length_drop]; omega
theorem wrapL_step {kk : List UInt8} (h : kk.length = 32) {i : Nat} (hi : i < 16) : (wrapL kk i).set (16 + i) 255 = wrapL kk (i + 1) := by
  unfold wrapL
  rw [List.set_append_right _ _ (by rw [List.length_take]; omega), List.set_append_right _ _ (by rw [List.length_take, List.length_replicate]; omega), List.length_take, List.length_replicate, show 16 + i - min 16 kk.length - i = 0 by omega, List.drop_eq_getElem_cons (by omega), List.set_cons_zero, List.replicate_succ', List.append_assoc]
  rfl
theorem bD255 : D.int .u8 255 = bD 255 := rfl
theorem bD254 : D.int .u8 254 = bD 254 := rfl
def wrSt (kk b : List UInt8) (n : Int) (i : Nat) : St := ⟨ofL [(1, .w (.c (.d (.int .i64 n)))), (2, .w (.c (.d (.sl (b.map bD))))), (9, .w (.c (.own 1 1 0 32))), (10, .w (.c (.own 1 1 16 16))), (11, .w (.c (.d (.int .i64 (i : Int)))))], hL [(1, .row 1 ((wrapL kk i).map bD))], uL [1]⟩
def lp_cgoes_0 : SCode :=
  .seq (.seq (.reg [⟨(some 28), .mv (.t 11), none⟩,
    ⟨(some 29), .bin .lss (.t 28) (.k (.c (.d (.int .i64 15)))), none⟩])
  (.cond (.t 29) (.skip)
   (.exit 0)))
  (.seq (.block 1 (.reg [⟨(some 32), .mv (.t 10), none⟩,
     ⟨(some 33), .mv (.t 11), none⟩,
     ⟨(some 34), .idxSl 1 (.t 32) (.t 33), none⟩,
     ⟨none, .store .sc (.t 34) (.k (.c (.d (.int .u8 255)))), none⟩]))
  (.reg [⟨(some 30), .mv (.t 11), none⟩,
    ⟨(some 31), .bin .add (.t 30) (.k (.c (.d (.int .i64 1)))), none⟩,
    ⟨(some 11), .mv (.t 31), none⟩]))
def lp_cgoes_1 : SCode :=
  .seq (.seq (.reg [⟨(some 44), .mv (.t 13), none⟩,
    ⟨(some 45), .mv (.t 1), none⟩,
    ⟨(some 46), .bin .lss (.t 44) (.t 45), none⟩])
  (.cond (.t 46) (.skip)
   (.exit 2)))
  (.seq (.block 3 (.reg [⟨(some 49), .mv (.t 12), none⟩,
     ⟨(some 50), .call 17 [(.t 49)] none, none⟩,
     ⟨(some 12), .mv (.t 50), none⟩]))
  (.reg [⟨(some 47), .mv (.t 13), none⟩,
    ⟨(some 48), .bin .add (.t 47) (.k (.c (.d (.int .i64 1)))), none⟩,
    ⟨(some 13), .mv (.t 48), none⟩]))
def sf_cgoes : SFn := ⟨4, 94,
  .seq (.reg [⟨(some 8), .mv (.k (.c (.d (.bool false)))), none⟩])
  (.seq (.seq (.reg [⟨(some 18), .mv (.t 2), none⟩,
    ⟨(some 19), .len (.t 18), none⟩,
    ⟨(some 20), .bin .gtr (.t 19) (.k (.c (.d (.int .i64 100)))), none⟩])
  (.cond (.t 20) (.seq (.reg [⟨(some 21), .call 8 [] none, none⟩,
     ⟨(some 8), .mv (.t 21), none⟩])
   (.ret))
   (.skip)))
  (.seq (.reg [⟨(some 22), .mv (.t 0), none⟩,
    ⟨(some 23), .call 24 [(.t 22), (.k (.c (.d (.int .i64 1000))))] none, none⟩,
    ⟨(some 24), .call 23 [(.t 23), (.k (.c (.d (.int .i64 32))))] (some (0, 1)), none⟩,
    ⟨(some 9), .mv (.t 24), none⟩])
  (.seq (.reg [⟨(some 25), .mv (.t 9), none⟩,
    ⟨(some 26), .slice 1 (.t 25) (some (.k (.c (.d (.int .i64 16))))) none none, none⟩,
    ⟨(some 10), .mv (.t 26), none⟩])
  (.seq (.seq (.reg [⟨(some 27), .mv (.t 3), none⟩])
  (.cond (.t 27) (.seq (.seq (.reg [⟨(some 11), .mv (.k (.c (.d (.int .i64 0)))), none⟩])
   (.block 0 (.loop lp_cgoes_0)))
   (.reg [⟨(some 35), .mv (.t 10), none⟩,
     ⟨(some 36), .idxSl 1 (.t 35) (.k (.c (.d (.int .i64 15)))), none⟩,
     ⟨none, .store .sc (.t 36) (.k (.c (.d (.int .u8 254)))), none⟩]))
   (.skip)))
  (.seq (.reg [⟨(some 37), .mv (.t 1), none⟩,
    ⟨(some 38), .mv (.t 2), none⟩,
    ⟨(some 39), .len (.t 38), none⟩,
    ⟨(some 40), .bin .quo (.t 39) (.k (.c (.d (.int .i64 16)))), none⟩,
    ⟨(some 41), .bin .add (.t 40) (.k (.c (.d (.int .i64 1)))), none⟩,
    ⟨(some 42), .call 24 [(.t 37), (.t 41)] none, none⟩,
    ⟨(some 1), .mv (.t 42), none⟩])
  (.seq (.reg [⟨(some 43), .mv (.t 10), none⟩,
    ⟨(some 12), .mv (.t 43), none⟩])
  (.seq (.seq (.reg [⟨(some 13), .mv (.k (.c (.d (.int .i64 0)))), none⟩])
  (.block 2 (.loop lp_cgoes_1)))
  (.seq (.reg [⟨(some 52), .mv (.t 9), none⟩,
    ⟨(some 53), .slice 1 (.t 52) none (some (.k (.c (.d (.int .i64 16))))) none, none⟩,
    ⟨(some 54), .mv (.t 10), none⟩,
    ⟨(some 55), .mv (.t 2), none⟩,
    ⟨(some 56), .call 13 [(.t 53), (.t 54), (.t 55)] none, none⟩,
    ⟨(some 51), .mv (.t 56), none⟩,
    ⟨(some 57), .extract (.t 51) 0, none⟩,
    ⟨(some 58), .extract (.t 51) 1, none⟩,
    ⟨(some 14), .mv (.t 57), none⟩,
    ⟨(some 15), .mv (.t 58), none⟩])
  (.seq (.reg [⟨(some 60), .mv (.t 9), none⟩,
    ⟨(some 61), .slice 1 (.t 60) none (some (.k (.c (.d (.int .i64 16))))) none, none⟩,
    ⟨(some 62), .mv (.t 12), none⟩,
    ⟨(some 63), .mv (.t 2), none⟩,
    ⟨(some 64), .mv (.t 1), none⟩,
    ⟨(some 65), .bin .mul (.k (.c (.d (.int .i64 16)))) (.t 64), none⟩,
    ⟨(some 66), .slice 1 (.t 63) (some (.t 65)) none none, none⟩,
    ⟨(some 67), .call 13 [(.t 61), (.t 62), (.t 66)] none, none⟩,
    ⟨(some 59), .mv (.t 67), none⟩,
    ⟨(some 68), .extract (.t 59) 0, none⟩,
    ⟨(some 69), .extract (.t 59) 1, none⟩,
    ⟨(some 16), .mv (.t 68), none⟩,
    ⟨(some 17), .mv (.t 69), none⟩])
  (.seq (.reg [⟨(some 70), .call 8 [] none, none⟩,
    ⟨(some 71), .mv (.t 70), none⟩,
    ⟨(some 72), .mv (.t 15), (some (71, true))⟩,
    ⟨(some 73), .bin .eql (.t 72) (.k (.c (.d (.int .i64 0)))), (some (71, true))⟩,
    ⟨(some 74), .pick (.t 71) (.t 73) (.k (.c (.d (.bool false)))), none⟩,
    ⟨(some 75), .mv (.t 74), none⟩,
    ⟨(some 76), .mv (.t 17), (some (75, true))⟩,
    ⟨(some 77), .bin .eql (.t 76) (.k (.c (.d (.int .i64 0)))), (some (75, true))⟩,
    ⟨(some 78), .pick (.t 75) (.t 77) (.k (.c (.d (.bool false)))), none⟩,
    ⟨(some 79), .mv (.t 78), none⟩,
    ⟨(some 80), .mv (.t 14), (some (79, true))⟩,
    ⟨(some 81), .len (.t 80), (some (79, true))⟩,
    ⟨(some 82), .mv (.t 2), (some (79, true))⟩,
    ⟨(some 83), .len (.t 82), (some (79, true))⟩,
    ⟨(some 84), .bin .eql (.t 81) (.t 83), (some (79, true))⟩,
    ⟨(some 85), .pick (.t 79) (.t 84) (.k (.c (.d (.bool false)))), none⟩,
    ⟨(some 86), .mv (.t 85), none⟩,
    ⟨(some 87), .mv (.t 14), (some (86, true))⟩,
    ⟨(some 88), .mv (.t 1), (some (86, true))⟩,
    ⟨(some 89), .bin .mul (.k (.c (.d (.int .i64 16)))) (.t 88), (some (86, true))⟩,
    ⟨(some 90), .slice 1 (.t 87) (some (.t 89)) none none, (some (86, true))⟩,
    ⟨(some 91), .mv (.t 16), (some (86, true))⟩,
    ⟨(some 92), .call 16 [(.t 90), (.t 91)] none, (some (86, true))⟩,
    ⟨(some 93), .pick (.t 86) (.t 92) (.k (.c (.d (.bool false)))), none⟩,
    ⟨(some 8), .mv (.t 93), none⟩])
  (.ret))))))))))),
  [(8, none)]⟩
theorem cf_cgoes : compFn Try.prog { own := [24], comp := [], frz := [], nils := [] } Try.f6 = some sf_cgoes := by kernel_rfl
set_option maxHeartbeats 1600000 in
theorem cgoes_c (G : Glob) (seed : Int) (hseed1 : -9223372036854775808 ≤ seed) (hseed2 : seed ≤ 9223372036854775807) (n : Int) (hn1 : -9223372036854775808 ≤ n) (hn2 : n ≤ 9223372036854775807) (b : List UInt8) (hb : b.length ≤ maxLen) (wrap : Bool)  : Den Try.prog G 6 [.int .i64 seed, .int .i64 n, .sl (b.map bD), .bool wrap] (.w (.c (.d (.bool true)))) := by
  refine den_walk Try.func6 cf_cgoes rfl rfl ?_
  by_cases g1 : 100 < b.length
  · simp only [sf_cgoes, putAll, wx, wy, wz, stV, seval, IntWalk.iteOmega, IntWalk.toNatUp, reduceCtorEq]
    refine st_call (known4_c G) rfl (.inl rfl) ?_
    simp only [wx, wy, wz, stV, seval, IntWalk.iteOmega, IntWalk.toNatUp, reduceCtorEq]
    exact ret_d1 (by simp only [wx, wy, wz, stV, seval, IntWalk.iteOmega, IntWalk.toNatUp, reduceCtorEq])
  · have hkl : (bytesK (withinN seed 1000) 32).length = 32 := bytesK_len _ _
    have e1 := within_c G seed 1000 (by decide)
    have e2 := wbytes_f G (withinN seed 1000) 32 (by decide)
    have td : Int.tdiv (b.length : Int) 16 = ((b.length / 16 : Nat) : Int) := rfl
    have hw := withinN_range n (((b.length / 16 : Nat) : Int) + 1) (by omega)
    have e3 := within_c G n (((b.length / 16 : Nat) : Int) + 1) (by omega)
    obtain ⟨q, hq⟩ : ∃ q : Nat, withinN n (((b.length / 16 : Nat) : Int) + 1) = (q : Int) := ⟨_, (Int.toNat_of_nonneg hw.1).symm⟩
    rw [hq] at hw e3
    have hqb : 16 * q ≤ b.length := by omega
    generalize bytesK (withinN seed 1000) 32 = kk at *
    cases wrap
    · simp only [sf_cgoes, putAll, wx, wy, wz, stV, seval, IntWalk.iteOmega, IntWalk.toNatUp, reduceCtorEq]
      refine st_call (e1) rfl (.inl rfl) ?_
      simp only [wx, wy, wz, stV, seval, IntWalk.iteOmega, IntWalk.toNatUp, reduceCtorEq]
      refine st_call (e2) rfl (.inl rfl) ?_
      simp only [hkl, td, wx, wy, wz, stV, seval, IntWalk.iteOmega, IntWalk.toNatUp, reduceCtorEq]
      obtain ⟨R, hRk⟩ : ∃ R, R = kk := ⟨kk, rfl⟩
      subst hRk
      have hR := hkl
      have hK : (R.take 16).length = 16 := by rw [List.length_take]; omega
      have hC : (R.drop 16).length = 16 := by rw [List.length_drop]; omega
      have hC2 : (R.drop 16).take 16 = R.drop 16 := List.take_of_length_le (by omega)
      refine st_call (e3) rfl (.inl rfl) ?_
      simp only [wx, wy, wz, stV, seval, IntWalk.iteOmega, IntWalk.toNatUp, reduceCtorEq]
      refine loop_st (goSt R b q) (fun j => q - j) (fun j => j ≤ q) 0 (Nat.zero_le _) ?_ ?_
      · refine ent_l (fun i => 192) ?_ ?_ rfl (by simp [gonV, V.ids, W.ids, C.ids, Ob.ids]) <;> simp only [wx, wex, wez, stV, seval, IntWalk.iteOmega, IntWalk.toNatUp, reduceCtorEq, gonV]
      · intro j hj
        by_cases hlt : j < q
        · rcases j with _ | j
          · have hx := nex_c G (ctrC (R.drop 16) 0) (by rw [ctrC_16 hC]; omega)
            rw [nexV_ctr hC] at hx
            simp only [lp_cgoes_1, goSt, gonV, wx, wy, wz, stV, seval, IntWalk.iteOmega, IntWalk.toNatUp, reduceCtorEq]
            refine st_call hx (by simp only [wx, wy, wz, stV, seval, IntWalk.iteOmega, IntWalk.toNatUp, reduceCtorEq, take_map, drop_map, hC2, hR, ctrC]) (.inr (fl_b _ _)) ?_
            simp only [wx, wy, wz, stV, seval, IntWalk.iteOmega, IntWalk.toNatUp, reduceCtorEq]
            refine lop_next (0 + 1) (by omega) (by omega) (ent_l (fun i => i) ?_ ?_ rfl (by simp [gonV, V.ids, W.ids, C.ids, Ob.ids])) <;> simp only [wx, wex, wez, stV, seval, IntWalk.iteOmega, IntWalk.toNatUp, reduceCtorEq, gonV]
          · have hx := nex_c G (ctrC (R.drop 16) (j + 1)) (by rw [ctrC_16 hC]; omega)
            rw [nexV_ctr hC] at hx
            simp only [lp_cgoes_1, goSt, gonV, wx, wy, wz, stV, seval, IntWalk.iteOmega, IntWalk.toNatUp, reduceCtorEq]
            refine st_call (hx) rfl (.inl rfl) ?_
            simp only [wx, wy, wz, stV, seval, IntWalk.iteOmega, IntWalk.toNatUp, reduceCtorEq]
            refine lop_next (j + 1 + 1) (by omega) (by omega) (ent_l (fun i => i) ?_ ?_ rfl (by simp [gonV, V.ids, W.ids, C.ids, Ob.ids])) <;> simp only [wx, wex, wez, stV, seval, IntWalk.iteOmega, IntWalk.toNatUp, reduceCtorEq, gonV]
        · obtain rfl : j = q := by omega
          have v1 : strmV (R.take 16) (R.drop 16) b = strmC (rkK (R.take 16)) (R.drop 16) b := strmV_ok hK hC (by omega)
          have v2 : strmE (R.take 16) (R.drop 16) b = 0 := strmE_ok hK hC (by omega)
          have hc3 := ctrC_16 hC j
          have hbl : (b.drop (16 * j)).length ≤ 100 := by rw [List.length_drop]; omega
          have v3 : strmV (R.take 16) (ctrC (R.drop 16) j) (b.drop (16 * j)) = (strmC (rkK (R.take 16)) (R.drop 16) b).drop (16 * j) := by
            rw [strmV_ok hK hc3 (by omega), strmC_drop _ _ _ _ hqb]
          have v4 : strmE (R.take 16) (ctrC (R.drop 16) j) (b.drop (16 * j)) = 0 := strmE_ok hK hc3 (by omega)
          have s1 := stm_f G (R.take 16) (R.drop 16) b (by omega) (by omega) (by omega)
          have s2 := stm_f G (R.take 16) (ctrC (R.drop 16) j) (b.drop (16 * j)) (by omega) (by omega) (by omega)
          rw [v1, v2] at s1
          rw [v3, v4] at s2
          have hl := strmC_len (rkK (R.take 16)) (R.drop 16) b
          generalize hx : strmC (rkK (R.take 16)) (R.drop 16) b = x at *
          have t1 : (b.drop (16 * j)).take (b.length - 16 * j) = b.drop (16 * j) := List.take_of_length_le (by rw [List.length_drop]; omega)
          have t2 : (x.drop (16 * j)).take (b.length - 16 * j) = x.drop (16 * j) := List.take_of_length_le (by rw [List.length_drop]; omega)
          rcases j with _ | j
          · simp only [Nat.mul_zero, List.drop_zero, ctrC, Nat.sub_zero] at s2 t1 t2
            simp only [lp_cgoes_1, goSt, gonV, wx, wy, wz, stV, seval, IntWalk.iteOmega, IntWalk.toNatUp, reduceCtorEq, take_map, drop_map, hR]
            refine st_call s1 (by simp only [wx, wy, wz, stV, seval, IntWalk.iteOmega, IntWalk.toNatUp, reduceCtorEq, take_map, drop_map, hC2, hR]) (.inr (fl_t _ _ _ _)) ?_
            simp only [wx, wy, wz, stV, seval, IntWalk.iteOmega, IntWalk.toNatUp, reduceCtorEq, take_map, drop_map, hR, t1, List.drop_zero]
            refine st_call s2 (by simp only [wx, wy, wz, stV, seval, IntWalk.iteOmega, IntWalk.toNatUp, reduceCtorEq, take_map, drop_map, hC2, hR, t1, ctrC, List.drop_zero]) (.inr (fl_t _ _ _ _)) ?_
            simp only [wx, wy, wz, stV, seval, IntWalk.iteOmega, IntWalk.toNatUp, reduceCtorEq]
            refine st_call (known4_c G) rfl (.inl rfl) ?_
            simp only [hl, take_map, drop_map, t2, List.drop_zero, wx, wy, wz, stV, seval, IntWalk.iteOmega, IntWalk.toNatUp, reduceCtorEq]
            refine st_call (rsame_c G x x) rfl (.inl rfl) ?_
            simp only [wx, wy, wz, stV, seval, IntWalk.iteOmega, IntWalk.toNatUp, reduceCtorEq]
            exact ret_d1 (by simp only [wx, wy, wz, stV, seval, IntWalk.iteOmega, IntWalk.toNatUp, reduceCtorEq])
          · simp only [lp_cgoes_1, goSt, gonV, wx, wy, wz, stV, seval, IntWalk.iteOmega, IntWalk.toNatUp, reduceCtorEq, take_map, drop_map, hR]
            refine st_call s1 (by simp only [wx, wy, wz, stV, seval, IntWalk.iteOmega, IntWalk.toNatUp, reduceCtorEq, take_map, drop_map, hC2, hR]) (.inr (fl_t _ _ _ _)) ?_
            simp only [wx, wy, wz, stV, seval, IntWalk.iteOmega, IntWalk.toNatUp, reduceCtorEq, take_map, drop_map, hR, t1]
            refine st_call s2 (by simp only [wx, wy, wz, stV, seval, IntWalk.iteOmega, IntWalk.toNatUp, reduceCtorEq, take_map, drop_map, hC2, hR, t1]) (.inr (fl_t _ _ _ _)) ?_
            simp only [wx, wy, wz, stV, seval, IntWalk.iteOmega, IntWalk.toNatUp, reduceCtorEq]
            refine st_call (known4_c G) rfl (.inl rfl) ?_
            simp only [hl, take_map, drop_map, t2, List.drop_zero, wx, wy, wz, stV, seval, IntWalk.iteOmega, IntWalk.toNatUp, reduceCtorEq]
            refine st_call (rsame_c G (x.drop (16 * (j + 1))) (x.drop (16 * (j + 1)))) rfl (.inl rfl) ?_
            simp only [wx, wy, wz, stV, seval, IntWalk.iteOmega, IntWalk.toNatUp, reduceCtorEq]
            exact ret_d1 (by simp only [wx, wy, wz, stV, seval, IntWalk.iteOmega, IntWalk.toNatUp, reduceCtorEq])
    · have h15 := wrapL_len hkl (i := 15) (by decide)
      simp only [sf_cgoes, putAll, wx, wy, wz, stV, seval, IntWalk.iteOmega, IntWalk.toNatUp, reduceCtorEq]
      refine st_call (e1) rfl (.inl rfl) ?_
      simp only [wx, wy, wz, stV, seval, IntWalk.iteOmega, IntWalk.toNatUp, reduceCtorEq]
      refine st_call (e2) rfl (.inl rfl) ?_
      simp only [hkl, wx, wy, wz, stV, seval, IntWalk.iteOmega, IntWalk.toNatUp, reduceCtorEq]
      refine loop_st (wrSt kk b n) (fun i => 15 - i) (fun i => i ≤ 15) 0 (Nat.zero_le _) ?_ ?_
      · have w0 : wrapL kk 0 = kk := by unfold wrapL; simp
        refine ent_l (fun i => 192) ?_ ?_ rfl rfl <;> simp only [wx, wex, wez, stV, seval, IntWalk.iteOmega, IntWalk.toNatUp, reduceCtorEq, w0]
      · intro i hi
        have hwl := wrapL_len hkl (i := i) (by omega)
        by_cases hlt : i < 15
        · have h3 : 16 + i < (wrapL kk i).length := by omega
          have h5 := wrapL_step hkl (i := i) (by omega)
          simp only [lp_cgoes_0, wrSt, bD255, wx, wy, wz, stV, seval, IntWalk.iteOmega, IntWalk.toNatUp, reduceCtorEq, len_map, hwl, stO_bs h3 (one_b _), set_bs, h5]
          refine lop_next (i + 1) (by omega) (by omega) (ent_l (fun i => i) ?_ ?_ rfl rfl) <;> simp only [wx, wex, wez, stV, seval, IntWalk.iteOmega, IntWalk.toNatUp, reduceCtorEq]
        · obtain rfl : i = 15 := by omega
          have h3 : 31 < (wrapL kk 15).length := by omega
          have hR : ((wrapL kk 15).set 31 254).length = 32 := by rw [List.length_set]; exact hwl
          simp only [lp_cgoes_0, wrSt, bD254, wx, wy, wz, stV, seval, IntWalk.iteOmega, IntWalk.toNatUp, reduceCtorEq, stO_bs h3 (one_b _), set_bs, td]
          generalize (wrapL kk 15).set 31 254 = R at *
          have hK : (R.take 16).length = 16 := by rw [List.length_take]; omega
          have hC : (R.drop 16).length = 16 := by rw [List.length_drop]; omega
          have hC2 : (R.drop 16).take 16 = R.drop 16 := List.take_of_length_le (by omega)
          refine st_call (e3) rfl (.inl rfl) ?_
          simp only [wx, wy, wz, stV, seval, IntWalk.iteOmega, IntWalk.toNatUp, reduceCtorEq]
          refine loop_st (goSt R b q) (fun j => q - j) (fun j => j ≤ q) 0 (Nat.zero_le _) ?_ ?_
          · refine ent_l (fun i => i) ?_ ?_ rfl (by simp [gonV, V.ids, W.ids, C.ids, Ob.ids]) <;> simp only [wx, wex, wez, stV, seval, IntWalk.iteOmega, IntWalk.toNatUp, reduceCtorEq, gonV]
          · intro j hj
            by_cases hlt : j < q
            · rcases j with _ | j
              · have hx := nex_c G (ctrC (R.drop 16) 0) (by rw [ctrC_16 hC]; omega)
                rw [nexV_ctr hC] at hx
                simp only [lp_cgoes_1, goSt, gonV, wx, wy, wz, stV, seval, IntWalk.iteOmega, IntWalk.toNatUp, reduceCtorEq]
                refine st_call hx (by simp only [wx, wy, wz, stV, seval, IntWalk.iteOmega, IntWalk.toNatUp, reduceCtorEq, take_map, drop_map, hC2, hR, ctrC]) (.inr (fl_b _ _)) ?_
                simp only [wx, wy, wz, stV, seval, IntWalk.iteOmega, IntWalk.toNatUp, reduceCtorEq]
                refine lop_next (0 + 1) (by omega) (by omega) (ent_l (fun i => i) ?_ ?_ rfl (by simp [gonV, V.ids, W.ids, C.ids, Ob.ids])) <;> simp only [wx, wex, wez, stV, seval, IntWalk.iteOmega, IntWalk.toNatUp, reduceCtorEq, gonV]
              · have hx := nex_c G (ctrC (R.drop 16) (j + 1)) (by rw [ctrC_16 hC]; omega)
                rw [nexV_ctr hC] at hx
                simp only [lp_cgoes_1, goSt, gonV, wx, wy, wz, stV, seval, IntWalk.iteOmega, IntWalk.toNatUp, reduceCtorEq]
                refine st_call (hx) rfl (.inl rfl) ?_
                simp only [wx, wy, wz, stV, seval, IntWalk.iteOmega, IntWalk.toNatUp, reduceCtorEq]
                refine lop_next (j + 1 + 1) (by omega) (by omega) (ent_l (fun i => i) ?_ ?_ rfl (by simp [gonV, V.ids, W.ids, C.ids, Ob.ids])) <;> simp only [wx, wex, wez, stV, seval, IntWalk.iteOmega, IntWalk.toNatUp, reduceCtorEq, gonV]
            · obtain rfl : j = q := by omega
              have v1 : strmV (R.take 16) (R.drop 16) b = strmC (rkK (R.take 16)) (R.drop 16) b := strmV_ok hK hC (by omega)
              have v2 : strmE (R.take 16) (R.drop 16) b = 0 := strmE_ok hK hC (by omega)
              have hc3 := ctrC_16 hC j
              have hbl : (b.drop (16 * j)).length ≤ 100 := by rw [List.length_drop]; omega
              have v3 : strmV (R.take 16) (ctrC (R.drop 16) j) (b.drop (16 * j)) = (strmC (rkK (R.take 16)) (R.drop 16) b).drop (16 * j) := by
                rw [strmV_ok hK hc3 (by omega), strmC_drop _ _ _ _ hqb]
              have v4 : strmE (R.take 16) (ctrC (R.drop 16) j) (b.drop (16 * j)) = 0 := strmE_ok hK hc3 (by omega)
              have s1 := stm_f G (R.take 16) (R.drop 16) b (by omega) (by omega) (by omega)
              have s2 := stm_f G (R.take 16) (ctrC (R.drop 16) j) (b.drop (16 * j)) (by omega) (by omega) (by omega)
              rw [v1, v2] at s1
              rw [v3, v4] at s2
              have hl := strmC_len (rkK (R.take 16)) (R.drop 16) b
              generalize hx : strmC (rkK (R.take 16)) (R.drop 16) b = x at *
              have t1 : (b.drop (16 * j)).take (b.length - 16 * j) = b.drop (16 * j) := List.take_of_length_le (by rw [List.length_drop]; omega)
              have t2 : (x.drop (16 * j)).take (b.length - 16 * j) = x.drop (16 * j) := List.take_of_length_le (by rw [List.length_drop]; omega)
              rcases j with _ | j
              · simp only [Nat.mul_zero, List.drop_zero, ctrC, Nat.sub_zero] at s2 t1 t2
                simp only [lp_cgoes_1, goSt, gonV, wx, wy, wz, stV, seval, IntWalk.iteOmega, IntWalk.toNatUp, reduceCtorEq, take_map, drop_map, hR]
                refine st_call s1 (by simp only [wx, wy, wz, stV, seval, IntWalk.iteOmega, IntWalk.toNatUp, reduceCtorEq, take_map, drop_map, hC2, hR]) (.inr (fl_t _ _ _ _)) ?_
                simp only [wx, wy, wz, stV, seval, IntWalk.iteOmega, IntWalk.toNatUp, reduceCtorEq, take_map, drop_map, hR, t1, List.drop_zero]
                refine st_call s2 (by simp only [wx, wy, wz, stV, seval, IntWalk.iteOmega, IntWalk.toNatUp, reduceCtorEq, take_map, drop_map, hC2, hR, t1, ctrC, List.drop_zero]) (.inr (fl_t _ _ _ _)) ?_
                simp only [wx, wy, wz, stV, seval, IntWalk.iteOmega, IntWalk.toNatUp, reduceCtorEq]
                refine st_call (known4_c G) rfl (.inl rfl) ?_
                simp only [hl, take_map, drop_map, t2, List.drop_zero, wx, wy, wz, stV, seval, IntWalk.iteOmega, IntWalk.toNatUp, reduceCtorEq]
                refine st_call (rsame_c G x x) rfl (.inl rfl) ?_
                simp only [wx, wy, wz, stV, seval, IntWalk.iteOmega, IntWalk.toNatUp, reduceCtorEq]
                exact ret_d1 (by simp only [wx, wy, wz, stV, seval, IntWalk.iteOmega, IntWalk.toNatUp, reduceCtorEq])
              · simp only [lp_cgoes_1, goSt, gonV, wx, wy, wz, stV, seval, IntWalk.iteOmega, IntWalk.toNatUp, reduceCtorEq, take_map, drop_map, hR]
                refine st_call s1 (by simp only [wx, wy, wz, stV, seval, IntWalk.iteOmega, IntWalk.toNatUp, reduceCtorEq, take_map, drop_map, hC2, hR]) (.inr (fl_t _ _ _ _)) ?_
                simp only [wx, wy, wz, stV, seval, IntWalk.iteOmega, IntWalk.toNatUp, reduceCtorEq, take_map, drop_map, hR, t1]
                refine st_call s2 (by simp only [wx, wy, wz, stV, seval, IntWalk.iteOmega, IntWalk.toNatUp, reduceCtorEq, take_map, drop_map, hC2, hR, t1]) (.inr (fl_t _ _ _ _)) ?_
                simp only [wx, wy, wz, stV, seval, IntWalk.iteOmega, IntWalk.toNatUp, reduceCtorEq]
                refine st_call (known4_c G) rfl (.inl rfl) ?_
                simp only [hl, take_map, drop_map, t2, List.drop_zero, wx, wy, wz, stV, seval, IntWalk.iteOmega, IntWalk.toNatUp, reduceCtorEq]
                refine st_call (rsame_c G (x.drop (16 * (j + 1))) (x.drop (16 * (j + 1)))) rfl (.inl rfl) ?_
                simp only [wx, wy, wz, stV, seval, IntWalk.iteOmega, IntWalk.toNatUp, reduceCtorEq]
                exact ret_d1 (by simp only [wx, wy, wz, stV, seval, IntWalk.iteOmega, IntWalk.toNatUp, reduceCtorEq])
end Go.Proofs.Ytopnilojhpddiaa
