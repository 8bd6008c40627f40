/- Layer 4 on data: round keys, blocks, in the program. Own work. -/
import Derived.Test.YtnadfnnkdnakhaaPc5
set_option linter.unusedVariables false
set_option linter.unusedSimpArgs false
namespace Go.Proofs.Ytnadfnnkdnakhaa
open Go.RowKit

/-! ### A round key out of the one before it -/
def wV0 (l : List UInt8) (c : UInt8) (j : Nat) : UInt8 := if j = 0 then xorB (subK (l.getD 13 0)) c else if j = 1 then subK (l.getD 14 0) else if j = 2 then subK (l.getD 15 0) else subK (l.getD 12 0)
def wV (l : List UInt8) (c : UInt8) : Nat → Nat → UInt8
  | 0, j => wV0 l c j
  | n + 1, j => if j = n % 4 then xorB (l.getD n 0) (wV l c n (n % 4)) else wV l c n j
def folF (l : List UInt8) (c : UInt8) (n : Nat) : UInt8 := xorB (l.getD n 0) (wV l c n (n % 4))
def folL (l : List UInt8) (c : UInt8) : List UInt8 := toL (folF l c)
theorem folL_len (l : List UInt8) (c : UInt8) : (folL l c).length = 16 := toL_len _
def wL (l : List UInt8) (c : UInt8) (i : Nat) : List UInt8 := (List.range 4).map (wV l c i)
theorem wL_len (l : List UInt8) (c : UInt8) (i : Nat) : (wL l c i).length = 4 := by simp [wL]
theorem wL_get (l : List UInt8) (c : UInt8) (i : Nat) {j : Nat} (h : j < 4) : (wL l c i)[j]? = some (wV l c i j) := by simp [wL, h]
theorem wL_step (l : List UInt8) (c : UInt8) (i : Nat) : (wL l c i).set (i % 4) (folF l c i) = wL l c (i + 1) := by
  apply List.ext_getElem?
  intro j
  by_cases hj : j < 4
  · rw [wL_get _ _ _ hj, List.getElem?_set]
    by_cases e : i % 4 = j
    · rw [if_pos e, if_pos (by rw [wL_len]; omega), wV, if_pos e.symm]; rfl
    · rw [if_neg e, wL_get _ _ _ hj, wV, if_neg (fun h => e h.symm)]
  · rw [List.getElem?_eq_none (by rw [List.length_set, wL_len]; omega), List.getElem?_eq_none (by rw [wL_len]; omega)]
theorem wL_zero (l : List UInt8) (c : UInt8) : [xorB (subK (l.getD 13 0)) c, subK (l.getD 14 0), subK (l.getD 15 0), subK (l.getD 12 0)] = wL l c 0 := rfl
def folSt (l : List UInt8) (c : UInt8) (i : Nat) : St := ⟨ofL [(2, .w (.c (.pa 1 1))), (4, .w (.c (.pa 2 1))), (5, .w (.c (.pa 3 1))), (22, .w (.c (.d (.int .i64 (i : Int)))))], hL [(1, .row 1 ((upL (folF l c) l i).map bD)), (2, .row 1 ((repL 16 (0 : UInt8)).map bD)), (3, .row 1 ((wL l c i).map bD))], uL [1, 2, 3]⟩
def lp_fol_0 : SCode :=
  .seq (.reg [⟨(some 23), .bin .lss (.t 22) (.k (.c (.d (.int .i64 16)))), none⟩])
  (.seq (.cond (.t 23) (.skip)
   (.exit 0))
  (.seq (.block 1 (.seq (.reg [⟨(some 24), .mv (.t 22), none⟩,
     ⟨(some 6), .mv (.t 24), none⟩])
   (.seq (.reg [⟨(some 25), .mv (.t 6), none⟩,
     ⟨(some 26), .idxPa 1 16 (.t 2) (.t 25), none⟩,
     ⟨(some 27), .load .sc (.t 26), none⟩,
     ⟨(some 28), .mv (.t 6), none⟩,
     ⟨(some 29), .bin .rem (.t 28) (.k (.c (.d (.int .i64 4)))), none⟩,
     ⟨(some 30), .idxPa 1 4 (.t 5) (.t 29), none⟩,
     ⟨(some 31), .load .sc (.t 30), none⟩,
     ⟨(some 32), .bin .xor (.t 27) (.t 31), none⟩,
     ⟨(some 33), .idxPa 1 16 (.t 2) (.t 25), none⟩,
     ⟨none, .store .sc (.t 33) (.t 32), none⟩])
   (.reg [⟨(some 34), .mv (.t 6), none⟩,
     ⟨(some 35), .bin .rem (.t 34) (.k (.c (.d (.int .i64 4)))), none⟩,
     ⟨(some 36), .mv (.t 6), none⟩,
     ⟨(some 37), .idxPa 1 16 (.t 2) (.t 36), none⟩,
     ⟨(some 38), .load .sc (.t 37), none⟩,
     ⟨(some 39), .idxPa 1 4 (.t 5) (.t 35), none⟩,
     ⟨none, .store .sc (.t 39) (.t 38), none⟩]))))
  (.reg [⟨(some 40), .bin .add (.t 22) (.k (.c (.d (.int .i64 1)))), none⟩,
    ⟨(some 22), .mv (.t 40), none⟩])))
def sf_fol : SFn := ⟨2, 42,
  .seq (.reg [⟨(some 2), .box .ownArr (.t 0), none⟩,
    ⟨(some 4), .allocArr [(.int .u8 0), (.int .u8 0), (.int .u8 0), (.int .u8 0), (.int .u8 0), (.int .u8 0), (.int .u8 0), (.int .u8 0), (.int .u8 0), (.int .u8 0), (.int .u8 0), (.int .u8 0), (.int .u8 0), (.int .u8 0), (.int .u8 0), (.int .u8 0)], none⟩])
  (.seq (.reg [⟨(some 7), .idxPa 1 16 (.t 2) (.k (.c (.d (.int .i64 13)))), none⟩,
    ⟨(some 8), .load .sc (.t 7), none⟩,
    ⟨(some 9), .call 57 [(.t 8)] none, none⟩,
    ⟨(some 10), .mv (.t 1), none⟩,
    ⟨(some 11), .bin .xor (.t 9) (.t 10), none⟩,
    ⟨(some 12), .idxPa 1 16 (.t 2) (.k (.c (.d (.int .i64 14)))), none⟩,
    ⟨(some 13), .load .sc (.t 12), none⟩,
    ⟨(some 14), .call 57 [(.t 13)] none, none⟩,
    ⟨(some 15), .idxPa 1 16 (.t 2) (.k (.c (.d (.int .i64 15)))), none⟩,
    ⟨(some 16), .load .sc (.t 15), none⟩,
    ⟨(some 17), .call 57 [(.t 16)] none, none⟩,
    ⟨(some 18), .idxPa 1 16 (.t 2) (.k (.c (.d (.int .i64 12)))), none⟩,
    ⟨(some 19), .load .sc (.t 18), none⟩,
    ⟨(some 20), .call 57 [(.t 19)] none, none⟩,
    ⟨(some 21), .build [(.d (.int .u8 0)), (.d (.int .u8 0)), (.d (.int .u8 0)), (.d (.int .u8 0))] [(0, 1, (.t 11)), (1, 1, (.t 14)), (2, 1, (.t 17)), (3, 1, (.t 20))], none⟩,
    ⟨(some 5), .allocArr [(.int .u8 0), (.int .u8 0), (.int .u8 0), (.int .u8 0)], none⟩,
    ⟨none, .store (.ag 4) (.t 5) (.t 21), none⟩])
  (.seq (.seq (.reg [⟨(some 22), .mv (.k (.c (.d (.int .i64 0)))), none⟩])
  (.block 0 (.loop lp_fol_0)))
  (.seq (.reg [⟨(some 41), .load (.ag 16) (.t 2), none⟩,
    ⟨none, .store (.ag 16) (.t 4) (.t 41), none⟩])
  (.ret)))),
  [(4, (some (.ag 16)))]⟩
theorem cf_fol : compFn Try.prog { own := [2], comp := [], frz := [], nils := [] } Try.f51 = some sf_fol := by kernel_rfl
set_option maxHeartbeats 3200000 in
theorem fol_c (G : Glob) (l : List UInt8) (c : UInt8) (hl : l.length = 16) : Den Try.prog G 51 [.agg (l.map bD), bD c] (.w (.c (.d (.agg ((folL l c).map bD))))) := by
  refine den_walk Try.func51 cf_fol rfl rfl ?_
  have a13 : l[13]? = some (l.getD 13 0) := get_lt (by omega)
  have a14 : l[14]? = some (l.getD 14 0) := get_lt (by omega)
  have a15 : l[15]? = some (l.getD 15 0) := get_lt (by omega)
  have a12 : l[12]? = some (l.getD 12 0) := get_lt (by omega)
  have x0 := binV_xorB (subK (l.getD 13 0)) c
  have w0 := congrArg (List.map bD) (wL_zero l c)
  have wl := wL_len l c 0
  simp only [List.map_cons, List.map_nil] at w0
  simp only [sf_fol, putAll, wx, wy, wz, stV, seval, IntWalk.iteOmega, IntWalk.toNatUp, reduceCtorEq, z16, hl, get_map, a13]
  refine st_call (sub_c G (l.getD 13 0)) rfl (.inl rfl) ?_
  simp only [x0, get_map, a14, hl, wx, wy, wz, stV, seval, IntWalk.iteOmega, IntWalk.toNatUp, reduceCtorEq]
  refine st_call (sub_c G (l.getD 14 0)) rfl (.inl rfl) ?_
  simp only [get_map, a15, hl, wx, wy, wz, stV, seval, IntWalk.iteOmega, IntWalk.toNatUp, reduceCtorEq]
  refine st_call (sub_c G (l.getD 15 0)) rfl (.inl rfl) ?_
  simp only [get_map, a12, hl, wx, wy, wz, stV, seval, IntWalk.iteOmega, IntWalk.toNatUp, reduceCtorEq]
  refine st_call (sub_c G (l.getD 12 0)) rfl (.inl rfl) ?_
  simp only [w0, wx, wy, wz, stV, seval, IntWalk.iteOmega, IntWalk.toNatUp, reduceCtorEq]
  refine loop_st (folSt l c) (fun i => 16 - i) (fun i => i ≤ 16) 0 (Nat.zero_le _) ?_ ?_
  · refine ent_l (fun i => if i = 1 then 16 else if i = 2 then 32 else 40) ?_ ?_ rfl rfl <;> simp only [wx, wex, wez, stV, seval, IntWalk.iteOmega, IntWalk.toNatUp, reduceCtorEq, upL_zero]
  · intro i hi
    have hu : (upL (folF l c) l i).length = 16 := by rw [upL_len _ _ (by omega)]; exact hl
    by_cases hlt : i < 16
    · have hm : i % 4 < 4 := Nat.mod_lt _ (by decide)
      have t1 : Int.tmod (i : Int) 4 = ((i % 4 : Nat) : Int) := tmodN i 4
      have g1 : (upL (folF l c) l i)[i]? = some (l.getD i 0) := by rw [upL_get _ _ (Nat.le_refl i)]; exact get_lt (by omega)
      have g2 := wL_get l c i hm
      have x1 := binV_xorB (l.getD i 0) (wV l c i (i % 4))
      have h3 : i < (upL (folF l c) l i).length := by omega
      have h4 : i % 4 < (wL l c i).length := by rw [wL_len]; exact hm
      have h5 : (upL (folF l c) l i).set i (folF l c i) = upL (folF l c) l (i + 1) := upL_step (folF l c) l (by omega)
      have h6 := wL_step l c i
      have g3 : (upL (folF l c) l (i + 1))[i]? = some (folF l c i) := upL_done _ _ (Nat.lt_succ_self i)
      have hf : xorB (l.getD i 0) (wV l c i (i % 4)) = folF l c i := rfl
      have hwl := wL_len l c i
      have hu2 : (upL (folF l c) l (i + 1)).length = 16 := by rw [upL_len _ _ (by omega)]; exact hl
      generalize hq : i % 4 = q at *
      simp only [lp_fol_0, folSt, wx, wy, wz, stV, seval, IntWalk.iteOmega, IntWalk.toNatUp, reduceCtorEq, get_map, t1, g1, g2, x1, hf, stO_bs h3 (one_b _), stO_bs h4 (one_b _), set_bs, h5, h6, g3, hu, hu2, hwl]
      refine lop_next (i + 1) (by omega) (by omega) (ent_l (fun i => i) ?_ ?_ rfl rfl) <;> simp only [wx, wex, wez, stV, seval, IntWalk.iteOmega, IntWalk.toNatUp, reduceCtorEq]
    · obtain rfl : i = 16 := by omega
      have e : upL (folF l c) l 16 = folL l c := toL_upL _ hl
      have e2 := folL_len l c
      simp only [lp_fol_0, folSt, e, wx, wy, wz, stV, seval, IntWalk.iteOmega, IntWalk.toNatUp, reduceCtorEq, e2, flat_bs, repL_len]
      exact ret_d1 (by simp only [wx, wy, wz, stV, seval, IntWalk.iteOmega, IntWalk.toNatUp, reduceCtorEq])
/-! ### .. is what the words are -/
theorem getD_app {P Q : List UInt8} {k n : Nat} (h : P.length = n) : (P ++ Q).getD (n + k) 0 = Q.getD k 0 := by
  rw [List.getD_eq_getElem?_getD, List.getD_eq_getElem?_getD, List.getElem?_append_right (by omega), h, Nat.add_sub_cancel_left]
theorem drop_app {P Q : List UInt8} {k n : Nat} (h : P.length = n) : (P ++ Q).drop (n + k) = Q.drop k := by
  rw [← h, List.drop_append, List.drop_eq_nil_of_le (by omega), List.nil_append, Nat.add_sub_cancel_left]
theorem nextK_app {P Q : List UInt8} {n : Nat} (h : P.length = 4 * n) : nextK (P ++ Q) n = (List.range 4).map fun k => xorB (Q.getD k 0) ((turnW (Q.drop 12) n).getD k 0) := by
  unfold nextK
  refine List.map_congr_left fun k _ => ?_
  rw [getD_app h, show 12 + 4 * n = 4 * n + 12 by omega, drop_app h]
theorem fol16 (b0 b1 b2 b3 b4 b5 b6 b7 b8 b9 b10 b11 b12 b13 b14 b15 c : UInt8) : ∃ f0 f1 f2 f3,
    f0 = xorB b0 (xorB (subK b13) c) ∧ f1 = xorB b1 (subK b14) ∧ f2 = xorB b2 (subK b15) ∧ f3 = xorB b3 (subK b12) ∧
    folL [b0, b1, b2, b3, b4, b5, b6, b7, b8, b9, b10, b11, b12, b13, b14, b15] c =
      [f0, f1, f2, f3, xorB b4 f0, xorB b5 f1, xorB b6 f2, xorB b7 f3, xorB b8 (xorB b4 f0), xorB b9 (xorB b5 f1), xorB b10 (xorB b6 f2), xorB b11 (xorB b7 f3),
       xorB b12 (xorB b8 (xorB b4 f0)), xorB b13 (xorB b9 (xorB b5 f1)), xorB b14 (xorB b10 (xorB b6 f2)), xorB b15 (xorB b11 (xorB b7 f3))] :=
  ⟨_, _, _, _, rfl, rfl, rfl, rfl, rfl⟩
theorem four_map (f : Nat → UInt8) : (List.range 4).map f = [f 0, f 1, f 2, f 3] := rfl
theorem rk_block {P : List UInt8} {r : Nat} (hP : P.length = 16 * r) (b0 b1 b2 b3 b4 b5 b6 b7 b8 b9 b10 b11 b12 b13 b14 b15 : UInt8) (key : List UInt8)
    (h : rkN key (4 * r) = P ++ [b0, b1, b2, b3, b4, b5, b6, b7, b8, b9, b10, b11, b12, b13, b14, b15]) :
    rkN key (4 * (r + 1)) = rkN key (4 * r) ++ folL [b0, b1, b2, b3, b4, b5, b6, b7, b8, b9, b10, b11, b12, b13, b14, b15] (conK r) := by
  obtain ⟨f0, f1, f2, f3, e0, e1, e2, e3, ef⟩ := fol16 b0 b1 b2 b3 b4 b5 b6 b7 b8 b9 b10 b11 b12 b13 b14 b15 (conK r)
  have m0 : 4 * r % 4 = 0 := by omega
  have m1 : (4 * r + 1) % 4 ≠ 0 := by omega
  have m2 : (4 * r + 2) % 4 ≠ 0 := by omega
  have m3 : (4 * r + 3) % 4 ≠ 0 := by omega
  have d0 : 4 * r / 4 = r := by omega
  have n0 : nextK (rkN key (4 * r)) (4 * r) = [f0, f1, f2, f3] := by
    rw [h, nextK_app (by omega), four_map]
    unfold turnW
    rw [if_pos m0, d0, e0, e1, e2, e3]; rfl
  have s1 : rkN key (4 * r + 1) = (P ++ [b0, b1, b2, b3]) ++ [b4, b5, b6, b7, b8, b9, b10, b11, b12, b13, b14, b15, f0, f1, f2, f3] := by
    rw [rkN, n0, h]; simp
  have n1 : nextK (rkN key (4 * r + 1)) (4 * r + 1) = [xorB b4 f0, xorB b5 f1, xorB b6 f2, xorB b7 f3] := by
    rw [s1, nextK_app (by simp; omega), four_map]
    unfold turnW
    rw [if_neg m1]; rfl
  have s2 : rkN key (4 * r + 2) = (P ++ [b0, b1, b2, b3, b4, b5, b6, b7]) ++ [b8, b9, b10, b11, b12, b13, b14, b15, f0, f1, f2, f3, xorB b4 f0, xorB b5 f1, xorB b6 f2, xorB b7 f3] := by
    rw [show 4 * r + 2 = (4 * r + 1) + 1 from rfl, rkN, n1, s1]; simp
  have n2 : nextK (rkN key (4 * r + 2)) (4 * r + 2) = [xorB b8 (xorB b4 f0), xorB b9 (xorB b5 f1), xorB b10 (xorB b6 f2), xorB b11 (xorB b7 f3)] := by
    rw [s2, nextK_app (by simp; omega), four_map]
    unfold turnW
    rw [if_neg m2]; rfl
  have s3 : rkN key (4 * r + 3) = (P ++ [b0, b1, b2, b3, b4, b5, b6, b7, b8, b9, b10, b11]) ++ [b12, b13, b14, b15, f0, f1, f2, f3, xorB b4 f0, xorB b5 f1, xorB b6 f2, xorB b7 f3, xorB b8 (xorB b4 f0), xorB b9 (xorB b5 f1), xorB b10 (xorB b6 f2), xorB b11 (xorB b7 f3)] := by
    rw [show 4 * r + 3 = (4 * r + 2) + 1 from rfl, rkN, n2, s2]; simp
  have n3 : nextK (rkN key (4 * r + 3)) (4 * r + 3) = [xorB b12 (xorB b8 (xorB b4 f0)), xorB b13 (xorB b9 (xorB b5 f1)), xorB b14 (xorB b10 (xorB b6 f2)), xorB b15 (xorB b11 (xorB b7 f3))] := by
    rw [s3, nextK_app (by simp; omega), four_map]
    unfold turnW
    rw [if_neg m3]; rfl
  rw [show 4 * (r + 1) = (4 * r + 3) + 1 by omega, rkN, n3, s3, ef, h]
  simp
/-- The r-th round key. -/
def kb (key : List UInt8) (r : Nat) : List UInt8 := (rkN key (4 * r)).drop (16 * r)
theorem kb_len {key : List UInt8} (h : key.length = 16) (r : Nat) : (kb key r).length = 16 := by
  unfold kb; rw [List.length_drop, rkN_len h]; omega
theorem list16 {l : List UInt8} (h : l.length = 16) : ∃ b0 b1 b2 b3 b4 b5 b6 b7 b8 b9 b10 b11 b12 b13 b14 b15, l = [b0, b1, b2, b3, b4, b5, b6, b7, b8, b9, b10, b11, b12, b13, b14, b15] := by
  rcases l with _ | ⟨b0, l⟩ <;> simp at h
  rcases l with _ | ⟨b1, l⟩ <;> simp at h
  rcases l with _ | ⟨b2, l⟩ <;> simp at h
  rcases l with _ | ⟨b3, l⟩ <;> simp at h
  rcases l with _ | ⟨b4, l⟩ <;> simp at h
  rcases l with _ | ⟨b5, l⟩ <;> simp at h
  rcases l with _ | ⟨b6, l⟩ <;> simp at h
  rcases l with _ | ⟨b7, l⟩ <;> simp at h
  rcases l with _ | ⟨b8, l⟩ <;> simp at h
  rcases l with _ | ⟨b9, l⟩ <;> simp at h
  rcases l with _ | ⟨b10, l⟩ <;> simp at h
  rcases l with _ | ⟨b11, l⟩ <;> simp at h
  rcases l with _ | ⟨b12, l⟩ <;> simp at h
  rcases l with _ | ⟨b13, l⟩ <;> simp at h
  rcases l with _ | ⟨b14, l⟩ <;> simp at h
  rcases l with _ | ⟨b15, l⟩ <;> simp at h
  subst h
  exact ⟨_, _, _, _, _, _, _, _, _, _, _, _, _, _, _, _, rfl⟩
theorem rk_next {key : List UInt8} (h : key.length = 16) (r : Nat) : rkN key (4 * (r + 1)) = rkN key (4 * r) ++ folL (kb key r) (conK r) := by
  obtain ⟨b0, b1, b2, b3, b4, b5, b6, b7, b8, b9, b10, b11, b12, b13, b14, b15, e⟩ := list16 (kb_len h r)
  rw [e]
  refine rk_block (P := (rkN key (4 * r)).take (16 * r)) ?_ _ _ _ _ _ _ _ _ _ _ _ _ _ _ _ _ key ?_
  · rw [List.length_take, rkN_len h]; omega
  · rw [← e]; exact (List.take_append_drop _ _).symm
theorem kb_next {key : List UInt8} (h : key.length = 16) (r : Nat) : kb key (r + 1) = folL (kb key r) (conK r) := by
  show (rkN key (4 * (r + 1))).drop (16 * (r + 1)) = _
  rw [rk_next h, List.drop_append, List.drop_eq_nil_of_le (by rw [rkN_len h]; omega), List.nil_append, rkN_len h]
  rw [show 16 * (r + 1) - (16 + 4 * (4 * r)) = 0 by omega]; rfl
theorem rk_pre {key : List UInt8} (m : Nat) : ∀ n, rkN key m <+: rkN key (m + n)
  | 0 => List.prefix_refl _
  | n + 1 => (rk_pre m n).trans (by rw [← Nat.add_assoc, rkN]; exact List.prefix_append _ _)
/-- .. as part of all of them. -/
theorem kb_part {key : List UInt8} (h : key.length = 16) {r : Nat} (hr : r ≤ 10) : ((rkK key).drop (16 * r)).take 16 = kb key r := by
  obtain ⟨t, ht⟩ := rk_pre (key := key) (4 * r) (40 - 4 * r)
  rw [show 4 * r + (40 - 4 * r) = 40 by omega] at ht
  have hl : (kb key r).length = 16 := kb_len h r
  unfold rkK
  rw [← ht, List.drop_append_of_le_length (by rw [rkN_len h]; omega)]
  exact List.take_left' hl
theorem kb_toL {key : List UInt8} (h : key.length = 16) {r : Nat} (hr : r ≤ 10) : toL (keyF (rkK key) r) = kb key r := by
  rw [← kb_part h hr]
  apply List.ext_getElem?
  intro j
  by_cases hj : j < 16
  · rw [toL_get _ hj, List.getElem?_take, if_pos hj, List.getElem?_drop]
    exact (get_lt (by rw [rkK_len h]; omega)).symm
  · rw [List.getElem?_eq_none (by rw [toL_len]; omega), List.getElem?_eq_none (by rw [List.length_take]; omega)]
/-- The keys behind i rounds. -/
def rkP (key : List UInt8) (i : Nat) : List UInt8 := rkN key (4 * i) ++ repL (160 - 16 * i) 0
theorem rkP_len {key : List UInt8} (h : key.length = 16) {i : Nat} (hi : i ≤ 10) : (rkP key i).length = 176 := by
  unfold rkP; rw [List.length_append, rkN_len h, repL_len]; omega
theorem rkP_zero {key : List UInt8} (h : key.length = 16) : setR (repL 176 (0 : UInt8)) 0 key = rkP key 0 := by
  unfold setR rkP repL
  rw [List.take_zero, List.nil_append, List.drop_replicate, h]; rfl
theorem rkP_part {key : List UInt8} (h : key.length = 16) {i : Nat} (hi : i ≤ 10) : ((rkP key i).drop (i * 16)).take 16 = kb key i := by
  unfold rkP
  rw [Nat.mul_comm, List.drop_append_of_le_length (by rw [rkN_len h]; omega)]
  exact List.take_left' (kb_len h i)
theorem rkP_step {key : List UInt8} (h : key.length = 16) {i : Nat} (hi : i < 10) : setR (rkP key i) ((i + 1) * 16) (folL (kb key i) (conK i)) = rkP key (i + 1) := by
  have hl : (rkN key (4 * i)).length = (i + 1) * 16 := by rw [rkN_len h]; omega
  unfold setR rkP
  rw [rk_next h, List.take_append_of_le_length (by omega), List.take_of_length_le (by omega), folL_len, List.drop_append, List.drop_eq_nil_of_le (by omega), List.nil_append, hl]
  congr 1
  unfold repL
  rw [List.drop_replicate]
  congr 1
  omega
theorem rkP_full (key : List UInt8) : rkP key 10 = rkK key := by
  unfold rkP repL rkK; rw [show 160 - 16 * 10 = 0 from rfl, List.replicate_zero, List.append_nil]
end Go.Proofs.Ytnadfnnkdnakhaa
