/- The laws of layer 7: a tree that grows, and paths that are refused. Own work. -/
import Derived.Test.YtalilcljonkmaaaDoorLg1
set_option linter.unusedVariables false
set_option linter.unusedSimpArgs false
namespace Go.Proofs.YtalilcljonkmaaaDoor
open Go.RowKit

theorem noU8_ls (l : List (List UInt8)) : D.noU8 (sls l) = true := by
  simp only [D.noU8, List.all_map, List.all_eq_true]; intro x _; rfl
theorem by_lt (s : Nat) (l : List (List UInt8)) (k : IntKind) (n : Int) : V.byt (.tup [.c (.fr s (l.map fun l => D.sl (l.map bD))), .c (.d (.int k n))]) = true := by
  have h : (l.map fun l => D.sl (l.map bD)).all (fun e => e.cells.all D.byt1) = true := by
    rw [List.all_map, List.all_eq_true]
    intro x _
    show ([D.sl (x.map bD)]).all D.byt1 = true
    simp only [List.all_cons, List.all_nil, Bool.and_true, D.byt1, List.all_map, List.all_eq_true]
    intro y _
    rfl
  simp only [V.byt, List.all_cons, List.all_nil, Bool.and_true]
  show ((l.map fun l => D.sl (l.map bD)).all (fun e => e.cells.all D.byt1) && true) = true
  rw [h]; rfl
theorem lsD_one (x : List UInt8) : (D.sl (x.map bD)).one = true := rfl
def chd7 : List UInt8 := [99, 104, 97, 110, 103, 101, 100]
def sf_tgrow : SFn := ⟨4, 105,
  .seq (.reg [⟨(some 8), .mv (.k (.c (.d (.bool false)))), none⟩])
  (.seq (.reg [⟨(some 16), .mv (.t 1), none⟩,
    ⟨(some 17), .call 31 [(.t 16), (.k (.c (.d (.int .i64 20))))] none, none⟩,
    ⟨(some 18), .bin .add (.k (.c (.d (.int .i64 1)))) (.t 17), none⟩,
    ⟨(some 1), .mv (.t 18), none⟩])
  (.seq (.reg [⟨(some 19), .mv (.t 2), none⟩,
    ⟨(some 20), .mv (.t 1), none⟩,
    ⟨(some 21), .call 31 [(.t 19), (.t 20)] none, none⟩,
    ⟨(some 22), .bin .add (.k (.c (.d (.int .i64 1)))) (.t 21), none⟩,
    ⟨(some 2), .mv (.t 22), none⟩])
  (.seq (.reg [⟨(some 23), .mv (.t 0), none⟩,
    ⟨(some 24), .mv (.t 1), none⟩,
    ⟨(some 25), .call 32 [(.t 23), (.t 24)] (some (0, 1)), none⟩,
    ⟨(some 9), .mv (.t 25), none⟩])
  (.seq (.reg [⟨(some 27), .mv (.t 9), none⟩,
    ⟨(some 28), .mv (.t 2), none⟩,
    ⟨(some 29), .slice 1 (.t 27) none (some (.t 28)) none, none⟩,
    ⟨(some 30), .call 13 [(.t 29)] none, none⟩,
    ⟨(some 26), .mv (.t 30), none⟩,
    ⟨(some 31), .extract (.t 26) 0, none⟩,
    ⟨(some 32), .extract (.t 26) 1, none⟩,
    ⟨(some 10), .mv (.t 31), none⟩,
    ⟨(some 11), .mv (.t 32), none⟩])
  (.seq (.reg [⟨(some 34), .mv (.t 9), none⟩,
    ⟨(some 35), .call 13 [(.t 34)] none, none⟩,
    ⟨(some 33), .mv (.t 35), none⟩,
    ⟨(some 36), .extract (.t 33) 0, none⟩,
    ⟨(some 37), .extract (.t 33) 1, none⟩,
    ⟨(some 12), .mv (.t 36), none⟩,
    ⟨(some 13), .mv (.t 37), none⟩])
  (.seq (.reg [⟨(some 39), .mv (.t 9), none⟩,
    ⟨(some 40), .mv (.t 2), none⟩,
    ⟨(some 41), .call 17 [(.t 39), (.t 40)] none, none⟩,
    ⟨(some 38), .mv (.t 41), none⟩,
    ⟨(some 42), .extract (.t 38) 0, none⟩,
    ⟨(some 43), .extract (.t 38) 1, none⟩,
    ⟨(some 14), .mv (.t 42), none⟩,
    ⟨(some 15), .mv (.t 43), none⟩])
  (.seq (.seq (.reg [⟨(some 44), .mv (.t 11), none⟩,
    ⟨(some 45), .bin .neq (.t 44) (.k (.c (.d (.int .i64 0)))), none⟩,
    ⟨(some 46), .mv (.t 45), none⟩,
    ⟨(some 47), .mv (.t 13), (some (46, false))⟩,
    ⟨(some 48), .bin .neq (.t 47) (.k (.c (.d (.int .i64 0)))), (some (46, false))⟩,
    ⟨(some 49), .pick (.t 46) (.k (.c (.d (.bool true)))) (.t 48), none⟩,
    ⟨(some 50), .mv (.t 49), none⟩,
    ⟨(some 51), .mv (.t 15), (some (50, false))⟩,
    ⟨(some 52), .bin .neq (.t 51) (.k (.c (.d (.int .i64 0)))), (some (50, false))⟩,
    ⟨(some 53), .pick (.t 50) (.k (.c (.d (.bool true)))) (.t 52), none⟩,
    ⟨(some 54), .mv (.t 53), none⟩,
    ⟨(some 55), .mv (.t 10), (some (54, false))⟩,
    ⟨(some 56), .mv (.t 2), (some (54, false))⟩,
    ⟨(some 57), .mv (.t 12), (some (54, false))⟩,
    ⟨(some 58), .mv (.t 1), (some (54, false))⟩,
    ⟨(some 59), .mv (.t 14), (some (54, false))⟩,
    ⟨(some 60), .call 29 [(.t 55), (.t 56), (.t 57), (.t 58), (.t 59)] none, (some (54, false))⟩,
    ⟨(some 61), .un .not (.t 60), (some (54, false))⟩,
    ⟨(some 62), .pick (.t 54) (.k (.c (.d (.bool true)))) (.t 61), none⟩])
  (.cond (.t 62) (.seq (.reg [⟨(some 8), .mv (.k (.c (.d (.bool false)))), none⟩])
   (.ret))
   (.skip)))
  (.seq (.reg [⟨(some 63), .mv (.t 9), none⟩,
    ⟨(some 64), .mv (.t 3), none⟩,
    ⟨(some 65), .mv (.t 2), none⟩,
    ⟨(some 66), .call 31 [(.t 64), (.t 65)] none, none⟩,
    ⟨(some 67), .bldSl true 7 1 (.int .u8 0) [(0, (.k (.c (.d (.int .u8 99))))), (1, (.k (.c (.d (.int .u8 104))))), (2, (.k (.c (.d (.int .u8 97))))), (3, (.k (.c (.d (.int .u8 110))))), (4, (.k (.c (.d (.int .u8 103))))), (5, (.k (.c (.d (.int .u8 101))))), (6, (.k (.c (.d (.int .u8 100)))))], none⟩,
    ⟨(some 68), .markF (.t 67), none⟩,
    ⟨(some 69), .idxSl 1 (.t 63) (.t 66), none⟩,
    ⟨none, .store .sc (.t 69) (.t 68), none⟩])
  (.seq (.reg [⟨(some 71), .mv (.t 9), none⟩,
    ⟨(some 72), .call 13 [(.t 71)] none, none⟩,
    ⟨(some 70), .mv (.t 72), none⟩,
    ⟨(some 73), .extract (.t 70) 0, none⟩,
    ⟨(some 74), .extract (.t 70) 1, none⟩,
    ⟨(some 12), .mv (.t 73), none⟩,
    ⟨(some 13), .mv (.t 74), none⟩])
  (.seq (.reg [⟨(some 76), .mv (.t 9), none⟩,
    ⟨(some 77), .mv (.t 2), none⟩,
    ⟨(some 78), .call 17 [(.t 76), (.t 77)] none, none⟩,
    ⟨(some 75), .mv (.t 78), none⟩,
    ⟨(some 79), .extract (.t 75) 0, none⟩,
    ⟨(some 80), .extract (.t 75) 1, none⟩,
    ⟨(some 14), .mv (.t 79), none⟩,
    ⟨(some 15), .mv (.t 80), none⟩])
  (.seq (.reg [⟨(some 81), .call 12 [] none, none⟩,
    ⟨(some 82), .mv (.t 81), none⟩,
    ⟨(some 83), .mv (.t 13), (some (82, true))⟩,
    ⟨(some 84), .bin .eql (.t 83) (.k (.c (.d (.int .i64 0)))), (some (82, true))⟩,
    ⟨(some 85), .pick (.t 82) (.t 84) (.k (.c (.d (.bool false)))), none⟩,
    ⟨(some 86), .mv (.t 85), none⟩,
    ⟨(some 87), .mv (.t 15), (some (86, true))⟩,
    ⟨(some 88), .bin .eql (.t 87) (.k (.c (.d (.int .i64 0)))), (some (86, true))⟩,
    ⟨(some 89), .pick (.t 86) (.t 88) (.k (.c (.d (.bool false)))), none⟩,
    ⟨(some 90), .mv (.t 89), none⟩,
    ⟨(some 91), .mv (.t 10), (some (90, true))⟩,
    ⟨(some 92), .mv (.t 2), (some (90, true))⟩,
    ⟨(some 93), .mv (.t 12), (some (90, true))⟩,
    ⟨(some 94), .mv (.t 1), (some (90, true))⟩,
    ⟨(some 95), .mv (.t 14), (some (90, true))⟩,
    ⟨(some 96), .call 29 [(.t 91), (.t 92), (.t 93), (.t 94), (.t 95)] none, (some (90, true))⟩,
    ⟨(some 97), .mv (.t 10), (some (90, true))⟩,
    ⟨(some 98), .mv (.t 2), (some (90, true))⟩,
    ⟨(some 99), .mv (.t 12), (some (90, true))⟩,
    ⟨(some 100), .mv (.t 1), (some (90, true))⟩,
    ⟨(some 101), .mv (.t 14), (some (90, true))⟩,
    ⟨(some 102), .call 30 [(.t 97), (.t 98), (.t 99), (.t 100), (.t 101)] none, (some (90, true))⟩,
    ⟨(some 103), .eqB false (.t 96) (.t 102), (some (90, true))⟩,
    ⟨(some 104), .pick (.t 90) (.t 103) (.k (.c (.d (.bool false)))), none⟩,
    ⟨(some 8), .mv (.t 104), none⟩])
  (.ret)))))))))))),
  [(8, none)]⟩
theorem cf_tgrow : compFn Tryd.prog { own := [25, 67], comp := [], frz := [68], nils := [] } Tryd.f7 = some sf_tgrow := by kernel_rfl
set_option maxHeartbeats 3200000 in
theorem tgrow_c (G : Glob) (seed : Int) (hseed1 : -9223372036854775808 ≤ seed) (hseed2 : seed ≤ 9223372036854775807) (n : Int) (hn1 : -9223372036854775808 ≤ n) (hn2 : n ≤ 9223372036854775807) (m : Int) (hm1 : -9223372036854775808 ≤ m) (hm2 : m ≤ 9223372036854775807) (at' : Int) (hat1 : -9223372036854775808 ≤ at') (hat2 : at' ≤ 9223372036854775807) (hF : G.at 0 = some (.ra (firstK.map wD))) (hG : G.at 1 = some (.ra (constK.map wD))) : Den Tryd.prog G 7 [.int .i64 seed, .int .i64 n, .int .i64 m, .int .i64 at'] (.w (.c (.d (.bool true)))) := by
  refine den_walk Tryd.func7 cf_tgrow rfl rfl ?_
  have r1 := withinN_range n 20 (by decide)
  have e1 := within_c G n 20 (by decide)
  obtain ⟨k, hk⟩ := Int.eq_ofNat_of_zero_le r1.1
  rw [hk] at r1 e1
  have r2 := withinN_range m ((k + 1 : Nat) : Int) (by omega)
  have e2 := within_c G m ((k + 1 : Nat) : Int) (by omega)
  obtain ⟨j, hj⟩ := Int.eq_ofNat_of_zero_le r2.1
  rw [hj] at r2 e2
  have r3 := withinN_range at' ((j + 1 : Nat) : Int) (by omega)
  have e3 := within_c G at' ((j + 1 : Nat) : Int) (by omega)
  obtain ⟨c, hc⟩ := Int.eq_ofNat_of_zero_le r3.1
  rw [hc] at r3 e3
  have hl := lvs_f G seed (k + 1) (by omega)
  have ll := leavesN_len (withinN seed 1000) (k + 1)
  have lb := leavesN_le (s := withinN seed 1000) (n := k + 1)
  have ek : (1 : Int) + ↑k = ((k + 1 : Nat) : Int) := by omega
  have ej : (1 : Int) + ↑j = ((j + 1 : Nat) : Int) := by omega
  have hm0 : 1 ≤ j + 1 := by omega
  have hmn : j + 1 ≤ k + 1 := by omega
  have hcm : c < j + 1 := by omega
  generalize leavesN (withinN seed 1000) (k + 1) = l at *
  generalize j + 1 = M at *
  rw [← ll] at ek e2 hl r2 hmn
  have l31 : l.length ≤ 30 := by omega
  have la : (l.take M).length = M := by rw [List.length_take]; omega
  have lba : ∀ x ∈ l.take M, x.length ≤ 1000000000 := fun x hx => lb x (List.mem_of_mem_take hx)
  have b1 := root_f G hF hG (l.take M) (by omega) lba
  have b2 := root_f G hF hG l (by omega) lb
  have b3 := cons_f G hF hG l (M : Int) (by omega) lb
  rw [(rootV_ok (l := l.take M) (by omega)).1, (rootV_ok (l := l.take M) (by omega)).2] at b1
  rw [(rootV_ok (l := l) (by omega)).1, (rootV_ok (l := l) (by omega)).2] at b2
  rw [(consV_ok (l := l) (m := M) (by omega) hm0 (by omega)).1, (consV_ok (l := l) (m := M) (by omega) hm0 (by omega)).2] at b3
  have k1 := check_grown (l := l) (m := M) (by omega) hm0 (by omega)
  have n1 : ∀ x ∈ proofM M l true, x.length ≤ 1000000000 := fun x hx => by rw [proof_big _ l M true rfl hm0 (by omega) x hx]; decide
  have m1 : (proofM M l true).length ≤ 1024 := by rw [proof_len _ l M true rfl hm0 (by omega)]; have := plen_le l.length M true hm0 (by omega); omega
  have o1 : (rootM (l.take M)).length ≤ 1000000000 := by rw [rootM_len]; decide
  have c1 := chkg_c G hF hG (rootM (l.take M)) (M : Int) (rootM l) (l.length : Int) (proofM M l true) o1 (by omega) n1
  rw [k1] at c1
  -- with a leaf changed
  have g1 := getLs (l := l) (j := c) (by omega)
  have ls : (l.set c chd7).length = l.length := List.length_set
  have lst : (l.set c chd7).take l.length = l.set c chd7 := List.take_of_length_le (by omega)
  have lbs : ∀ x ∈ l.set c chd7, x.length ≤ 1000000000 := fun x hx => by
    rcases List.mem_or_eq_of_mem_set hx with h | h
    · exact lb x h
    · subst h; decide
  have b4 := root_f G hF hG (l.set c chd7) (by omega) lbs
  have b5 := cons_f G hF hG (l.set c chd7) (M : Int) (by omega) lbs
  rw [(rootV_ok (l := l.set c chd7) (by omega)).1, (rootV_ok (l := l.set c chd7) (by omega)).2] at b4
  rw [(consV_ok (l := l.set c chd7) (m := M) (by omega) hm0 (by omega)).1, (consV_ok (l := l.set c chd7) (m := M) (by omega) hm0 (by omega)).2] at b5
  have n2 : ∀ x ∈ proofM M (l.set c chd7) true, x.length ≤ 1000000000 := fun x hx => by rw [proof_big _ (l.set c chd7) M true rfl hm0 (by omega) x hx]; decide
  have m2 : (proofM M (l.set c chd7) true).length ≤ 1024 := by rw [proof_len _ (l.set c chd7) M true rfl hm0 (by omega)]; have := plen_le (l.set c chd7).length M true hm0 (by omega); omega
  have c2 := chkg_c G hF hG (rootM (l.take M)) (M : Int) (rootM (l.set c chd7)) (l.length : Int) (proofM M (l.set c chd7) true) o1 (by omega) n2
  have c3 := rchkg_c G hF hG (rootM (l.take M)) (M : Int) (rootM (l.set c chd7)) (l.length : Int) (proofM M (l.set c chd7) true) o1 (by omega) n2
  have hset : (l.map fun l => D.sl (l.map bD)).set c (.sl [.int .u8 99, .int .u8 104, .int .u8 97, .int .u8 110, .int .u8 103, .int .u8 101, .int .u8 100]) = (l.set c chd7).map fun l => D.sl (l.map bD) := by rw [List.map_set]; rfl
  have u1 := noU8_ls l
  have u2 := noU8_ls (l.set c chd7)
  have y1 := by_lt 1 (proofM M l true) .i64 0
  have y2 := by_lt 1 (proofM M (l.set c chd7) true) .i64 0
  generalize rootM (l.take M) = x at *
  generalize rootM (l.set c chd7) = y at *
  generalize rootM l = z at *
  generalize proofM M l true = p at *
  generalize proofM M (l.set c chd7) true = q at *
  simp only [sf_tgrow, putAll, wx, wy, wz, stV, seval, IntWalk.iteOmega, IntWalk.toNatUp, reduceCtorEq]
  refine st_call (e1) rfl (.inl rfl) ?_
  simp only [ek, wx, wy, wz, stV, seval, IntWalk.iteOmega, IntWalk.toNatUp, reduceCtorEq]
  refine st_call (e2) rfl (.inl rfl) ?_
  simp only [ej, wx, wy, wz, stV, seval, IntWalk.iteOmega, IntWalk.toNatUp, reduceCtorEq]
  refine st_call (hl) rfl (.inl rfl) ?_
  simp only [allSz_ls, wx, wy, wz, stV, seval, IntWalk.iteOmega, IntWalk.toNatUp, reduceCtorEq]
  refine st_call b1 (by simp only [wx, wy, wz, stV, seval, IntWalk.iteOmega, IntWalk.toNatUp, reduceCtorEq]) (.inr (fl_by _ _ _ _)) ?_
  simp only [wx, wy, wz, stV, seval, IntWalk.iteOmega, IntWalk.toNatUp, reduceCtorEq]
  refine st_call b2 (by simp only [wx, wy, wz, stV, seval, IntWalk.iteOmega, IntWalk.toNatUp, reduceCtorEq, List.take_length]) (.inr (fl_by _ _ _ _)) ?_
  simp only [wx, wy, wz, stV, seval, IntWalk.iteOmega, IntWalk.toNatUp, reduceCtorEq]
  refine st_callB b3 (by simp only [wx, wy, wz, stV, seval, IntWalk.iteOmega, IntWalk.toNatUp, reduceCtorEq, List.take_length]) y1 (by simp only [wx, wy, wz, stV, seval, IntWalk.iteOmega, IntWalk.toNatUp, reduceCtorEq, noU8s, V.hasOwn, C.isOwn, V.own1, u1, Bool.not_true, Bool.not_false, Bool.true_or, Bool.false_or]) ?_
  simp only [wx, wy, wz, stV, seval, IntWalk.iteOmega, IntWalk.toNatUp, reduceCtorEq]
  refine st_call (c1) rfl (.inl rfl) ?_
  simp only [wx, wy, wz, stV, seval, IntWalk.iteOmega, IntWalk.toNatUp, reduceCtorEq]
  refine st_call (e3) rfl (.inl rfl) ?_
  simp only [get_map, g1, hset, wx, wy, wz, stV, seval, IntWalk.iteOmega, IntWalk.toNatUp, reduceCtorEq]
  refine st_call b4 (by simp only [wx, wy, wz, stV, seval, IntWalk.iteOmega, IntWalk.toNatUp, reduceCtorEq, ls, lst]) (.inr (fl_by _ _ _ _)) ?_
  simp only [wx, wy, wz, stV, seval, IntWalk.iteOmega, IntWalk.toNatUp, reduceCtorEq]
  refine st_callB b5 (by simp only [wx, wy, wz, stV, seval, IntWalk.iteOmega, IntWalk.toNatUp, reduceCtorEq, ls, lst]) y2 (by simp only [wx, wy, wz, stV, seval, IntWalk.iteOmega, IntWalk.toNatUp, reduceCtorEq, noU8s, V.hasOwn, C.isOwn, V.own1, u2, Bool.not_true, Bool.not_false, Bool.true_or, Bool.false_or]) ?_
  simp only [wx, wy, wz, stV, seval, IntWalk.iteOmega, IntWalk.toNatUp, reduceCtorEq]
  refine st_call (known7_c G hF hG) rfl (.inl rfl) ?_
  simp only [wx, wy, wz, stV, seval, IntWalk.iteOmega, IntWalk.toNatUp, reduceCtorEq]
  refine st_call (c2) rfl (.inl rfl) ?_
  simp only [wx, wy, wz, stV, seval, IntWalk.iteOmega, IntWalk.toNatUp, reduceCtorEq]
  refine st_call (c3) rfl (.inl rfl) ?_
  simp only [wx, wy, wz, stV, seval, IntWalk.iteOmega, IntWalk.toNatUp, reduceCtorEq]
  exact ret_d1 (by simp only [wx, wy, wz, stV, seval, IntWalk.iteOmega, IntWalk.toNatUp, reduceCtorEq])
theorem depth_pos {n : Nat} (h : 2 ≤ n) (i : Nat) : 1 ≤ depthM n i := by
  by_cases hi : i < splitN n
  · rw [depth_lo h hi]; omega
  · rw [depth_hi h hi]; omega
theorem check_len {r leaf : List UInt8} {n i : Nat} {p : List (List UInt8)} (h : p.length ≠ depthM n i) : checkB r (n : Int) (i : Int) leaf p = false := by
  unfold checkB
  have : climbO (n : Int) (i : Int) p = false := decide_eq_false fun k => h k.2.2.2.2
  rw [this, Bool.false_and]
def sf_trefs : SFn := ⟨6, 177,
  .seq (.reg [⟨(some 12), .mv (.k (.c (.d (.bool false)))), none⟩])
  (.seq (.reg [⟨(some 19), .mv (.t 1), none⟩,
    ⟨(some 20), .call 31 [(.t 19), (.k (.c (.d (.int .i64 20))))] none, none⟩,
    ⟨(some 21), .bin .add (.k (.c (.d (.int .i64 2)))) (.t 20), none⟩,
    ⟨(some 1), .mv (.t 21), none⟩])
  (.seq (.reg [⟨(some 22), .mv (.t 0), none⟩,
    ⟨(some 23), .mv (.t 1), none⟩,
    ⟨(some 24), .call 32 [(.t 22), (.t 23)] none, none⟩,
    ⟨(some 13), .mv (.t 24), none⟩])
  (.seq (.reg [⟨(some 25), .mv (.t 2), none⟩,
    ⟨(some 26), .mv (.t 1), none⟩,
    ⟨(some 27), .call 31 [(.t 25), (.t 26)] none, none⟩,
    ⟨(some 28), .mv (.t 3), none⟩,
    ⟨(some 29), .mv (.t 1), none⟩,
    ⟨(some 30), .call 31 [(.t 28), (.t 29)] none, none⟩,
    ⟨(some 2), .mv (.t 27), none⟩,
    ⟨(some 3), .mv (.t 30), none⟩])
  (.seq (.reg [⟨(some 32), .mv (.t 13), none⟩,
    ⟨(some 33), .call 14 [(.t 32)] none, none⟩,
    ⟨(some 31), .mv (.t 33), none⟩,
    ⟨(some 34), .extract (.t 31) 0, none⟩,
    ⟨(some 35), .extract (.t 31) 1, none⟩,
    ⟨(some 14), .mv (.t 34), none⟩,
    ⟨(some 15), .mv (.t 35), none⟩])
  (.seq (.reg [⟨(some 37), .mv (.t 13), none⟩,
    ⟨(some 38), .mv (.t 2), none⟩,
    ⟨(some 39), .call 16 [(.t 37), (.t 38)] none, none⟩,
    ⟨(some 36), .mv (.t 39), none⟩,
    ⟨(some 40), .extract (.t 36) 0, none⟩,
    ⟨(some 41), .extract (.t 36) 1, none⟩,
    ⟨(some 16), .mv (.t 40), none⟩,
    ⟨(some 17), .mv (.t 41), none⟩])
  (.seq (.seq (.reg [⟨(some 42), .mv (.t 15), none⟩,
    ⟨(some 43), .bin .neq (.t 42) (.k (.c (.d (.int .i64 0)))), none⟩,
    ⟨(some 44), .mv (.t 43), none⟩,
    ⟨(some 45), .mv (.t 17), (some (44, false))⟩,
    ⟨(some 46), .bin .neq (.t 45) (.k (.c (.d (.int .i64 0)))), (some (44, false))⟩,
    ⟨(some 47), .pick (.t 44) (.k (.c (.d (.bool true)))) (.t 46), none⟩,
    ⟨(some 48), .mv (.t 47), none⟩,
    ⟨(some 49), .mv (.t 16), (some (48, false))⟩,
    ⟨(some 50), .len (.t 49), (some (48, false))⟩,
    ⟨(some 51), .bin .eql (.t 50) (.k (.c (.d (.int .i64 0)))), (some (48, false))⟩,
    ⟨(some 52), .pick (.t 48) (.k (.c (.d (.bool true)))) (.t 51), none⟩])
  (.cond (.t 52) (.seq (.reg [⟨(some 12), .mv (.k (.c (.d (.bool false)))), none⟩])
   (.ret))
   (.skip)))
  (.seq (.reg [⟨(some 53), .bldSl false 0 1 (.sl []) [], none⟩,
    ⟨(some 54), .mv (.t 16), none⟩,
    ⟨(some 55), .appN false 1 24 (.t 53) (.t 54), none⟩,
    ⟨(some 18), .mv (.t 55), none⟩])
  (.seq (.reg [⟨(some 56), .mv (.t 18), none⟩,
    ⟨(some 57), .mv (.t 4), none⟩,
    ⟨(some 58), .mv (.t 16), none⟩,
    ⟨(some 59), .len (.t 58), none⟩,
    ⟨(some 60), .call 31 [(.t 57), (.t 59)] none, none⟩,
    ⟨(some 61), .mv (.t 18), none⟩,
    ⟨(some 62), .mv (.t 4), none⟩,
    ⟨(some 63), .mv (.t 16), none⟩,
    ⟨(some 64), .len (.t 63), none⟩,
    ⟨(some 65), .call 31 [(.t 62), (.t 64)] none, none⟩,
    ⟨(some 66), .idxSl 1 (.t 61) (.t 65), none⟩,
    ⟨(some 67), .load .sc (.t 66), none⟩,
    ⟨(some 68), .mv (.t 5), none⟩,
    ⟨(some 69), .mv (.t 4), none⟩,
    ⟨(some 70), .call 33 [(.t 67), (.t 68), (.t 69)] none, none⟩,
    ⟨(some 71), .idxSl 1 (.t 56) (.t 60), none⟩,
    ⟨none, .store .sc (.t 71) (.t 70), none⟩])
  (.seq (.reg [⟨(some 72), .call 12 [] none, none⟩,
    ⟨(some 73), .mv (.t 72), none⟩,
    ⟨(some 74), .mv (.t 14), (some (73, true))⟩,
    ⟨(some 75), .mv (.t 1), (some (73, true))⟩,
    ⟨(some 76), .mv (.t 3), (some (73, true))⟩,
    ⟨(some 77), .mv (.t 13), (some (73, true))⟩,
    ⟨(some 78), .mv (.t 2), (some (73, true))⟩,
    ⟨(some 79), .idxSl 1 (.t 77) (.t 78), (some (73, true))⟩,
    ⟨(some 80), .loadB .sc (.t 79), (some (73, true))⟩,
    ⟨(some 81), .mv (.t 16), (some (73, true))⟩,
    ⟨(some 82), .call 27 [(.t 74), (.t 75), (.t 76), (.t 80), (.t 81)] none, (some (73, true))⟩,
    ⟨(some 83), .mv (.t 14), (some (73, true))⟩,
    ⟨(some 84), .mv (.t 1), (some (73, true))⟩,
    ⟨(some 85), .mv (.t 3), (some (73, true))⟩,
    ⟨(some 86), .mv (.t 13), (some (73, true))⟩,
    ⟨(some 87), .mv (.t 2), (some (73, true))⟩,
    ⟨(some 88), .idxSl 1 (.t 86) (.t 87), (some (73, true))⟩,
    ⟨(some 89), .loadB .sc (.t 88), (some (73, true))⟩,
    ⟨(some 90), .mv (.t 16), (some (73, true))⟩,
    ⟨(some 91), .call 28 [(.t 83), (.t 84), (.t 85), (.t 89), (.t 90)] none, (some (73, true))⟩,
    ⟨(some 92), .eqB false (.t 82) (.t 91), (some (73, true))⟩,
    ⟨(some 93), .pick (.t 73) (.t 92) (.k (.c (.d (.bool false)))), none⟩,
    ⟨(some 94), .mv (.t 93), none⟩,
    ⟨(some 95), .mv (.t 14), (some (94, true))⟩,
    ⟨(some 96), .mv (.t 1), (some (94, true))⟩,
    ⟨(some 97), .mv (.t 2), (some (94, true))⟩,
    ⟨(some 98), .mv (.t 13), (some (94, true))⟩,
    ⟨(some 99), .mv (.t 3), (some (94, true))⟩,
    ⟨(some 100), .idxSl 1 (.t 98) (.t 99), (some (94, true))⟩,
    ⟨(some 101), .loadB .sc (.t 100), (some (94, true))⟩,
    ⟨(some 102), .mv (.t 16), (some (94, true))⟩,
    ⟨(some 103), .call 27 [(.t 95), (.t 96), (.t 97), (.t 101), (.t 102)] none, (some (94, true))⟩,
    ⟨(some 104), .mv (.t 14), (some (94, true))⟩,
    ⟨(some 105), .mv (.t 1), (some (94, true))⟩,
    ⟨(some 106), .mv (.t 2), (some (94, true))⟩,
    ⟨(some 107), .mv (.t 13), (some (94, true))⟩,
    ⟨(some 108), .mv (.t 3), (some (94, true))⟩,
    ⟨(some 109), .idxSl 1 (.t 107) (.t 108), (some (94, true))⟩,
    ⟨(some 110), .loadB .sc (.t 109), (some (94, true))⟩,
    ⟨(some 111), .mv (.t 16), (some (94, true))⟩,
    ⟨(some 112), .call 28 [(.t 104), (.t 105), (.t 106), (.t 110), (.t 111)] none, (some (94, true))⟩,
    ⟨(some 113), .eqB false (.t 103) (.t 112), (some (94, true))⟩,
    ⟨(some 114), .pick (.t 94) (.t 113) (.k (.c (.d (.bool false)))), none⟩,
    ⟨(some 115), .mv (.t 114), none⟩,
    ⟨(some 116), .mv (.t 14), (some (115, true))⟩,
    ⟨(some 117), .mv (.t 1), (some (115, true))⟩,
    ⟨(some 118), .mv (.t 2), (some (115, true))⟩,
    ⟨(some 119), .mv (.t 13), (some (115, true))⟩,
    ⟨(some 120), .mv (.t 2), (some (115, true))⟩,
    ⟨(some 121), .idxSl 1 (.t 119) (.t 120), (some (115, true))⟩,
    ⟨(some 122), .loadB .sc (.t 121), (some (115, true))⟩,
    ⟨(some 123), .mv (.t 18), (some (115, true))⟩,
    ⟨(some 124), .call 27 [(.t 116), (.t 117), (.t 118), (.t 122), (.t 123)] none, (some (115, true))⟩,
    ⟨(some 125), .mv (.t 14), (some (115, true))⟩,
    ⟨(some 126), .mv (.t 1), (some (115, true))⟩,
    ⟨(some 127), .mv (.t 2), (some (115, true))⟩,
    ⟨(some 128), .mv (.t 13), (some (115, true))⟩,
    ⟨(some 129), .mv (.t 2), (some (115, true))⟩,
    ⟨(some 130), .idxSl 1 (.t 128) (.t 129), (some (115, true))⟩,
    ⟨(some 131), .loadB .sc (.t 130), (some (115, true))⟩,
    ⟨(some 132), .mv (.t 18), (some (115, true))⟩,
    ⟨(some 133), .call 28 [(.t 125), (.t 126), (.t 127), (.t 131), (.t 132)] none, (some (115, true))⟩,
    ⟨(some 134), .eqB false (.t 124) (.t 133), (some (115, true))⟩,
    ⟨(some 135), .pick (.t 115) (.t 134) (.k (.c (.d (.bool false)))), none⟩,
    ⟨(some 136), .mv (.t 135), none⟩,
    ⟨(some 137), .mv (.t 14), (some (136, true))⟩,
    ⟨(some 138), .mv (.t 1), (some (136, true))⟩,
    ⟨(some 139), .mv (.t 2), (some (136, true))⟩,
    ⟨(some 140), .mv (.t 13), (some (136, true))⟩,
    ⟨(some 141), .mv (.t 2), (some (136, true))⟩,
    ⟨(some 142), .idxSl 1 (.t 140) (.t 141), (some (136, true))⟩,
    ⟨(some 143), .loadB .sc (.t 142), (some (136, true))⟩,
    ⟨(some 144), .mv (.t 16), (some (136, true))⟩,
    ⟨(some 145), .slice 1 (.t 144) (some (.k (.c (.d (.int .i64 1))))) none none, (some (136, true))⟩,
    ⟨(some 146), .call 27 [(.t 137), (.t 138), (.t 139), (.t 143), (.t 145)] none, (some (136, true))⟩,
    ⟨(some 147), .un .not (.t 146), (some (136, true))⟩,
    ⟨(some 148), .pick (.t 136) (.t 147) (.k (.c (.d (.bool false)))), none⟩,
    ⟨(some 149), .mv (.t 148), none⟩,
    ⟨(some 150), .mv (.t 14), (some (149, true))⟩,
    ⟨(some 151), .mv (.t 1), (some (149, true))⟩,
    ⟨(some 152), .mv (.t 2), (some (149, true))⟩,
    ⟨(some 153), .mv (.t 13), (some (149, true))⟩,
    ⟨(some 154), .mv (.t 2), (some (149, true))⟩,
    ⟨(some 155), .idxSl 1 (.t 153) (.t 154), (some (149, true))⟩,
    ⟨(some 156), .loadB .sc (.t 155), (some (149, true))⟩,
    ⟨(some 157), .bldSl false 0 1 (.sl []) [], (some (149, true))⟩,
    ⟨(some 158), .mv (.t 16), (some (149, true))⟩,
    ⟨(some 159), .appN false 1 24 (.t 157) (.t 158), (some (149, true))⟩,
    ⟨(some 160), .mv (.t 14), (some (149, true))⟩,
    ⟨(some 161), .bldSl false 1 1 (.sl []) [(0, (.t 160))], (some (149, true))⟩,
    ⟨(some 162), .app false 1 24 (.t 159) (.t 161), (some (149, true))⟩,
    ⟨(some 163), .call 27 [(.t 150), (.t 151), (.t 152), (.t 156), (.t 162)] none, (some (149, true))⟩,
    ⟨(some 164), .un .not (.t 163), (some (149, true))⟩,
    ⟨(some 165), .pick (.t 149) (.t 164) (.k (.c (.d (.bool false)))), none⟩,
    ⟨(some 166), .mv (.t 165), none⟩,
    ⟨(some 167), .mv (.t 14), (some (166, true))⟩,
    ⟨(some 168), .mv (.t 1), (some (166, true))⟩,
    ⟨(some 169), .mv (.t 2), (some (166, true))⟩,
    ⟨(some 170), .mv (.t 13), (some (166, true))⟩,
    ⟨(some 171), .mv (.t 2), (some (166, true))⟩,
    ⟨(some 172), .idxSl 1 (.t 170) (.t 171), (some (166, true))⟩,
    ⟨(some 173), .loadB .sc (.t 172), (some (166, true))⟩,
    ⟨(some 174), .mv (.t 16), (some (166, true))⟩,
    ⟨(some 175), .call 27 [(.t 167), (.t 168), (.t 169), (.t 173), (.t 174)] none, (some (166, true))⟩,
    ⟨(some 176), .pick (.t 166) (.t 175) (.k (.c (.d (.bool false)))), none⟩,
    ⟨(some 12), .mv (.t 176), none⟩])
  (.ret)))))))))),
  [(12, none)]⟩
theorem cf_trefs : compFn Tryd.prog { own := [], comp := [], frz := [], nils := [55, 159], bx := [80, 89, 101, 110, 122, 131, 143, 156, 173] } Tryd.f6 = some sf_trefs := by kernel_rfl
set_option maxHeartbeats 1600000 in
theorem trefs_c (G : Glob) (seed : Int) (hseed1 : -9223372036854775808 ≤ seed) (hseed2 : seed ≤ 9223372036854775807) (n : Int) (hn1 : -9223372036854775808 ≤ n) (hn2 : n ≤ 9223372036854775807) (i : Int) (hi1 : -9223372036854775808 ≤ i) (hi2 : i ≤ 9223372036854775807) (k : Int) (hk1 : -9223372036854775808 ≤ k) (hk2 : k ≤ 9223372036854775807) (at' : Int) (hat'1 : -9223372036854775808 ≤ at') (hat'2 : at' ≤ 9223372036854775807) (by' : Int) (hby'1 : -9223372036854775808 ≤ by') (hby'2 : by' ≤ 9223372036854775807) (hF : G.at 0 = some (.ra (firstK.map wD))) (hG : G.at 1 = some (.ra (constK.map wD))) : Den Tryd.prog G 6 [.int .i64 seed, .int .i64 n, .int .i64 i, .int .i64 k, .int .i64 at', .int .i64 by'] (.w (.c (.d (.bool true)))) := by
  refine den_walk Tryd.func6 cf_trefs rfl rfl ?_
  have r1 := withinN_range n 20 (by decide)
  have e1 := within_c G n 20 (by decide)
  obtain ⟨n0, hn⟩ := Int.eq_ofNat_of_zero_le r1.1
  rw [hn] at r1 e1
  have r2 := withinN_range i ((n0 + 2 : Nat) : Int) (by omega)
  have e2 := within_c G i ((n0 + 2 : Nat) : Int) (by omega)
  have r3 := withinN_range k ((n0 + 2 : Nat) : Int) (by omega)
  have e3 := within_c G k ((n0 + 2 : Nat) : Int) (by omega)
  obtain ⟨a, ha⟩ := Int.eq_ofNat_of_zero_le r2.1
  obtain ⟨b, hb⟩ := Int.eq_ofNat_of_zero_le r3.1
  rw [ha] at r2 e2
  rw [hb] at r3 e3
  have hl := lvs_c G seed (n0 + 2) (by omega)
  have ll := leavesN_len (withinN seed 1000) (n0 + 2)
  have lb := leavesN_le (s := withinN seed 1000) (n := n0 + 2)
  have ek : (2 : Int) + ↑n0 = ((n0 + 2 : Nat) : Int) := by omega
  generalize leavesN (withinN seed 1000) (n0 + 2) = l at *
  rw [← ll] at ek e2 e3 hl r2 r3
  have h2 : 2 ≤ l.length := by omega
  have l31 : l.length ≤ 30 := by omega
  have hal : a < l.length := by omega
  have hbl : b < l.length := by omega
  have g1 := getLs (l := l) hal
  have g2 := getLs (l := l) hbl
  have x1 := lb _ (getLs_mem hal)
  have x2 := lb _ (getLs_mem hbl)
  have b1 := rroot_c G hF hG l (by omega) lb
  have b2 := rpath_c G hF hG l (a : Int) (by omega) lb
  rw [(rootV_ok (l := l) (by omega)).1, (rootV_ok (l := l) (by omega)).2] at b1
  rw [(pathV_ok (l := l) (i := a) (by omega) hal).1, (pathV_ok (l := l) (i := a) (by omega) hal).2] at b2
  obtain ⟨_, _, k1⟩ := check_path (l := l) (i := a) (by omega) hal
  have pl := path_len _ l a rfl hal
  have p1 := depth_pos h2 a
  have pd := depth_lev l.length a
  have pv := lev_le' l.length
  have pb : ∀ x ∈ pathM l a, x.length = 32 := path_big (l := l) _ l a rfl
  have kA : checkB (rootM l) (l.length : Int) (a : Int) (l.getD a []) ((pathM l a).drop 1) = false := check_len (by rw [List.length_drop]; omega)
  have kB : checkB (rootM l) (l.length : Int) (a : Int) (l.getD a []) (pathM l a ++ [rootM l]) = false := check_len (by rw [List.length_append, List.length_singleton]; omega)
  have rl := rootM_len l
  generalize pathM l a = p at *
  generalize rootM l = r at *
  have r4 := withinN_range at' (p.length : Int) (by omega)
  have e4 := within_c G at' (p.length : Int) (by omega)
  obtain ⟨c, hc⟩ := Int.eq_ofNat_of_zero_le r4.1
  rw [hc] at r4 e4
  have hcl : c < p.length := by omega
  have g3 := getLs (l := p) hcl
  have x3 := pb _ (getLs_mem hcl)
  have hch := chg_c G (p.getD c []) by' at' (by omega) (by omega)
  have cl := changedL_len (p.getD c []) by' at'
  generalize changedL (p.getD c []) by' at' = z at *
  have hset : (p.map fun l => D.sl (l.map bD)).set c (.sl (z.map bD)) = (p.set c z).map fun l => D.sl (l.map bD) := by rw [List.map_set]
  have pbig : ∀ x ∈ p, x.length ≤ 1000000000 := fun x hx => by rw [pb x hx]; decide
  have sl : (p.set c z).length = p.length := List.length_set
  have sbig : ∀ x ∈ p.set c z, x.length ≤ 1000000000 := fun x hx => by
    rcases List.mem_or_eq_of_mem_set hx with h | h
    · exact pbig x h
    · subst h; omega
  have dbig : ∀ x ∈ p.drop 1, x.length ≤ 1000000000 := fun x hx => pbig x (List.mem_of_mem_drop hx)
  have abig : ∀ x ∈ p ++ [r], x.length ≤ 1000000000 := fun x hx => by
    rcases List.mem_append.1 hx with h | h
    · exact pbig x h
    · rw [List.mem_singleton] at h; subst h; omega
  have d1 : (p.drop 1).take (p.length - 1) = p.drop 1 := List.take_of_length_le (by rw [List.length_drop]; omega)
  have a1 : (p.map fun l => D.sl (l.map bD)) ++ [D.sl (r.map bD)] = (p ++ [r]).map fun l => D.sl (l.map bD) := by rw [List.map_append]; rfl
  have al : (p ++ [r]).take (p.length + 1) = p ++ [r] := List.take_of_length_le (by simp)
  have st : (p.set c z).take p.length = p.set c z := List.take_of_length_le (by omega)
  have c1 := chkt_c G hF hG r (l.length : Int) (b : Int) (l.getD a []) p x1 (by omega) pbig
  have c2 := rchkt_c G hF hG r (l.length : Int) (b : Int) (l.getD a []) p x1 (by omega) pbig
  have c3 := chkt_c G hF hG r (l.length : Int) (a : Int) (l.getD b []) p x2 (by omega) pbig
  have c4 := rchkt_c G hF hG r (l.length : Int) (a : Int) (l.getD b []) p x2 (by omega) pbig
  have c5 := chkt_c G hF hG r (l.length : Int) (a : Int) (l.getD a []) (p.set c z) x1 (by omega) sbig
  have c6 := rchkt_c G hF hG r (l.length : Int) (a : Int) (l.getD a []) (p.set c z) x1 (by omega) sbig
  have c7 := chkt_c G hF hG r (l.length : Int) (a : Int) (l.getD a []) (p.drop 1) x1 (by rw [List.length_drop]; omega) dbig
  have c8 := chkt_c G hF hG r (l.length : Int) (a : Int) (l.getD a []) (p ++ [r]) x1 (by rw [List.length_append, List.length_singleton]; omega) abig
  have c9 := chkt_c G hF hG r (l.length : Int) (a : Int) (l.getD a []) p x1 (by omega) pbig
  rw [kA] at c7
  rw [kB] at c8
  rw [k1] at c9
  have ple : p.length ≤ 100 := by omega
  simp only [sf_trefs, putAll, wx, wy, wz, stV, seval, IntWalk.iteOmega, IntWalk.toNatUp, reduceCtorEq]
  refine st_call (e1) rfl (.inl rfl) ?_
  simp only [ek, wx, wy, wz, stV, seval, IntWalk.iteOmega, IntWalk.toNatUp, reduceCtorEq]
  refine st_call (hl) rfl (.inl rfl) ?_
  simp only [wx, wy, wz, stV, seval, IntWalk.iteOmega, IntWalk.toNatUp, reduceCtorEq]
  refine st_call (e2) rfl (.inl rfl) ?_
  simp only [wx, wy, wz, stV, seval, IntWalk.iteOmega, IntWalk.toNatUp, reduceCtorEq]
  refine st_call (e3) rfl (.inl rfl) ?_
  simp only [wx, wy, wz, stV, seval, IntWalk.iteOmega, IntWalk.toNatUp, reduceCtorEq]
  refine st_call (b1) rfl (.inl rfl) ?_
  simp only [wx, wy, wz, stV, seval, IntWalk.iteOmega, IntWalk.toNatUp, reduceCtorEq]
  refine st_call (b2) rfl (.inl rfl) ?_
  simp only [srcV, allSz_ls, wx, wy, wz, stV, seval, IntWalk.iteOmega, IntWalk.toNatUp, reduceCtorEq]
  refine st_call (e4) rfl (.inl rfl) ?_
  simp only [wx, wy, wz, stV, seval, IntWalk.iteOmega, IntWalk.toNatUp, reduceCtorEq]
  refine st_call (e4) rfl (.inl rfl) ?_
  simp only [get_map, g3, wx, wy, wz, stV, seval, IntWalk.iteOmega, IntWalk.toNatUp, reduceCtorEq]
  refine st_call (hch) rfl (.inl rfl) ?_
  simp only [get_map, g3, hset, wx, wy, wz, stV, seval, IntWalk.iteOmega, IntWalk.toNatUp, reduceCtorEq]
  refine st_call (known7_c G hF hG) rfl (.inl rfl) ?_
  simp only [get_map, g1, g2, wx, wy, wz, stV, seval, IntWalk.iteOmega, IntWalk.toNatUp, reduceCtorEq]
  refine st_call (c1) rfl (.inl rfl) ?_
  simp only [get_map, g1, g2, wx, wy, wz, stV, seval, IntWalk.iteOmega, IntWalk.toNatUp, reduceCtorEq]
  refine st_call (c2) rfl (.inl rfl) ?_
  simp only [get_map, g1, g2, wx, wy, wz, stV, seval, IntWalk.iteOmega, IntWalk.toNatUp, reduceCtorEq]
  refine st_call (c3) rfl (.inl rfl) ?_
  simp only [get_map, g1, g2, wx, wy, wz, stV, seval, IntWalk.iteOmega, IntWalk.toNatUp, reduceCtorEq]
  refine st_call (c4) rfl (.inl rfl) ?_
  simp only [get_map, g1, g2, wx, wy, wz, stV, seval, IntWalk.iteOmega, IntWalk.toNatUp, reduceCtorEq]
  refine st_call c5 (by simp only [wx, wy, wz, stV, seval, IntWalk.iteOmega, IntWalk.toNatUp, reduceCtorEq, sl, st]) (.inr rfl) ?_
  simp only [wx, wy, wz, stV, seval, IntWalk.iteOmega, IntWalk.toNatUp, reduceCtorEq, get_map, g1, g2]
  refine st_call c6 (by simp only [wx, wy, wz, stV, seval, IntWalk.iteOmega, IntWalk.toNatUp, reduceCtorEq, sl, st]) (.inr rfl) ?_
  simp only [wx, wy, wz, stV, seval, IntWalk.iteOmega, IntWalk.toNatUp, reduceCtorEq, get_map, g1, g2, d1, allSz_ls]
  refine st_call (c7) rfl (.inl rfl) ?_
  simp only [get_map, g1, g2, srcV, a1, allSz_ls, wx, wy, wz, stV, seval, IntWalk.iteOmega, IntWalk.toNatUp, reduceCtorEq]
  refine st_call c8 (by simp only [wx, wy, wz, stV, seval, IntWalk.iteOmega, IntWalk.toNatUp, reduceCtorEq, al]) (.inr rfl) ?_
  simp only [wx, wy, wz, stV, seval, IntWalk.iteOmega, IntWalk.toNatUp, reduceCtorEq, get_map, g1, g2]
  refine st_call (c9) rfl (.inl rfl) ?_
  simp only [wx, wy, wz, stV, seval, IntWalk.iteOmega, IntWalk.toNatUp, reduceCtorEq]
  exact ret_d1 (by simp only [wx, wy, wz, stV, seval, IntWalk.iteOmega, IntWalk.toNatUp, reduceCtorEq])
end Go.Proofs.YtalilcljonkmaaaDoor
