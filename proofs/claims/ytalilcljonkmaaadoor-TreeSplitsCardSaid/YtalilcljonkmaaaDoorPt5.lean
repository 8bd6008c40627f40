/- Layer 7 on data: the reference's trees. Own work. -/
import Derived.Test.YtalilcljonkmaaaDoorPt4
set_option linter.unusedVariables false
set_option linter.unusedSimpArgs false
namespace Go.Proofs.YtalilcljonkmaaaDoor
open Go.RowKit

theorem lev_le' (n : Nat) : levN n ≤ n := by
  unfold levN
  split
  · exact Nat.zero_le _
  · have := log2_lt (x := n - 1) (j := n - 1) (by omega) Nat.lt_two_pow_self
    omega
def spSt (n j : Nat) : St := ⟨ofL [(0, .w (.c (.d (.int .i64 (n : Int))))), (3, .w (.c (.d (.int .i64 ((2 ^ j : Nat) : Int)))))], hL [], uL []⟩
def lp_rspl_0 : SCode :=
  .seq (.seq (.reg [⟨(some 4), .mv (.t 3), none⟩,
    ⟨(some 5), .bin .mul (.k (.c (.d (.int .i64 2)))) (.t 4), none⟩,
    ⟨(some 6), .mv (.t 0), none⟩,
    ⟨(some 7), .bin .lss (.t 5) (.t 6), none⟩])
  (.cond (.t 7) (.skip)
   (.exit 0)))
  (.block 1 (.reg [⟨(some 8), .mv (.t 3), none⟩,
     ⟨(some 9), .bin .mul (.k (.c (.d (.int .i64 2)))) (.t 8), none⟩,
     ⟨(some 3), .mv (.t 9), none⟩]))
def sf_rspl : SFn := ⟨1, 11,
  .seq (.reg [⟨(some 2), .mv (.k (.c (.d (.int .i64 0)))), none⟩])
  (.seq (.reg [⟨(some 3), .mv (.k (.c (.d (.int .i64 1)))), none⟩])
  (.seq (.block 0 (.loop lp_rspl_0))
  (.seq (.reg [⟨(some 10), .mv (.t 3), none⟩,
    ⟨(some 2), .mv (.t 10), none⟩])
  (.ret)))),
  [(2, none)]⟩
theorem cf_rspl : compFn Tryd.prog { own := [], comp := [], frz := [], nils := [] } Tryd.f57 = some sf_rspl := by kernel_rfl
set_option maxHeartbeats 1600000 in
theorem rspl_c (G : Glob) (n : Nat) (h0 : 2 ≤ n) (h : n ≤ 65536) : Den Tryd.prog G 57 [.int .i64 (n : Int)] (.w (.c (.d (.int .i64 ((splitN n : Nat) : Int))))) := by
  refine den_walk Tryd.func57 cf_rspl rfl rfl ?_
  simp only [sf_rspl, putAll, wx, wy, wz, stV, seval, IntWalk.iteOmega, IntWalk.toNatUp, reduceCtorEq]
  refine loop_st (spSt n) (fun j => n - 2 ^ j) (fun j => 2 ^ j < n) 0 (by simp; omega) ?_ ?_
  · refine ent_l (fun i => i) ?_ ?_ rfl rfl <;> simp only [wx, wex, wez, stV, seval, IntWalk.iteOmega, IntWalk.toNatUp, reduceCtorEq] <;> rfl
  · intro j hj
    have e : 2 ^ (j + 1) = 2 * 2 ^ j := by rw [Nat.pow_succ]; omega
    have hp := Nat.two_pow_pos j
    by_cases hlt : 2 ^ (j + 1) < n
    · have e2 : (2 * ((2 ^ j : Nat) : Int)) = ((2 ^ (j + 1) : Nat) : Int) := by omega
      simp only [lp_rspl_0, spSt, wx, wy, wz, stV, seval, IntWalk.iteOmega, IntWalk.toNatUp, reduceCtorEq, e2]
      refine lop_next (j + 1) (by omega) hlt (ent_l (fun i => i) ?_ ?_ rfl rfl) <;> simp only [wx, wex, wez, stV, seval, IntWalk.iteOmega, IntWalk.toNatUp, reduceCtorEq]
    · rw [split_eq hj (by omega)]
      simp only [lp_rspl_0, spSt, wx, wy, wz, stV, seval, IntWalk.iteOmega, IntWalk.toNatUp, reduceCtorEq]
      exact ret_d1 (by simp only [wx, wy, wz, stV, seval, IntWalk.iteOmega, IntWalk.toNatUp, reduceCtorEq])
def sf_rrof : SFn := ⟨1, 27,
  .seq (.reg [⟨(some 2), .mv (.k (.c .nil)), none⟩])
  (.seq (.seq (.reg [⟨(some 4), .mv (.t 0), none⟩,
    ⟨(some 5), .len (.t 4), none⟩,
    ⟨(some 6), .bin .eql (.t 5) (.k (.c (.d (.int .i64 0)))), none⟩])
  (.cond (.t 6) (.seq (.reg [⟨(some 7), .call 34 [(.k (.c .nil))] (some (0, 1)), none⟩,
     ⟨(some 2), .mv (.t 7), none⟩])
   (.ret))
   (.skip)))
  (.seq (.seq (.reg [⟨(some 8), .mv (.t 0), none⟩,
    ⟨(some 9), .len (.t 8), none⟩,
    ⟨(some 10), .bin .eql (.t 9) (.k (.c (.d (.int .i64 1)))), none⟩])
  (.cond (.t 10) (.seq (.reg [⟨(some 11), .mv (.t 0), none⟩,
     ⟨(some 12), .idxSl 1 (.t 11) (.k (.c (.d (.int .i64 0)))), none⟩,
     ⟨(some 13), .load .sc (.t 12), none⟩,
     ⟨(some 14), .call 21 [(.t 13)] (some (0, 1)), none⟩,
     ⟨(some 2), .mv (.t 14), none⟩])
   (.ret))
   (.skip)))
  (.seq (.reg [⟨(some 15), .mv (.t 0), none⟩,
    ⟨(some 16), .len (.t 15), none⟩,
    ⟨(some 17), .call 57 [(.t 16)] none, none⟩,
    ⟨(some 3), .mv (.t 17), none⟩])
  (.seq (.reg [⟨(some 18), .mv (.t 0), none⟩,
    ⟨(some 19), .mv (.t 3), none⟩,
    ⟨(some 20), .slice 1 (.t 18) none (some (.t 19)) none, none⟩,
    ⟨(some 21), .call 38 [(.t 20)] none, none⟩,
    ⟨(some 22), .mv (.t 0), none⟩,
    ⟨(some 23), .mv (.t 3), none⟩,
    ⟨(some 24), .slice 1 (.t 22) (some (.t 23)) none none, none⟩,
    ⟨(some 25), .call 38 [(.t 24)] none, none⟩,
    ⟨(some 26), .call 23 [(.t 21), (.t 25)] (some (0, 1)), none⟩,
    ⟨(some 2), .mv (.t 26), none⟩])
  (.ret))))),
  [(2, none)]⟩
theorem cf_rrof : compFn Tryd.prog { own := [7, 14, 26], comp := [], frz := [], nils := [] } Tryd.f38 = some sf_rrof := by kernel_rfl
set_option maxHeartbeats 1600000 in
theorem rrof_f (G : Glob) (hF : G.at 0 = some (.ra (firstK.map wD))) (hG : G.at 1 = some (.ra (constK.map wD))) : ∀ (n : Nat) (l : List (List UInt8)), l.length = n → n ≤ 65536 → (∀ x ∈ l, x.length ≤ 1000000000) → Den Tryd.prog G 38 [sls l] (.w (.c (.fr 1 ((rootM l).map bD)))) := by
  intro n
  induction n using Nat.strongRecOn with
  | _ n ih =>
    intro l hl hn hb
    subst hl
    refine den_walk Tryd.func38 cf_rrof rfl rfl ?_
    by_cases h0 : l.length = 0
    · rw [root_0 h0]
      simp only [sf_rrof, putAll, wx, wy, wz, stV, seval, IntWalk.iteOmega, IntWalk.toNatUp, reduceCtorEq, h0]
      refine st_call (rsumH G hF hG [] (by simp)) (by simp only [wx, wy, wz, stV, seval, IntWalk.iteOmega, IntWalk.toNatUp, reduceCtorEq]) (.inl rfl) ?_
      simp only [wx, wy, wz, stV, seval, IntWalk.iteOmega, IntWalk.toNatUp, reduceCtorEq]
      exact ret_f1 (by simp only [wx, wy, wz, stV, seval, IntWalk.iteOmega, IntWalk.toNatUp, reduceCtorEq])
    · by_cases h1 : l.length = 1
      · rw [root_1 h1]
        have g1 := getLs (l := l) (j := 0) (by omega)
        simp only [sf_rrof, putAll, wx, wy, wz, stV, seval, IntWalk.iteOmega, IntWalk.toNatUp, reduceCtorEq, h1, get_map, g1]
        refine st_call (rleaf_f G hF hG (l.getD 0 []) (hb _ (getLs_mem (by omega)))) rfl (.inl rfl) ?_
        simp only [wx, wy, wz, stV, seval, IntWalk.iteOmega, IntWalk.toNatUp, reduceCtorEq]
        exact ret_f1 (by simp only [wx, wy, wz, stV, seval, IntWalk.iteOmega, IntWalk.toNatUp, reduceCtorEq])
      · have h2 : 2 ≤ l.length := by omega
        have k1 := split_lt h2
        have k2 := split_pos l.length
        have a0 := rspl_c G l.length h2 hn
        have a1 := den_ro (ih _ k1 (l.take (splitN l.length)) (by rw [List.length_take]; omega) (by omega) (fun x hx => hb x (List.mem_of_mem_take hx)))
        have a2 := den_ro (ih (l.length - splitN l.length) (by omega) (l.drop (splitN l.length)) List.length_drop (by omega) (fun x hx => hb x (List.mem_of_mem_drop hx)))
        have a3 := rnode_f G hF hG (rootM (l.take (splitN l.length))) (rootM (l.drop (splitN l.length))) (by rw [rootM_len]; decide) (by rw [rootM_len]; decide)
        rw [← root_2 h2] at a3
        have hs := slice_lo l (k := splitN l.length) (by omega)
        simp only [sf_rrof, putAll, wx, wy, wz, stV, seval, IntWalk.iteOmega, IntWalk.toNatUp, reduceCtorEq]
        refine st_call (a0) rfl (.inl rfl) ?_
        simp only [allSz_ls, hs, wx, wy, wz, stV, seval, IntWalk.iteOmega, IntWalk.toNatUp, reduceCtorEq]
        refine st_call (a1) rfl (.inl rfl) ?_
        simp only [allSz_ls, hs, wx, wy, wz, stV, seval, IntWalk.iteOmega, IntWalk.toNatUp, reduceCtorEq]
        refine st_call (a2) rfl (.inl rfl) ?_
        simp only [wx, wy, wz, stV, seval, IntWalk.iteOmega, IntWalk.toNatUp, reduceCtorEq]
        refine st_call (a3) rfl (.inl rfl) ?_
        simp only [wx, wy, wz, stV, seval, IntWalk.iteOmega, IntWalk.toNatUp, reduceCtorEq]
        exact ret_f1 (by simp only [wx, wy, wz, stV, seval, IntWalk.iteOmega, IntWalk.toNatUp, reduceCtorEq])
theorem rrof_c (G : Glob) (hF : G.at 0 = some (.ra (firstK.map wD))) (hG : G.at 1 = some (.ra (constK.map wD))) (l : List (List UInt8)) (hn : l.length ≤ 65536) (hb : ∀ x ∈ l, x.length ≤ 1000000000) : Den Tryd.prog G 38 [sls l] (.w (.c (.d (.sl ((rootM l).map bD))))) := den_ro (rrof_f G hF hG l.length l rfl hn hb)
def sf_rpth : SFn := ⟨2, 39,
  .seq (.reg [⟨(some 4), .mv (.k (.c .nil)), none⟩])
  (.seq (.seq (.reg [⟨(some 6), .mv (.t 0), none⟩,
    ⟨(some 7), .len (.t 6), none⟩,
    ⟨(some 8), .bin .eql (.t 7) (.k (.c (.d (.int .i64 1)))), none⟩])
  (.cond (.t 8) (.seq (.reg [⟨(some 4), .mv (.k (.c .nil)), none⟩])
   (.ret))
   (.skip)))
  (.seq (.reg [⟨(some 9), .mv (.t 0), none⟩,
    ⟨(some 10), .len (.t 9), none⟩,
    ⟨(some 11), .call 57 [(.t 10)] none, none⟩,
    ⟨(some 5), .mv (.t 11), none⟩])
  (.seq (.seq (.reg [⟨(some 12), .mv (.t 1), none⟩,
    ⟨(some 13), .mv (.t 5), none⟩,
    ⟨(some 14), .bin .lss (.t 12) (.t 13), none⟩])
  (.cond (.t 14) (.seq (.reg [⟨(some 15), .mv (.t 0), none⟩,
     ⟨(some 16), .mv (.t 5), none⟩,
     ⟨(some 17), .slice 1 (.t 15) none (some (.t 16)) none, none⟩,
     ⟨(some 18), .mv (.t 1), none⟩,
     ⟨(some 19), .call 40 [(.t 17), (.t 18)] (some (0, 1)), none⟩,
     ⟨(some 20), .mv (.t 0), none⟩,
     ⟨(some 21), .mv (.t 5), none⟩,
     ⟨(some 22), .slice 1 (.t 20) (some (.t 21)) none none, none⟩,
     ⟨(some 23), .call 38 [(.t 22)] none, none⟩,
     ⟨(some 24), .bldSl false 1 1 (.sl []) [(0, (.t 23))], none⟩,
     ⟨(some 25), .app false 1 24 (.t 19) (.t 24), none⟩,
     ⟨(some 4), .mv (.t 25), none⟩])
   (.ret))
   (.skip)))
  (.seq (.reg [⟨(some 26), .mv (.t 0), none⟩,
    ⟨(some 27), .mv (.t 5), none⟩,
    ⟨(some 28), .slice 1 (.t 26) (some (.t 27)) none none, none⟩,
    ⟨(some 29), .mv (.t 1), none⟩,
    ⟨(some 30), .mv (.t 5), none⟩,
    ⟨(some 31), .bin .sub (.t 29) (.t 30), none⟩,
    ⟨(some 32), .call 40 [(.t 28), (.t 31)] (some (0, 1)), none⟩,
    ⟨(some 33), .mv (.t 0), none⟩,
    ⟨(some 34), .mv (.t 5), none⟩,
    ⟨(some 35), .slice 1 (.t 33) none (some (.t 34)) none, none⟩,
    ⟨(some 36), .call 38 [(.t 35)] none, none⟩,
    ⟨(some 37), .bldSl false 1 1 (.sl []) [(0, (.t 36))], none⟩,
    ⟨(some 38), .app false 1 24 (.t 32) (.t 37), none⟩,
    ⟨(some 4), .mv (.t 38), none⟩])
  (.ret))))),
  [(4, none)]⟩
theorem cf_rpth : compFn Tryd.prog { own := [19, 32], comp := [], frz := [], nils := [] } Tryd.f40 = some sf_rpth := by kernel_rfl
set_option maxHeartbeats 3200000 in
theorem rpth_f (G : Glob) (hF : G.at 0 = some (.ra (firstK.map wD))) (hG : G.at 1 = some (.ra (constK.map wD))) : ∀ (n : Nat) (l : List (List UInt8)) (i : Nat), l.length = n → n ≤ 65536 → i < n → (∀ x ∈ l, x.length ≤ 1000000000) → Den Tryd.prog G 40 [sls l, .int .i64 (i : Int)] (.w (.c (.fr 1 ((pathM l i).map fun l => D.sl (l.map bD))))) := by
  intro n
  induction n using Nat.strongRecOn with
  | _ n ih =>
    intro l i hl hn hi hb
    subst hl
    refine den_walk Tryd.func40 cf_rpth rfl rfl ?_
    by_cases h0 : l.length = 1
    · rw [path_1 (by omega)]
      simp only [sf_rpth, putAll, wx, wy, wz, stV, seval, IntWalk.iteOmega, IntWalk.toNatUp, reduceCtorEq, h0]
      exact ret_f1 (by simp only [wx, wy, wz, stV, seval, IntWalk.iteOmega, IntWalk.toNatUp, reduceCtorEq])
    · have h2 : 2 ≤ l.length := by omega
      have k1 := split_lt h2
      have k2 := split_pos l.length
      have a0 := rspl_c G l.length h2 hn
      have hs := slice_lo l (k := splitN l.length) (by omega)
      have l1 : (l.take (splitN l.length)).length = splitN l.length := by rw [List.length_take]; omega
      have l2 : (l.drop (splitN l.length)).length = l.length - splitN l.length := List.length_drop
      by_cases hk : i < splitN l.length
      · have a1 := ih _ k1 (l.take (splitN l.length)) i l1 (by omega) hk (fun x hx => hb x (List.mem_of_mem_take hx))
        have a2 := rrof_c G hF hG (l.drop (splitN l.length)) (by omega) (fun x hx => hb x (List.mem_of_mem_drop hx))
        have a3 := path_len _ (l.take (splitN l.length)) i l1 hk
        have a4 := depth_lev (splitN l.length) i
        have a5 : levN (splitN l.length) ≤ 65536 := Nat.le_trans (lev_le' _) (by omega)
        rw [path_lo h2 hk, List.map_append]
        simp only [sf_rpth, putAll, wx, wy, wz, stV, seval, IntWalk.iteOmega, IntWalk.toNatUp, reduceCtorEq]
        refine st_call (a0) rfl (.inl rfl) ?_
        simp only [allSz_ls, hs, wx, wy, wz, stV, seval, IntWalk.iteOmega, IntWalk.toNatUp, reduceCtorEq]
        refine st_call (a1) rfl (.inl rfl) ?_
        simp only [allSz_ls, hs, wx, wy, wz, stV, seval, IntWalk.iteOmega, IntWalk.toNatUp, reduceCtorEq]
        refine st_call (a2) rfl (.inl rfl) ?_
        simp only [srcV, wx, wy, wz, stV, seval, IntWalk.iteOmega, IntWalk.toNatUp, reduceCtorEq]
        exact ret_f1 (by simp only [wx, wy, wz, stV, seval, IntWalk.iteOmega, IntWalk.toNatUp, reduceCtorEq])
      · have a1 := ih (l.length - splitN l.length) (by omega) (l.drop (splitN l.length)) (i - splitN l.length) l2 (by omega) (by omega) (fun x hx => hb x (List.mem_of_mem_drop hx))
        have a2 := rrof_c G hF hG (l.take (splitN l.length)) (by omega) (fun x hx => hb x (List.mem_of_mem_take hx))
        have a3 := path_len _ (l.drop (splitN l.length)) (i - splitN l.length) l2 (by omega)
        have a4 := depth_lev (l.length - splitN l.length) (i - splitN l.length)
        have a5 : levN (l.length - splitN l.length) ≤ 65536 := Nat.le_trans (lev_le' _) (by omega)
        have e1 : ((i - splitN l.length : Nat) : Int) = (i : Int) - (splitN l.length : Nat) := by omega
        rw [e1] at a1
        rw [path_hi h2 hk, List.map_append]
        simp only [sf_rpth, putAll, wx, wy, wz, stV, seval, IntWalk.iteOmega, IntWalk.toNatUp, reduceCtorEq]
        refine st_call (a0) rfl (.inl rfl) ?_
        simp only [allSz_ls, hs, wx, wy, wz, stV, seval, IntWalk.iteOmega, IntWalk.toNatUp, reduceCtorEq]
        refine st_call (a1) rfl (.inl rfl) ?_
        simp only [allSz_ls, hs, wx, wy, wz, stV, seval, IntWalk.iteOmega, IntWalk.toNatUp, reduceCtorEq]
        refine st_call (a2) rfl (.inl rfl) ?_
        simp only [srcV, wx, wy, wz, stV, seval, IntWalk.iteOmega, IntWalk.toNatUp, reduceCtorEq]
        exact ret_f1 (by simp only [wx, wy, wz, stV, seval, IntWalk.iteOmega, IntWalk.toNatUp, reduceCtorEq])
def rclV (n i : Nat) (leaf : List UInt8) (p : List (List UInt8)) : List UInt8 := if depthM n i ≤ p.length then climbM n i leaf p else []
def rclU (n i : Nat) (p : List (List UInt8)) : Int := if depthM n i ≤ p.length then (depthM n i : Nat) else 0
theorem climbM_big {leaf : List UInt8} (n i : Nat) (p : List (List UInt8)) : (climbM n i leaf p).length ≤ 1000000000 := by
  rw [climb_cl]; exact clF_big (by rw [leafM_len]; decide) _ _ _
def sf_rcl : SFn := ⟨4, 81,
  .seq (.reg [⟨(some 8), .mv (.k (.c .nil)), none⟩,
    ⟨(some 9), .mv (.k (.c (.d (.int .i64 0)))), none⟩,
    ⟨(some 10), .mv (.k (.c (.d (.bool false)))), none⟩])
  (.seq (.seq (.reg [⟨(some 18), .mv (.t 0), none⟩,
    ⟨(some 19), .bin .eql (.t 18) (.k (.c (.d (.int .i64 1)))), none⟩])
  (.cond (.t 19) (.seq (.reg [⟨(some 20), .mv (.t 2), none⟩,
     ⟨(some 21), .call 21 [(.t 20)] none, none⟩,
     ⟨(some 8), .mv (.t 21), none⟩,
     ⟨(some 9), .mv (.k (.c (.d (.int .i64 0)))), none⟩,
     ⟨(some 10), .mv (.k (.c (.d (.bool true)))), none⟩])
   (.ret))
   (.skip)))
  (.seq (.reg [⟨(some 22), .mv (.t 0), none⟩,
    ⟨(some 23), .call 57 [(.t 22)] none, none⟩,
    ⟨(some 11), .mv (.t 23), none⟩])
  (.seq (.seq (.reg [⟨(some 24), .mv (.t 1), none⟩,
    ⟨(some 25), .mv (.t 11), none⟩,
    ⟨(some 26), .bin .lss (.t 24) (.t 25), none⟩])
  (.cond (.t 26) (.seq (.reg [⟨(some 28), .mv (.t 11), none⟩,
     ⟨(some 29), .mv (.t 1), none⟩,
     ⟨(some 30), .mv (.t 2), none⟩,
     ⟨(some 31), .mv (.t 3), none⟩,
     ⟨(some 32), .call 47 [(.t 28), (.t 29), (.t 30), (.t 31)] none, none⟩,
     ⟨(some 27), .mv (.t 32), none⟩,
     ⟨(some 33), .extract (.t 27) 0, none⟩,
     ⟨(some 34), .extract (.t 27) 1, none⟩,
     ⟨(some 35), .extract (.t 27) 2, none⟩,
     ⟨(some 12), .mv (.t 33), none⟩,
     ⟨(some 13), .mv (.t 34), none⟩,
     ⟨(some 14), .mv (.t 35), none⟩])
   (.seq (.seq (.reg [⟨(some 36), .mv (.t 14), none⟩,
     ⟨(some 37), .un .not (.t 36), none⟩,
     ⟨(some 38), .mv (.t 37), none⟩,
     ⟨(some 39), .mv (.t 13), (some (38, false))⟩,
     ⟨(some 40), .mv (.t 3), (some (38, false))⟩,
     ⟨(some 41), .len (.t 40), (some (38, false))⟩,
     ⟨(some 42), .bin .eql (.t 39) (.t 41), (some (38, false))⟩,
     ⟨(some 43), .pick (.t 38) (.k (.c (.d (.bool true)))) (.t 42), none⟩])
   (.cond (.t 43) (.seq (.reg [⟨(some 8), .mv (.k (.c .nil)), none⟩,
      ⟨(some 9), .mv (.k (.c (.d (.int .i64 0)))), none⟩,
      ⟨(some 10), .mv (.k (.c (.d (.bool false)))), none⟩])
    (.ret))
    (.skip)))
   (.seq (.reg [⟨(some 44), .mv (.t 12), none⟩,
     ⟨(some 45), .mv (.t 3), none⟩,
     ⟨(some 46), .mv (.t 13), none⟩,
     ⟨(some 47), .idxSl 1 (.t 45) (.t 46), none⟩,
     ⟨(some 48), .load .sc (.t 47), none⟩,
     ⟨(some 49), .call 23 [(.t 44), (.t 48)] none, none⟩,
     ⟨(some 50), .mv (.t 13), none⟩,
     ⟨(some 51), .bin .add (.t 50) (.k (.c (.d (.int .i64 1)))), none⟩,
     ⟨(some 8), .mv (.t 49), none⟩,
     ⟨(some 9), .mv (.t 51), none⟩,
     ⟨(some 10), .mv (.k (.c (.d (.bool true)))), none⟩])
   (.ret))))
   (.skip)))
  (.seq (.reg [⟨(some 53), .mv (.t 0), none⟩,
    ⟨(some 54), .mv (.t 11), none⟩,
    ⟨(some 55), .bin .sub (.t 53) (.t 54), none⟩,
    ⟨(some 56), .mv (.t 1), none⟩,
    ⟨(some 57), .mv (.t 11), none⟩,
    ⟨(some 58), .bin .sub (.t 56) (.t 57), none⟩,
    ⟨(some 59), .mv (.t 2), none⟩,
    ⟨(some 60), .mv (.t 3), none⟩,
    ⟨(some 61), .call 47 [(.t 55), (.t 58), (.t 59), (.t 60)] none, none⟩,
    ⟨(some 52), .mv (.t 61), none⟩,
    ⟨(some 62), .extract (.t 52) 0, none⟩,
    ⟨(some 63), .extract (.t 52) 1, none⟩,
    ⟨(some 64), .extract (.t 52) 2, none⟩,
    ⟨(some 15), .mv (.t 62), none⟩,
    ⟨(some 16), .mv (.t 63), none⟩,
    ⟨(some 17), .mv (.t 64), none⟩])
  (.seq (.seq (.reg [⟨(some 65), .mv (.t 17), none⟩,
    ⟨(some 66), .un .not (.t 65), none⟩,
    ⟨(some 67), .mv (.t 66), none⟩,
    ⟨(some 68), .mv (.t 16), (some (67, false))⟩,
    ⟨(some 69), .mv (.t 3), (some (67, false))⟩,
    ⟨(some 70), .len (.t 69), (some (67, false))⟩,
    ⟨(some 71), .bin .eql (.t 68) (.t 70), (some (67, false))⟩,
    ⟨(some 72), .pick (.t 67) (.k (.c (.d (.bool true)))) (.t 71), none⟩])
  (.cond (.t 72) (.seq (.reg [⟨(some 8), .mv (.k (.c .nil)), none⟩,
     ⟨(some 9), .mv (.k (.c (.d (.int .i64 0)))), none⟩,
     ⟨(some 10), .mv (.k (.c (.d (.bool false)))), none⟩])
   (.ret))
   (.skip)))
  (.seq (.reg [⟨(some 73), .mv (.t 3), none⟩,
    ⟨(some 74), .mv (.t 16), none⟩,
    ⟨(some 75), .idxSl 1 (.t 73) (.t 74), none⟩,
    ⟨(some 76), .load .sc (.t 75), none⟩,
    ⟨(some 77), .mv (.t 15), none⟩,
    ⟨(some 78), .call 23 [(.t 76), (.t 77)] none, none⟩,
    ⟨(some 79), .mv (.t 16), none⟩,
    ⟨(some 80), .bin .add (.t 79) (.k (.c (.d (.int .i64 1)))), none⟩,
    ⟨(some 8), .mv (.t 78), none⟩,
    ⟨(some 9), .mv (.t 80), none⟩,
    ⟨(some 10), .mv (.k (.c (.d (.bool true)))), none⟩])
  (.ret))))))),
  [(8, none), (9, none), (10, none)]⟩
theorem cf_rcl : compFn Tryd.prog { own := [], comp := [], frz := [], nils := [] } Tryd.f47 = some sf_rcl := by kernel_rfl
set_option maxHeartbeats 3200000 in
theorem rcl_c (G : Glob) (hF : G.at 0 = some (.ra (firstK.map wD))) (hG : G.at 1 = some (.ra (constK.map wD))) (leaf : List UInt8) (p : List (List UInt8)) (hf : leaf.length ≤ 1000000000) (hp : p.length ≤ 9223372036854775807) (hb : ∀ x ∈ p, x.length ≤ 1000000000) : ∀ (n i : Nat), n ≤ 65536 → i < n → Den Tryd.prog G 47 [.int .i64 (n : Int), .int .i64 (i : Int), .sl (leaf.map bD), sls p] (.tup [.c (.d (.sl ((rclV n i leaf p).map bD))), .c (.d (.int .i64 (rclU n i p))), .c (.d (.bool (decide (depthM n i ≤ p.length))))]) := by
  intro n
  induction n using Nat.strongRecOn with
  | _ n ih =>
    intro i hn hi
    refine den_walk Tryd.func47 cf_rcl rfl rfl ?_
    by_cases h0 : n = 1
    · subst h0
      have hd0 : depthM 1 i = 0 := depth_1 (by decide) i
      have hd : depthM 1 i ≤ p.length := by omega
      have hV : rclV 1 i leaf p = leafM leaf := by unfold rclV; rw [if_pos hd, climb_1 (by decide)]
      have hU : rclU 1 i p = 0 := by unfold rclU; rw [if_pos hd, hd0]; rfl
      rw [hV, hU, decide_eq_true hd]
      simp only [sf_rcl, putAll, wx, wy, wz, stV, seval, IntWalk.iteOmega, IntWalk.toNatUp, reduceCtorEq]
      refine st_call (rleaf_c G hF hG leaf hf) rfl (.inl rfl) ?_
      simp only [wx, wy, wz, stV, seval, IntWalk.iteOmega, IntWalk.toNatUp, reduceCtorEq]
      exact ret_d3 (by simp only [wx, wy, wz, stV, seval, IntWalk.iteOmega, IntWalk.toNatUp, reduceCtorEq]) (by simp only [wx, wy, wz, stV, seval, IntWalk.iteOmega, IntWalk.toNatUp, reduceCtorEq]) (by simp only [wx, wy, wz, stV, seval, IntWalk.iteOmega, IntWalk.toNatUp, reduceCtorEq])
    · have h2 : 2 ≤ n := by omega
      have k1 := split_lt h2
      have k2 := split_pos n
      have a0 := rspl_c G n h2 hn
      by_cases hk : i < splitN n
      · have a1 := ih _ k1 i (by omega) hk
        have hdd := depth_lo h2 hk
        have hdl := depth_lev n i
        by_cases hq : depthM n i ≤ p.length
        · have hq2 : depthM (splitN n) i ≤ p.length := by omega
          have hV : rclV n i leaf p = nodeM (climbM (splitN n) i leaf p) (p.getD (depthM (splitN n) i) []) := by unfold rclV; rw [if_pos hq, climb_lo h2 hk]
          have hU : rclU n i p = ((depthM (splitN n) i + 1 : Nat) : Int) := by unfold rclU; rw [if_pos hq, hdd]
          have hV2 : rclV (splitN n) i leaf p = climbM (splitN n) i leaf p := if_pos hq2
          have hU2 : rclU (splitN n) i p = (depthM (splitN n) i : Nat) := if_pos hq2
          rw [hV2, hU2, decide_eq_true hq2] at a1
          rw [hV, hU, decide_eq_true hq]
          have g1 := getLs (l := p) (j := depthM (splitN n) i) (by omega)
          have hx := hb _ (getLs_mem (l := p) (j := depthM (splitN n) i) (by omega))
          have a3 := rnode_c G hF hG (climbM (splitN n) i leaf p) (p.getD (depthM (splitN n) i) []) (climbM_big _ _ _) hx
          simp only [sf_rcl, putAll, wx, wy, wz, stV, seval, IntWalk.iteOmega, IntWalk.toNatUp, reduceCtorEq]
          refine st_call (a0) rfl (.inl rfl) ?_
          simp only [wx, wy, wz, stV, seval, IntWalk.iteOmega, IntWalk.toNatUp, reduceCtorEq]
          refine st_call (a1) rfl (.inl rfl) ?_
          simp only [get_map, g1, wx, wy, wz, stV, seval, IntWalk.iteOmega, IntWalk.toNatUp, reduceCtorEq]
          refine st_call (a3) rfl (.inl rfl) ?_
          simp only [wx, wy, wz, stV, seval, IntWalk.iteOmega, IntWalk.toNatUp, reduceCtorEq]
          exact ret_d3 (by simp only [wx, wy, wz, stV, seval, IntWalk.iteOmega, IntWalk.toNatUp, reduceCtorEq]) (by simp only [wx, wy, wz, stV, seval, IntWalk.iteOmega, IntWalk.toNatUp, reduceCtorEq]) (by simp only [wx, wy, wz, stV, seval, IntWalk.iteOmega, IntWalk.toNatUp, reduceCtorEq])
        · have hV : rclV n i leaf p = [] := if_neg hq
          have hU : rclU n i p = 0 := if_neg hq
          rw [hV, hU, decide_eq_false hq]
          by_cases hq2 : depthM (splitN n) i ≤ p.length
          · have hU2 : rclU (splitN n) i p = (depthM (splitN n) i : Nat) := if_pos hq2
            have e5 : depthM (splitN n) i = p.length := by omega
            rw [hU2, decide_eq_true hq2] at a1
            simp only [sf_rcl, putAll, wx, wy, wz, stV, seval, IntWalk.iteOmega, IntWalk.toNatUp, reduceCtorEq]
            refine st_call (a0) rfl (.inl rfl) ?_
            simp only [wx, wy, wz, stV, seval, IntWalk.iteOmega, IntWalk.toNatUp, reduceCtorEq]
            refine st_call (a1) rfl (.inl rfl) ?_
            simp only [e5, wx, wy, wz, stV, seval, IntWalk.iteOmega, IntWalk.toNatUp, reduceCtorEq]
            exact ret_d3 (by simp only [wx, wy, wz, stV, seval, IntWalk.iteOmega, IntWalk.toNatUp, reduceCtorEq]) (by simp only [wx, wy, wz, stV, seval, IntWalk.iteOmega, IntWalk.toNatUp, reduceCtorEq]) (by simp only [wx, wy, wz, stV, seval, IntWalk.iteOmega, IntWalk.toNatUp, reduceCtorEq])
          · rw [decide_eq_false hq2] at a1
            simp only [sf_rcl, putAll, wx, wy, wz, stV, seval, IntWalk.iteOmega, IntWalk.toNatUp, reduceCtorEq]
            refine st_call (a0) rfl (.inl rfl) ?_
            simp only [wx, wy, wz, stV, seval, IntWalk.iteOmega, IntWalk.toNatUp, reduceCtorEq]
            refine st_call (a1) rfl (.inl rfl) ?_
            simp only [wx, wy, wz, stV, seval, IntWalk.iteOmega, IntWalk.toNatUp, reduceCtorEq]
            exact ret_d3 (by simp only [wx, wy, wz, stV, seval, IntWalk.iteOmega, IntWalk.toNatUp, reduceCtorEq]) (by simp only [wx, wy, wz, stV, seval, IntWalk.iteOmega, IntWalk.toNatUp, reduceCtorEq]) (by simp only [wx, wy, wz, stV, seval, IntWalk.iteOmega, IntWalk.toNatUp, reduceCtorEq])
      · have a1 := ih (n - splitN n) (by omega) (i - splitN n) (by omega) (by omega)
        have e1 : ((i - splitN n : Nat) : Int) = (i : Int) - (splitN n : Nat) := by omega
        have e2 : ((n - splitN n : Nat) : Int) = (n : Int) - (splitN n : Nat) := by omega
        rw [e1, e2] at a1
        have hdd := depth_hi h2 hk
        have hdl := depth_lev n i
        by_cases hq : depthM n i ≤ p.length
        · have hq2 : depthM (n - splitN n) (i - splitN n) ≤ p.length := by omega
          have hV : rclV n i leaf p = nodeM (p.getD (depthM (n - splitN n) (i - splitN n)) []) (climbM (n - splitN n) (i - splitN n) leaf p) := by unfold rclV; rw [if_pos hq, climb_hi h2 hk]
          have hU : rclU n i p = ((depthM (n - splitN n) (i - splitN n) + 1 : Nat) : Int) := by unfold rclU; rw [if_pos hq, hdd]
          have hV2 : rclV (n - splitN n) (i - splitN n) leaf p = climbM (n - splitN n) (i - splitN n) leaf p := if_pos hq2
          have hU2 : rclU (n - splitN n) (i - splitN n) p = (depthM (n - splitN n) (i - splitN n) : Nat) := if_pos hq2
          rw [hV2, hU2, decide_eq_true hq2] at a1
          rw [hV, hU, decide_eq_true hq]
          have g1 := getLs (l := p) (j := depthM (n - splitN n) (i - splitN n)) (by omega)
          have hx := hb _ (getLs_mem (l := p) (j := depthM (n - splitN n) (i - splitN n)) (by omega))
          have a3 := rnode_c G hF hG (p.getD (depthM (n - splitN n) (i - splitN n)) []) (climbM (n - splitN n) (i - splitN n) leaf p) hx (climbM_big _ _ _)
          simp only [sf_rcl, putAll, wx, wy, wz, stV, seval, IntWalk.iteOmega, IntWalk.toNatUp, reduceCtorEq]
          refine st_call (a0) rfl (.inl rfl) ?_
          simp only [wx, wy, wz, stV, seval, IntWalk.iteOmega, IntWalk.toNatUp, reduceCtorEq]
          refine st_call (a1) rfl (.inl rfl) ?_
          simp only [get_map, g1, wx, wy, wz, stV, seval, IntWalk.iteOmega, IntWalk.toNatUp, reduceCtorEq]
          refine st_call (a3) rfl (.inl rfl) ?_
          simp only [wx, wy, wz, stV, seval, IntWalk.iteOmega, IntWalk.toNatUp, reduceCtorEq]
          exact ret_d3 (by simp only [wx, wy, wz, stV, seval, IntWalk.iteOmega, IntWalk.toNatUp, reduceCtorEq]) (by simp only [wx, wy, wz, stV, seval, IntWalk.iteOmega, IntWalk.toNatUp, reduceCtorEq]) (by simp only [wx, wy, wz, stV, seval, IntWalk.iteOmega, IntWalk.toNatUp, reduceCtorEq])
        · have hV : rclV n i leaf p = [] := if_neg hq
          have hU : rclU n i p = 0 := if_neg hq
          rw [hV, hU, decide_eq_false hq]
          by_cases hq2 : depthM (n - splitN n) (i - splitN n) ≤ p.length
          · have hU2 : rclU (n - splitN n) (i - splitN n) p = (depthM (n - splitN n) (i - splitN n) : Nat) := if_pos hq2
            have e5 : depthM (n - splitN n) (i - splitN n) = p.length := by omega
            rw [hU2, decide_eq_true hq2] at a1
            simp only [sf_rcl, putAll, wx, wy, wz, stV, seval, IntWalk.iteOmega, IntWalk.toNatUp, reduceCtorEq]
            refine st_call (a0) rfl (.inl rfl) ?_
            simp only [wx, wy, wz, stV, seval, IntWalk.iteOmega, IntWalk.toNatUp, reduceCtorEq]
            refine st_call (a1) rfl (.inl rfl) ?_
            simp only [e5, wx, wy, wz, stV, seval, IntWalk.iteOmega, IntWalk.toNatUp, reduceCtorEq]
            exact ret_d3 (by simp only [wx, wy, wz, stV, seval, IntWalk.iteOmega, IntWalk.toNatUp, reduceCtorEq]) (by simp only [wx, wy, wz, stV, seval, IntWalk.iteOmega, IntWalk.toNatUp, reduceCtorEq]) (by simp only [wx, wy, wz, stV, seval, IntWalk.iteOmega, IntWalk.toNatUp, reduceCtorEq])
          · rw [decide_eq_false hq2] at a1
            simp only [sf_rcl, putAll, wx, wy, wz, stV, seval, IntWalk.iteOmega, IntWalk.toNatUp, reduceCtorEq]
            refine st_call (a0) rfl (.inl rfl) ?_
            simp only [wx, wy, wz, stV, seval, IntWalk.iteOmega, IntWalk.toNatUp, reduceCtorEq]
            refine st_call (a1) rfl (.inl rfl) ?_
            simp only [wx, wy, wz, stV, seval, IntWalk.iteOmega, IntWalk.toNatUp, reduceCtorEq]
            exact ret_d3 (by simp only [wx, wy, wz, stV, seval, IntWalk.iteOmega, IntWalk.toNatUp, reduceCtorEq]) (by simp only [wx, wy, wz, stV, seval, IntWalk.iteOmega, IntWalk.toNatUp, reduceCtorEq]) (by simp only [wx, wy, wz, stV, seval, IntWalk.iteOmega, IntWalk.toNatUp, reduceCtorEq])
def sf_rprf : SFn := ⟨3, 48,
  .seq (.reg [⟨(some 6), .mv (.k (.c .nil)), none⟩])
  (.seq (.reg [⟨(some 9), .mv (.t 1), none⟩,
    ⟨(some 10), .len (.t 9), none⟩,
    ⟨(some 7), .mv (.t 10), none⟩])
  (.seq (.seq (.reg [⟨(some 11), .mv (.t 0), none⟩,
    ⟨(some 12), .mv (.t 7), none⟩,
    ⟨(some 13), .bin .eql (.t 11) (.t 12), none⟩])
  (.cond (.t 13) (.seq (.seq (.reg [⟨(some 14), .mv (.t 2), none⟩])
   (.cond (.t 14) (.seq (.reg [⟨(some 6), .mv (.k (.c .nil)), none⟩])
    (.ret))
    (.skip)))
   (.seq (.reg [⟨(some 15), .mv (.t 1), none⟩,
     ⟨(some 16), .call 38 [(.t 15)] none, none⟩,
     ⟨(some 17), .bldSl true 1 1 (.sl []) [(0, (.t 16))], none⟩,
     ⟨(some 6), .mv (.t 17), none⟩])
   (.ret)))
   (.skip)))
  (.seq (.reg [⟨(some 18), .mv (.t 7), none⟩,
    ⟨(some 19), .call 57 [(.t 18)] none, none⟩,
    ⟨(some 8), .mv (.t 19), none⟩])
  (.seq (.seq (.reg [⟨(some 20), .mv (.t 0), none⟩,
    ⟨(some 21), .mv (.t 8), none⟩,
    ⟨(some 22), .bin .leq (.t 20) (.t 21), none⟩])
  (.cond (.t 22) (.seq (.reg [⟨(some 23), .mv (.t 0), none⟩,
     ⟨(some 24), .mv (.t 1), none⟩,
     ⟨(some 25), .mv (.t 8), none⟩,
     ⟨(some 26), .slice 1 (.t 24) none (some (.t 25)) none, none⟩,
     ⟨(some 27), .mv (.t 2), none⟩,
     ⟨(some 28), .call 43 [(.t 23), (.t 26), (.t 27)] (some (0, 1)), none⟩,
     ⟨(some 29), .mv (.t 1), none⟩,
     ⟨(some 30), .mv (.t 8), none⟩,
     ⟨(some 31), .slice 1 (.t 29) (some (.t 30)) none none, none⟩,
     ⟨(some 32), .call 38 [(.t 31)] none, none⟩,
     ⟨(some 33), .bldSl false 1 1 (.sl []) [(0, (.t 32))], none⟩,
     ⟨(some 34), .app false 1 24 (.t 28) (.t 33), none⟩,
     ⟨(some 6), .mv (.t 34), none⟩])
   (.ret))
   (.skip)))
  (.seq (.reg [⟨(some 35), .mv (.t 0), none⟩,
    ⟨(some 36), .mv (.t 8), none⟩,
    ⟨(some 37), .bin .sub (.t 35) (.t 36), none⟩,
    ⟨(some 38), .mv (.t 1), none⟩,
    ⟨(some 39), .mv (.t 8), none⟩,
    ⟨(some 40), .slice 1 (.t 38) (some (.t 39)) none none, none⟩,
    ⟨(some 41), .call 43 [(.t 37), (.t 40), (.k (.c (.d (.bool false))))] (some (0, 1)), none⟩,
    ⟨(some 42), .mv (.t 1), none⟩,
    ⟨(some 43), .mv (.t 8), none⟩,
    ⟨(some 44), .slice 1 (.t 42) none (some (.t 43)) none, none⟩,
    ⟨(some 45), .call 38 [(.t 44)] none, none⟩,
    ⟨(some 46), .bldSl false 1 1 (.sl []) [(0, (.t 45))], none⟩,
    ⟨(some 47), .app false 1 24 (.t 41) (.t 46), none⟩,
    ⟨(some 6), .mv (.t 47), none⟩])
  (.ret)))))),
  [(6, none)]⟩
theorem cf_rprf : compFn Tryd.prog { own := [17, 28, 41], comp := [], frz := [], nils := [] } Tryd.f43 = some sf_rprf := by kernel_rfl
set_option maxHeartbeats 3200000 in
theorem rprf_f (G : Glob) (hF : G.at 0 = some (.ra (firstK.map wD))) (hG : G.at 1 = some (.ra (constK.map wD))) : ∀ (n : Nat) (l : List (List UInt8)) (m : Nat) (whole : Bool), l.length = n → n ≤ 65536 → 1 ≤ m → m ≤ n → (∀ x ∈ l, x.length ≤ 1000000000) → Den Tryd.prog G 43 [.int .i64 (m : Int), sls l, .bool whole] (.w (.c (.fr 1 ((proofM m l whole).map fun l => D.sl (l.map bD))))) := by
  intro n
  induction n using Nat.strongRecOn with
  | _ n ih =>
    intro l m whole hl hn h0 h hb
    subst hl
    refine den_walk Tryd.func43 cf_rprf rfl rfl ?_
    by_cases hm : m = l.length
    · rw [proof_all hm]
      cases whole
      · simp only [sf_rprf, putAll, wx, wy, wz, stV, seval, IntWalk.iteOmega, IntWalk.toNatUp, reduceCtorEq]
        refine st_call (rrof_c G hF hG l hn hb) rfl (.inl rfl) ?_
        simp only [wx, wy, wz, stV, seval, IntWalk.iteOmega, IntWalk.toNatUp, reduceCtorEq]
        exact ret_f1 (by simp only [wx, wy, wz, stV, seval, IntWalk.iteOmega, IntWalk.toNatUp, reduceCtorEq])
      · simp only [sf_rprf, putAll, wx, wy, wz, stV, seval, IntWalk.iteOmega, IntWalk.toNatUp, reduceCtorEq]
        exact ret_f1 (by simp only [wx, wy, wz, stV, seval, IntWalk.iteOmega, IntWalk.toNatUp, reduceCtorEq])
    · have h2 : 2 ≤ l.length := by omega
      have k1 := split_lt h2
      have k2 := split_pos l.length
      have a0 := rspl_c G l.length h2 hn
      have hs := slice_lo l (k := splitN l.length) (by omega)
      have l1 : (l.take (splitN l.length)).length = splitN l.length := by rw [List.length_take]; omega
      have l2 : (l.drop (splitN l.length)).length = l.length - splitN l.length := List.length_drop
      by_cases hk : m ≤ splitN l.length
      · have a1 := ih _ k1 (l.take (splitN l.length)) m whole l1 (by omega) h0 hk (fun x hx => hb x (List.mem_of_mem_take hx))
        have a2 := rrof_c G hF hG (l.drop (splitN l.length)) (by omega) (fun x hx => hb x (List.mem_of_mem_drop hx))
        have a3 := proof_len _ (l.take (splitN l.length)) m whole l1 h0 hk
        have a4 := plen_le (splitN l.length) m whole h0 hk
        rw [proof_lo h0 (by omega) hk, List.map_append]
        simp only [sf_rprf, putAll, wx, wy, wz, stV, seval, IntWalk.iteOmega, IntWalk.toNatUp, reduceCtorEq]
        refine st_call (a0) rfl (.inl rfl) ?_
        simp only [allSz_ls, hs, wx, wy, wz, stV, seval, IntWalk.iteOmega, IntWalk.toNatUp, reduceCtorEq]
        refine st_call (a1) rfl (.inl rfl) ?_
        simp only [allSz_ls, hs, wx, wy, wz, stV, seval, IntWalk.iteOmega, IntWalk.toNatUp, reduceCtorEq]
        refine st_call (a2) rfl (.inl rfl) ?_
        simp only [srcV, wx, wy, wz, stV, seval, IntWalk.iteOmega, IntWalk.toNatUp, reduceCtorEq]
        exact ret_f1 (by simp only [wx, wy, wz, stV, seval, IntWalk.iteOmega, IntWalk.toNatUp, reduceCtorEq])
      · have a1 := ih (l.length - splitN l.length) (by omega) (l.drop (splitN l.length)) (m - splitN l.length) false l2 (by omega) (by omega) (by omega) (fun x hx => hb x (List.mem_of_mem_drop hx))
        have a2 := rrof_c G hF hG (l.take (splitN l.length)) (by omega) (fun x hx => hb x (List.mem_of_mem_take hx))
        have a3 := proof_len _ (l.drop (splitN l.length)) (m - splitN l.length) false l2 (by omega) (by omega)
        have a4 := plen_le (l.length - splitN l.length) (m - splitN l.length) false (by omega) (by omega)
        have e1 : ((m - splitN l.length : Nat) : Int) = (m : Int) - (splitN l.length : Nat) := by omega
        rw [e1] at a1
        rw [proof_hi h0 (by omega) hk, List.map_append]
        simp only [sf_rprf, putAll, wx, wy, wz, stV, seval, IntWalk.iteOmega, IntWalk.toNatUp, reduceCtorEq]
        refine st_call (a0) rfl (.inl rfl) ?_
        simp only [allSz_ls, hs, wx, wy, wz, stV, seval, IntWalk.iteOmega, IntWalk.toNatUp, reduceCtorEq]
        refine st_call (a1) rfl (.inl rfl) ?_
        simp only [allSz_ls, hs, wx, wy, wz, stV, seval, IntWalk.iteOmega, IntWalk.toNatUp, reduceCtorEq]
        refine st_call (a2) rfl (.inl rfl) ?_
        simp only [srcV, wx, wy, wz, stV, seval, IntWalk.iteOmega, IntWalk.toNatUp, reduceCtorEq]
        exact ret_f1 (by simp only [wx, wy, wz, stV, seval, IntWalk.iteOmega, IntWalk.toNatUp, reduceCtorEq])
def rgrV (m n : Nat) (whole : Bool) (old : List UInt8) (p : List (List UInt8)) : List UInt8 × List UInt8 := if plenM m n whole ≤ p.length then grownM m n whole old p else ([], [])
def rgrU (m n : Nat) (whole : Bool) (p : List (List UInt8)) : Int := if plenM m n whole ≤ p.length then (plenM m n whole : Nat) else 0
theorem grown_big {old : List UInt8} {p : List (List UInt8)} (ho : old.length ≤ 1000000000) (hb : ∀ x ∈ p, x.length ≤ 1000000000) : ∀ (n m : Nat) (whole : Bool), 1 ≤ m → m ≤ n → plenM m n whole ≤ p.length → (grownM m n whole old p).1.length ≤ 1000000000 ∧ (grownM m n whole old p).2.length ≤ 1000000000 := by
  intro n
  induction n using Nat.strongRecOn with
  | _ n ih =>
    intro m whole h0 h hq
    by_cases hm : m = n
    · rw [plen_all hm] at hq
      rw [grown_all hm]
      cases whole
      · simp only [Bool.false_eq_true, if_false] at hq ⊢
        have := hb _ (getLs_mem (l := p) (j := 0) (by omega))
        exact ⟨this, this⟩
      · exact ⟨ho, ho⟩
    · have h1 := split_pos n
      have h2 := split_lt (n := n) (by omega)
      by_cases hk : m ≤ splitN n
      · rw [plen_lo h0 (by omega) hk] at hq
        rw [grown_lo h0 (by omega) hk]
        exact ⟨(ih _ h2 m whole h0 hk (by omega)).1, by rw [nodeM_len]; decide⟩
      · rw [grown_hi h0 (by omega) hk]
        exact ⟨by rw [nodeM_len]; decide, by rw [nodeM_len]; decide⟩
theorem ret_d4 {σ : St} {p q r s : Nat × Option Kd} {x y z t : D} (h1 : (resW σ p).bind (toW σ.h) = some x) (h2 : (resW σ q).bind (toW σ.h) = some y) (h3 : (resW σ r).bind (toW σ.h) = some z) (h4 : (resW σ s).bind (toW σ.h) = some t) : RetOk σ [p, q, r, s] (.tup [.c (.d x), .c (.d y), .c (.d z), .c (.d t)]) := by
  obtain ⟨w1, e1, f1⟩ := Option.bind_eq_some_iff.1 h1
  obtain ⟨w2, e2, f2⟩ := Option.bind_eq_some_iff.1 h2
  obtain ⟨w3, e3, f3⟩ := Option.bind_eq_some_iff.1 h3
  obtain ⟨w4, e4, f4⟩ := Option.bind_eq_some_iff.1 h4
  exact ⟨[w1, w2, w3, w4], by simp [allSome, e1, e2, e3, e4], .inr (.cons ⟨_, rfl, f1⟩ (.cons ⟨_, rfl, f2⟩ (.cons ⟨_, rfl, f3⟩ (.cons ⟨_, rfl, f4⟩ .nil))))⟩
def sf_rgr : SFn := ⟨5, 107,
  .seq (.reg [⟨(some 10), .mv (.k (.c .nil)), none⟩,
    ⟨(some 11), .mv (.k (.c .nil)), none⟩,
    ⟨(some 12), .mv (.k (.c (.d (.int .i64 0)))), none⟩,
    ⟨(some 13), .mv (.k (.c (.d (.bool false)))), none⟩])
  (.seq (.seq (.reg [⟨(some 23), .mv (.t 0), none⟩,
    ⟨(some 24), .mv (.t 1), none⟩,
    ⟨(some 25), .bin .eql (.t 23) (.t 24), none⟩])
  (.cond (.t 25) (.seq (.seq (.reg [⟨(some 26), .mv (.t 2), none⟩])
   (.cond (.t 26) (.seq (.reg [⟨(some 27), .mv (.t 3), none⟩,
      ⟨(some 28), .mv (.t 3), none⟩,
      ⟨(some 10), .mv (.t 27), none⟩,
      ⟨(some 11), .mv (.t 28), none⟩,
      ⟨(some 12), .mv (.k (.c (.d (.int .i64 0)))), none⟩,
      ⟨(some 13), .mv (.k (.c (.d (.bool true)))), none⟩])
    (.ret))
    (.skip)))
   (.seq (.seq (.reg [⟨(some 29), .mv (.t 4), none⟩,
     ⟨(some 30), .len (.t 29), none⟩,
     ⟨(some 31), .bin .eql (.t 30) (.k (.c (.d (.int .i64 0)))), none⟩])
   (.cond (.t 31) (.seq (.reg [⟨(some 10), .mv (.k (.c .nil)), none⟩,
      ⟨(some 11), .mv (.k (.c .nil)), none⟩,
      ⟨(some 12), .mv (.k (.c (.d (.int .i64 0)))), none⟩,
      ⟨(some 13), .mv (.k (.c (.d (.bool false)))), none⟩])
    (.ret))
    (.skip)))
   (.seq (.reg [⟨(some 32), .mv (.t 4), none⟩,
     ⟨(some 33), .idxSl 1 (.t 32) (.k (.c (.d (.int .i64 0)))), none⟩,
     ⟨(some 34), .load .sc (.t 33), none⟩,
     ⟨(some 35), .mv (.t 4), none⟩,
     ⟨(some 36), .idxSl 1 (.t 35) (.k (.c (.d (.int .i64 0)))), none⟩,
     ⟨(some 37), .load .sc (.t 36), none⟩,
     ⟨(some 10), .mv (.t 34), none⟩,
     ⟨(some 11), .mv (.t 37), none⟩,
     ⟨(some 12), .mv (.k (.c (.d (.int .i64 1)))), none⟩,
     ⟨(some 13), .mv (.k (.c (.d (.bool true)))), none⟩])
   (.ret))))
   (.skip)))
  (.seq (.reg [⟨(some 38), .mv (.t 1), none⟩,
    ⟨(some 39), .call 57 [(.t 38)] none, none⟩,
    ⟨(some 14), .mv (.t 39), none⟩])
  (.seq (.seq (.reg [⟨(some 40), .mv (.t 0), none⟩,
    ⟨(some 41), .mv (.t 14), none⟩,
    ⟨(some 42), .bin .leq (.t 40) (.t 41), none⟩])
  (.cond (.t 42) (.seq (.reg [⟨(some 44), .mv (.t 0), none⟩,
     ⟨(some 45), .mv (.t 14), none⟩,
     ⟨(some 46), .mv (.t 2), none⟩,
     ⟨(some 47), .mv (.t 3), none⟩,
     ⟨(some 48), .mv (.t 4), none⟩,
     ⟨(some 49), .call 50 [(.t 44), (.t 45), (.t 46), (.t 47), (.t 48)] none, none⟩,
     ⟨(some 43), .mv (.t 49), none⟩,
     ⟨(some 50), .extract (.t 43) 0, none⟩,
     ⟨(some 51), .extract (.t 43) 1, none⟩,
     ⟨(some 52), .extract (.t 43) 2, none⟩,
     ⟨(some 53), .extract (.t 43) 3, none⟩,
     ⟨(some 15), .mv (.t 50), none⟩,
     ⟨(some 16), .mv (.t 51), none⟩,
     ⟨(some 17), .mv (.t 52), none⟩,
     ⟨(some 18), .mv (.t 53), none⟩])
   (.seq (.seq (.reg [⟨(some 54), .mv (.t 18), none⟩,
     ⟨(some 55), .un .not (.t 54), none⟩,
     ⟨(some 56), .mv (.t 55), none⟩,
     ⟨(some 57), .mv (.t 17), (some (56, false))⟩,
     ⟨(some 58), .mv (.t 4), (some (56, false))⟩,
     ⟨(some 59), .len (.t 58), (some (56, false))⟩,
     ⟨(some 60), .bin .eql (.t 57) (.t 59), (some (56, false))⟩,
     ⟨(some 61), .pick (.t 56) (.k (.c (.d (.bool true)))) (.t 60), none⟩])
   (.cond (.t 61) (.seq (.reg [⟨(some 10), .mv (.k (.c .nil)), none⟩,
      ⟨(some 11), .mv (.k (.c .nil)), none⟩,
      ⟨(some 12), .mv (.k (.c (.d (.int .i64 0)))), none⟩,
      ⟨(some 13), .mv (.k (.c (.d (.bool false)))), none⟩])
    (.ret))
    (.skip)))
   (.seq (.reg [⟨(some 62), .mv (.t 15), none⟩,
     ⟨(some 63), .mv (.t 16), none⟩,
     ⟨(some 64), .mv (.t 4), none⟩,
     ⟨(some 65), .mv (.t 17), none⟩,
     ⟨(some 66), .idxSl 1 (.t 64) (.t 65), none⟩,
     ⟨(some 67), .load .sc (.t 66), none⟩,
     ⟨(some 68), .call 23 [(.t 63), (.t 67)] none, none⟩,
     ⟨(some 69), .mv (.t 17), none⟩,
     ⟨(some 70), .bin .add (.t 69) (.k (.c (.d (.int .i64 1)))), none⟩,
     ⟨(some 10), .mv (.t 62), none⟩,
     ⟨(some 11), .mv (.t 68), none⟩,
     ⟨(some 12), .mv (.t 70), none⟩,
     ⟨(some 13), .mv (.k (.c (.d (.bool true)))), none⟩])
   (.ret))))
   (.skip)))
  (.seq (.reg [⟨(some 72), .mv (.t 0), none⟩,
    ⟨(some 73), .mv (.t 14), none⟩,
    ⟨(some 74), .bin .sub (.t 72) (.t 73), none⟩,
    ⟨(some 75), .mv (.t 1), none⟩,
    ⟨(some 76), .mv (.t 14), none⟩,
    ⟨(some 77), .bin .sub (.t 75) (.t 76), none⟩,
    ⟨(some 78), .mv (.t 3), none⟩,
    ⟨(some 79), .mv (.t 4), none⟩,
    ⟨(some 80), .call 50 [(.t 74), (.t 77), (.k (.c (.d (.bool false)))), (.t 78), (.t 79)] none, none⟩,
    ⟨(some 71), .mv (.t 80), none⟩,
    ⟨(some 81), .extract (.t 71) 0, none⟩,
    ⟨(some 82), .extract (.t 71) 1, none⟩,
    ⟨(some 83), .extract (.t 71) 2, none⟩,
    ⟨(some 84), .extract (.t 71) 3, none⟩,
    ⟨(some 19), .mv (.t 81), none⟩,
    ⟨(some 20), .mv (.t 82), none⟩,
    ⟨(some 21), .mv (.t 83), none⟩,
    ⟨(some 22), .mv (.t 84), none⟩])
  (.seq (.seq (.reg [⟨(some 85), .mv (.t 22), none⟩,
    ⟨(some 86), .un .not (.t 85), none⟩,
    ⟨(some 87), .mv (.t 86), none⟩,
    ⟨(some 88), .mv (.t 21), (some (87, false))⟩,
    ⟨(some 89), .mv (.t 4), (some (87, false))⟩,
    ⟨(some 90), .len (.t 89), (some (87, false))⟩,
    ⟨(some 91), .bin .eql (.t 88) (.t 90), (some (87, false))⟩,
    ⟨(some 92), .pick (.t 87) (.k (.c (.d (.bool true)))) (.t 91), none⟩])
  (.cond (.t 92) (.seq (.reg [⟨(some 10), .mv (.k (.c .nil)), none⟩,
     ⟨(some 11), .mv (.k (.c .nil)), none⟩,
     ⟨(some 12), .mv (.k (.c (.d (.int .i64 0)))), none⟩,
     ⟨(some 13), .mv (.k (.c (.d (.bool false)))), none⟩])
   (.ret))
   (.skip)))
  (.seq (.reg [⟨(some 93), .mv (.t 4), none⟩,
    ⟨(some 94), .mv (.t 21), none⟩,
    ⟨(some 95), .idxSl 1 (.t 93) (.t 94), none⟩,
    ⟨(some 96), .load .sc (.t 95), none⟩,
    ⟨(some 97), .mv (.t 19), none⟩,
    ⟨(some 98), .call 23 [(.t 96), (.t 97)] none, none⟩,
    ⟨(some 99), .mv (.t 4), none⟩,
    ⟨(some 100), .mv (.t 21), none⟩,
    ⟨(some 101), .idxSl 1 (.t 99) (.t 100), none⟩,
    ⟨(some 102), .load .sc (.t 101), none⟩,
    ⟨(some 103), .mv (.t 20), none⟩,
    ⟨(some 104), .call 23 [(.t 102), (.t 103)] none, none⟩,
    ⟨(some 105), .mv (.t 21), none⟩,
    ⟨(some 106), .bin .add (.t 105) (.k (.c (.d (.int .i64 1)))), none⟩,
    ⟨(some 10), .mv (.t 98), none⟩,
    ⟨(some 11), .mv (.t 104), none⟩,
    ⟨(some 12), .mv (.t 106), none⟩,
    ⟨(some 13), .mv (.k (.c (.d (.bool true)))), none⟩])
  (.ret))))))),
  [(10, none), (11, none), (12, none), (13, none)]⟩
theorem cf_rgr : compFn Tryd.prog { own := [], comp := [], frz := [], nils := [] } Tryd.f50 = some sf_rgr := by kernel_rfl
set_option maxHeartbeats 3200000 in
theorem rgr_c (G : Glob) (hF : G.at 0 = some (.ra (firstK.map wD))) (hG : G.at 1 = some (.ra (constK.map wD))) (old : List UInt8) (p : List (List UInt8)) (hf : old.length ≤ 1000000000) (hp : p.length ≤ 9223372036854775807) (hb : ∀ x ∈ p, x.length ≤ 1000000000) : ∀ (n m : Nat) (whole : Bool), n ≤ 65536 → 1 ≤ m → m ≤ n → Den Tryd.prog G 50 [.int .i64 (m : Int), .int .i64 (n : Int), .bool whole, .sl (old.map bD), sls p] (.tup [.c (.d (.sl (((rgrV m n whole old p).1).map bD))), .c (.d (.sl (((rgrV m n whole old p).2).map bD))), .c (.d (.int .i64 (rgrU m n whole p))), .c (.d (.bool (decide (plenM m n whole ≤ p.length))))]) := by
  intro n
  induction n using Nat.strongRecOn with
  | _ n ih =>
    intro m whole hn h0 h
    refine den_walk Tryd.func50 cf_rgr rfl rfl ?_
    by_cases hm : m = n
    · subst hm
      unfold rgrV rgrU
      rw [plen_all rfl, grown_all rfl]
      cases whole
      · simp only [Bool.false_eq_true, if_false]
        by_cases hq : 1 ≤ p.length
        · rw [if_pos hq, if_pos hq, decide_eq_true hq]
          have g1 := getLs (l := p) (j := 0) (by omega)
          simp only [sf_rgr, putAll, wx, wy, wz, stV, seval, IntWalk.iteOmega, IntWalk.toNatUp, reduceCtorEq, get_map, g1]
          exact ret_d4 (by simp only [wx, wy, wz, stV, seval, IntWalk.iteOmega, IntWalk.toNatUp, reduceCtorEq]) (by simp only [wx, wy, wz, stV, seval, IntWalk.iteOmega, IntWalk.toNatUp, reduceCtorEq]) (by simp only [wx, wy, wz, stV, seval, IntWalk.iteOmega, IntWalk.toNatUp, reduceCtorEq]) (by simp only [wx, wy, wz, stV, seval, IntWalk.iteOmega, IntWalk.toNatUp, reduceCtorEq])
        · rw [if_neg hq, if_neg hq, decide_eq_false hq]
          have e5 : p.length = 0 := by omega
          simp only [sf_rgr, putAll, wx, wy, wz, stV, seval, IntWalk.iteOmega, IntWalk.toNatUp, reduceCtorEq, e5]
          exact ret_d4 (by simp only [wx, wy, wz, stV, seval, IntWalk.iteOmega, IntWalk.toNatUp, reduceCtorEq]) (by simp only [wx, wy, wz, stV, seval, IntWalk.iteOmega, IntWalk.toNatUp, reduceCtorEq]) (by simp only [wx, wy, wz, stV, seval, IntWalk.iteOmega, IntWalk.toNatUp, reduceCtorEq]) (by simp only [wx, wy, wz, stV, seval, IntWalk.iteOmega, IntWalk.toNatUp, reduceCtorEq])
      · simp only [if_true, Nat.zero_le]
        simp only [sf_rgr, putAll, wx, wy, wz, stV, seval, IntWalk.iteOmega, IntWalk.toNatUp, reduceCtorEq]
        exact ret_d4 (by simp only [wx, wy, wz, stV, seval, IntWalk.iteOmega, IntWalk.toNatUp, reduceCtorEq]) (by simp only [wx, wy, wz, stV, seval, IntWalk.iteOmega, IntWalk.toNatUp, reduceCtorEq]) (by simp only [wx, wy, wz, stV, seval, IntWalk.iteOmega, IntWalk.toNatUp, reduceCtorEq]) (by simp only [wx, wy, wz, stV, seval, IntWalk.iteOmega, IntWalk.toNatUp, reduceCtorEq])
    · have h2 : 2 ≤ n := by omega
      have k1 := split_lt h2
      have k2 := split_pos n
      have a0 := rspl_c G n h2 hn
      have hdl := plen_le n m whole h0 h
      by_cases hk : m ≤ splitN n
      · have a1 := ih _ k1 m whole (by omega) h0 hk
        have hdd := plen_lo h0 (by omega) hk whole
        by_cases hq : plenM m n whole ≤ p.length
        · have hq2 : plenM m (splitN n) whole ≤ p.length := by omega
          have hV : rgrV m n whole old p = ((grownM m (splitN n) whole old p).1, nodeM (grownM m (splitN n) whole old p).2 (p.getD (plenM m (splitN n) whole) [])) := by unfold rgrV; rw [if_pos hq, grown_lo h0 (by omega) hk]
          have hU : rgrU m n whole p = ((plenM m (splitN n) whole + 1 : Nat) : Int) := by unfold rgrU; rw [if_pos hq, hdd]
          have hV2 : rgrV m (splitN n) whole old p = grownM m (splitN n) whole old p := if_pos hq2
          have hU2 : rgrU m (splitN n) whole p = (plenM m (splitN n) whole : Nat) := if_pos hq2
          have hbg := grown_big hf hb (splitN n) m whole h0 hk hq2
          rw [hV2, hU2, decide_eq_true hq2] at a1
          rw [hV, hU, decide_eq_true hq]
          have g1 := getLs (l := p) (j := plenM m (splitN n) whole) (by omega)
          have hx := hb _ (getLs_mem (l := p) (j := plenM m (splitN n) whole) (by omega))
          have a3 := rnode_c G hF hG (grownM m (splitN n) whole old p).2 (p.getD (plenM m (splitN n) whole) []) hbg.2 hx
          simp only [sf_rgr, putAll, wx, wy, wz, stV, seval, IntWalk.iteOmega, IntWalk.toNatUp, reduceCtorEq]
          refine st_call (a0) rfl (.inl rfl) ?_
          simp only [wx, wy, wz, stV, seval, IntWalk.iteOmega, IntWalk.toNatUp, reduceCtorEq]
          refine st_call (a1) rfl (.inl rfl) ?_
          simp only [get_map, g1, wx, wy, wz, stV, seval, IntWalk.iteOmega, IntWalk.toNatUp, reduceCtorEq]
          refine st_call (a3) rfl (.inl rfl) ?_
          simp only [wx, wy, wz, stV, seval, IntWalk.iteOmega, IntWalk.toNatUp, reduceCtorEq]
          exact ret_d4 (by simp only [wx, wy, wz, stV, seval, IntWalk.iteOmega, IntWalk.toNatUp, reduceCtorEq]) (by simp only [wx, wy, wz, stV, seval, IntWalk.iteOmega, IntWalk.toNatUp, reduceCtorEq]) (by simp only [wx, wy, wz, stV, seval, IntWalk.iteOmega, IntWalk.toNatUp, reduceCtorEq]) (by simp only [wx, wy, wz, stV, seval, IntWalk.iteOmega, IntWalk.toNatUp, reduceCtorEq])
        · have hV : rgrV m n whole old p = ([], []) := if_neg hq
          have hU : rgrU m n whole p = 0 := if_neg hq
          rw [hV, hU, decide_eq_false hq]
          by_cases hq2 : plenM m (splitN n) whole ≤ p.length
          · have hU2 : rgrU m (splitN n) whole p = (plenM m (splitN n) whole : Nat) := if_pos hq2
            have e5 : plenM m (splitN n) whole = p.length := by omega
            rw [hU2, decide_eq_true hq2] at a1
            simp only [sf_rgr, putAll, wx, wy, wz, stV, seval, IntWalk.iteOmega, IntWalk.toNatUp, reduceCtorEq]
            refine st_call (a0) rfl (.inl rfl) ?_
            simp only [wx, wy, wz, stV, seval, IntWalk.iteOmega, IntWalk.toNatUp, reduceCtorEq]
            refine st_call (a1) rfl (.inl rfl) ?_
            simp only [wx, wy, wz, stV, seval, IntWalk.iteOmega, IntWalk.toNatUp, reduceCtorEq]
            exact ret_d4 (by simp only [wx, wy, wz, stV, seval, IntWalk.iteOmega, IntWalk.toNatUp, reduceCtorEq]) (by simp only [wx, wy, wz, stV, seval, IntWalk.iteOmega, IntWalk.toNatUp, reduceCtorEq]) (by simp only [wx, wy, wz, stV, seval, IntWalk.iteOmega, IntWalk.toNatUp, reduceCtorEq]) (by simp only [wx, wy, wz, stV, seval, IntWalk.iteOmega, IntWalk.toNatUp, reduceCtorEq])
          · rw [decide_eq_false hq2] at a1
            simp only [sf_rgr, putAll, wx, wy, wz, stV, seval, IntWalk.iteOmega, IntWalk.toNatUp, reduceCtorEq]
            refine st_call (a0) rfl (.inl rfl) ?_
            simp only [wx, wy, wz, stV, seval, IntWalk.iteOmega, IntWalk.toNatUp, reduceCtorEq]
            refine st_call (a1) rfl (.inl rfl) ?_
            simp only [wx, wy, wz, stV, seval, IntWalk.iteOmega, IntWalk.toNatUp, reduceCtorEq]
            exact ret_d4 (by simp only [wx, wy, wz, stV, seval, IntWalk.iteOmega, IntWalk.toNatUp, reduceCtorEq]) (by simp only [wx, wy, wz, stV, seval, IntWalk.iteOmega, IntWalk.toNatUp, reduceCtorEq]) (by simp only [wx, wy, wz, stV, seval, IntWalk.iteOmega, IntWalk.toNatUp, reduceCtorEq]) (by simp only [wx, wy, wz, stV, seval, IntWalk.iteOmega, IntWalk.toNatUp, reduceCtorEq])
      · have a1 := ih (n - splitN n) (by omega) (m - splitN n) false (by omega) (by omega) (by omega)
        have e1 : ((m - splitN n : Nat) : Int) = (m : Int) - (splitN n : Nat) := by omega
        have e2 : ((n - splitN n : Nat) : Int) = (n : Int) - (splitN n : Nat) := by omega
        rw [e1, e2] at a1
        have hdd := plen_hi h0 (by omega) hk whole
        by_cases hq : plenM m n whole ≤ p.length
        · have hq2 : plenM (m - splitN n) (n - splitN n) false ≤ p.length := by omega
          have hV : rgrV m n whole old p = (nodeM (p.getD (plenM (m - splitN n) (n - splitN n) false) []) (grownM (m - splitN n) (n - splitN n) false old p).1, nodeM (p.getD (plenM (m - splitN n) (n - splitN n) false) []) (grownM (m - splitN n) (n - splitN n) false old p).2) := by unfold rgrV; rw [if_pos hq, grown_hi h0 (by omega) hk]
          have hU : rgrU m n whole p = ((plenM (m - splitN n) (n - splitN n) false + 1 : Nat) : Int) := by unfold rgrU; rw [if_pos hq, hdd]
          have hV2 : rgrV (m - splitN n) (n - splitN n) false old p = grownM (m - splitN n) (n - splitN n) false old p := if_pos hq2
          have hU2 : rgrU (m - splitN n) (n - splitN n) false p = (plenM (m - splitN n) (n - splitN n) false : Nat) := if_pos hq2
          have hbg := grown_big hf hb (n - splitN n) (m - splitN n) false (by omega) (by omega) hq2
          rw [hV2, hU2, decide_eq_true hq2] at a1
          rw [hV, hU, decide_eq_true hq]
          have g1 := getLs (l := p) (j := plenM (m - splitN n) (n - splitN n) false) (by omega)
          have hx := hb _ (getLs_mem (l := p) (j := plenM (m - splitN n) (n - splitN n) false) (by omega))
          have a3 := rnode_c G hF hG (p.getD (plenM (m - splitN n) (n - splitN n) false) []) (grownM (m - splitN n) (n - splitN n) false old p).1 hx hbg.1
          have a4 := rnode_c G hF hG (p.getD (plenM (m - splitN n) (n - splitN n) false) []) (grownM (m - splitN n) (n - splitN n) false old p).2 hx hbg.2
          simp only [sf_rgr, putAll, wx, wy, wz, stV, seval, IntWalk.iteOmega, IntWalk.toNatUp, reduceCtorEq]
          refine st_call (a0) rfl (.inl rfl) ?_
          simp only [wx, wy, wz, stV, seval, IntWalk.iteOmega, IntWalk.toNatUp, reduceCtorEq]
          refine st_call (a1) rfl (.inl rfl) ?_
          simp only [get_map, g1, wx, wy, wz, stV, seval, IntWalk.iteOmega, IntWalk.toNatUp, reduceCtorEq]
          refine st_call (a3) rfl (.inl rfl) ?_
          simp only [get_map, g1, wx, wy, wz, stV, seval, IntWalk.iteOmega, IntWalk.toNatUp, reduceCtorEq]
          refine st_call (a4) rfl (.inl rfl) ?_
          simp only [wx, wy, wz, stV, seval, IntWalk.iteOmega, IntWalk.toNatUp, reduceCtorEq]
          exact ret_d4 (by simp only [wx, wy, wz, stV, seval, IntWalk.iteOmega, IntWalk.toNatUp, reduceCtorEq]) (by simp only [wx, wy, wz, stV, seval, IntWalk.iteOmega, IntWalk.toNatUp, reduceCtorEq]) (by simp only [wx, wy, wz, stV, seval, IntWalk.iteOmega, IntWalk.toNatUp, reduceCtorEq]) (by simp only [wx, wy, wz, stV, seval, IntWalk.iteOmega, IntWalk.toNatUp, reduceCtorEq])
        · have hV : rgrV m n whole old p = ([], []) := if_neg hq
          have hU : rgrU m n whole p = 0 := if_neg hq
          rw [hV, hU, decide_eq_false hq]
          by_cases hq2 : plenM (m - splitN n) (n - splitN n) false ≤ p.length
          · have hU2 : rgrU (m - splitN n) (n - splitN n) false p = (plenM (m - splitN n) (n - splitN n) false : Nat) := if_pos hq2
            have e5 : plenM (m - splitN n) (n - splitN n) false = p.length := by omega
            rw [hU2, decide_eq_true hq2] at a1
            simp only [sf_rgr, putAll, wx, wy, wz, stV, seval, IntWalk.iteOmega, IntWalk.toNatUp, reduceCtorEq]
            refine st_call (a0) rfl (.inl rfl) ?_
            simp only [wx, wy, wz, stV, seval, IntWalk.iteOmega, IntWalk.toNatUp, reduceCtorEq]
            refine st_call (a1) rfl (.inl rfl) ?_
            simp only [wx, wy, wz, stV, seval, IntWalk.iteOmega, IntWalk.toNatUp, reduceCtorEq]
            exact ret_d4 (by simp only [wx, wy, wz, stV, seval, IntWalk.iteOmega, IntWalk.toNatUp, reduceCtorEq]) (by simp only [wx, wy, wz, stV, seval, IntWalk.iteOmega, IntWalk.toNatUp, reduceCtorEq]) (by simp only [wx, wy, wz, stV, seval, IntWalk.iteOmega, IntWalk.toNatUp, reduceCtorEq]) (by simp only [wx, wy, wz, stV, seval, IntWalk.iteOmega, IntWalk.toNatUp, reduceCtorEq])
          · rw [decide_eq_false hq2] at a1
            simp only [sf_rgr, putAll, wx, wy, wz, stV, seval, IntWalk.iteOmega, IntWalk.toNatUp, reduceCtorEq]
            refine st_call (a0) rfl (.inl rfl) ?_
            simp only [wx, wy, wz, stV, seval, IntWalk.iteOmega, IntWalk.toNatUp, reduceCtorEq]
            refine st_call (a1) rfl (.inl rfl) ?_
            simp only [wx, wy, wz, stV, seval, IntWalk.iteOmega, IntWalk.toNatUp, reduceCtorEq]
            exact ret_d4 (by simp only [wx, wy, wz, stV, seval, IntWalk.iteOmega, IntWalk.toNatUp, reduceCtorEq]) (by simp only [wx, wy, wz, stV, seval, IntWalk.iteOmega, IntWalk.toNatUp, reduceCtorEq]) (by simp only [wx, wy, wz, stV, seval, IntWalk.iteOmega, IntWalk.toNatUp, reduceCtorEq]) (by simp only [wx, wy, wz, stV, seval, IntWalk.iteOmega, IntWalk.toNatUp, reduceCtorEq])
def sf_rroot : SFn := ⟨1, 9,
  .seq (.reg [⟨(some 2), .mv (.k (.c .nil)), none⟩,
    ⟨(some 3), .mv (.k (.c (.d (.int .i64 0)))), none⟩])
  (.seq (.seq (.reg [⟨(some 4), .mv (.t 0), none⟩,
    ⟨(some 5), .len (.t 4), none⟩,
    ⟨(some 6), .bin .gtr (.t 5) (.k (.c (.d (.int .i64 1024)))), none⟩])
  (.cond (.t 6) (.seq (.reg [⟨(some 2), .mv (.k (.c .nil)), none⟩,
     ⟨(some 3), .mv (.k (.c (.d (.int .i64 8)))), none⟩])
   (.ret))
   (.skip)))
  (.seq (.reg [⟨(some 7), .mv (.t 0), none⟩,
    ⟨(some 8), .call 38 [(.t 7)] (some (0, 1)), none⟩,
    ⟨(some 2), .mv (.t 8), none⟩,
    ⟨(some 3), .mv (.k (.c (.d (.int .i64 0)))), none⟩])
  (.ret))),
  [(2, none), (3, none)]⟩
theorem cf_rroot : compFn Tryd.prog { own := [8], comp := [], frz := [], nils := [] } Tryd.f14 = some sf_rroot := by kernel_rfl
set_option maxHeartbeats 1600000 in
theorem rroot_f (G : Glob) (hF : G.at 0 = some (.ra (firstK.map wD))) (hG : G.at 1 = some (.ra (constK.map wD))) (l : List (List UInt8)) (hl : l.length ≤ 9223372036854775807) (hb : ∀ x ∈ l, x.length ≤ 1000000000) : Den Tryd.prog G 14 [sls l] (.tup [.c (.fr 1 ((rootV l).map bD)), .c (.d (.int .i64 (rootE l)))]) := by
  refine den_walk Tryd.func14 cf_rroot rfl rfl ?_
  unfold rootV rootE
  by_cases h : 1024 < l.length
  · rw [if_pos h, if_pos h]
    simp only [sf_rroot, putAll, wx, wy, wz, stV, seval, IntWalk.iteOmega, IntWalk.toNatUp, reduceCtorEq]
    exact ret_f2 (by simp only [wx, wy, wz, stV, seval, IntWalk.iteOmega, IntWalk.toNatUp, reduceCtorEq]) (by simp only [wx, wy, wz, stV, seval, IntWalk.iteOmega, IntWalk.toNatUp, reduceCtorEq])
  · rw [if_neg h, if_neg h]
    simp only [sf_rroot, putAll, wx, wy, wz, stV, seval, IntWalk.iteOmega, IntWalk.toNatUp, reduceCtorEq]
    refine st_call (rrof_f G hF hG l.length l rfl (by omega) hb) rfl (.inl rfl) ?_
    simp only [wx, wy, wz, stV, seval, IntWalk.iteOmega, IntWalk.toNatUp, reduceCtorEq]
    exact ret_f2 (by simp only [wx, wy, wz, stV, seval, IntWalk.iteOmega, IntWalk.toNatUp, reduceCtorEq]) (by simp only [wx, wy, wz, stV, seval, IntWalk.iteOmega, IntWalk.toNatUp, reduceCtorEq])
theorem rroot_c (G : Glob) (hF : G.at 0 = some (.ra (firstK.map wD))) (hG : G.at 1 = some (.ra (constK.map wD))) (l : List (List UInt8)) (hl : l.length ≤ 9223372036854775807) (hb : ∀ x ∈ l, x.length ≤ 1000000000) : Den Tryd.prog G 14 [sls l] (.tup [.c (.d (.sl ((rootV l).map bD))), .c (.d (.int .i64 (rootE l)))]) := den_ro2 (rroot_f G hF hG l hl hb)
def sf_rpath : SFn := ⟨2, 20,
  .seq (.reg [⟨(some 4), .mv (.k (.c .nil)), none⟩,
    ⟨(some 5), .mv (.k (.c (.d (.int .i64 0)))), none⟩])
  (.seq (.seq (.reg [⟨(some 6), .mv (.t 0), none⟩,
    ⟨(some 7), .len (.t 6), none⟩,
    ⟨(some 8), .bin .gtr (.t 7) (.k (.c (.d (.int .i64 1024)))), none⟩])
  (.cond (.t 8) (.seq (.reg [⟨(some 4), .mv (.k (.c .nil)), none⟩,
     ⟨(some 5), .mv (.k (.c (.d (.int .i64 8)))), none⟩])
   (.ret))
   (.skip)))
  (.seq (.seq (.reg [⟨(some 9), .mv (.t 1), none⟩,
    ⟨(some 10), .bin .lss (.t 9) (.k (.c (.d (.int .i64 0)))), none⟩,
    ⟨(some 11), .mv (.t 10), none⟩,
    ⟨(some 12), .mv (.t 1), (some (11, false))⟩,
    ⟨(some 13), .mv (.t 0), (some (11, false))⟩,
    ⟨(some 14), .len (.t 13), (some (11, false))⟩,
    ⟨(some 15), .bin .geq (.t 12) (.t 14), (some (11, false))⟩,
    ⟨(some 16), .pick (.t 11) (.k (.c (.d (.bool true)))) (.t 15), none⟩])
  (.cond (.t 16) (.seq (.reg [⟨(some 4), .mv (.k (.c .nil)), none⟩,
     ⟨(some 5), .mv (.k (.c (.d (.int .i64 4)))), none⟩])
   (.ret))
   (.skip)))
  (.seq (.reg [⟨(some 17), .mv (.t 0), none⟩,
    ⟨(some 18), .mv (.t 1), none⟩,
    ⟨(some 19), .call 40 [(.t 17), (.t 18)] (some (0, 1)), none⟩,
    ⟨(some 4), .mv (.t 19), none⟩,
    ⟨(some 5), .mv (.k (.c (.d (.int .i64 0)))), none⟩])
  (.ret)))),
  [(4, none), (5, none)]⟩
theorem cf_rpath : compFn Tryd.prog { own := [19], comp := [], frz := [], nils := [] } Tryd.f16 = some sf_rpath := by kernel_rfl
set_option maxHeartbeats 1600000 in
theorem rpath_f (G : Glob) (hF : G.at 0 = some (.ra (firstK.map wD))) (hG : G.at 1 = some (.ra (constK.map wD))) (l : List (List UInt8)) (i : Int) (hl : l.length ≤ 9223372036854775807) (hb : ∀ x ∈ l, x.length ≤ 1000000000) : Den Tryd.prog G 16 [sls l, .int .i64 i] (.tup [.c (.fr 1 ((pathV l i).map fun l => D.sl (l.map bD))), .c (.d (.int .i64 (pathE l i)))]) := by
  refine den_walk Tryd.func16 cf_rpath rfl rfl ?_
  by_cases h : 1024 < l.length
  · have hE : pathE l i = 8 := if_pos h
    have hV : pathV l i = [] := if_neg (by rw [hE]; decide)
    rw [hE, hV]
    simp only [sf_rpath, putAll, wx, wy, wz, stV, seval, IntWalk.iteOmega, IntWalk.toNatUp, reduceCtorEq]
    exact ret_f2 (by simp only [wx, wy, wz, stV, seval, IntWalk.iteOmega, IntWalk.toNatUp, reduceCtorEq]) (by simp only [wx, wy, wz, stV, seval, IntWalk.iteOmega, IntWalk.toNatUp, reduceCtorEq])
  · by_cases h1 : i < 0
    · have hE : pathE l i = 4 := by unfold pathE; rw [if_neg h, if_pos (.inl h1)]
      have hV : pathV l i = [] := if_neg (by rw [hE]; decide)
      rw [hE, hV]
      simp only [sf_rpath, putAll, wx, wy, wz, stV, seval, IntWalk.iteOmega, IntWalk.toNatUp, reduceCtorEq]
      exact ret_f2 (by simp only [wx, wy, wz, stV, seval, IntWalk.iteOmega, IntWalk.toNatUp, reduceCtorEq]) (by simp only [wx, wy, wz, stV, seval, IntWalk.iteOmega, IntWalk.toNatUp, reduceCtorEq])
    · by_cases h2 : (l.length : Int) ≤ i
      · have hE : pathE l i = 4 := by unfold pathE; rw [if_neg h, if_pos (.inr h2)]
        have hV : pathV l i = [] := if_neg (by rw [hE]; decide)
        rw [hE, hV]
        simp only [sf_rpath, putAll, wx, wy, wz, stV, seval, IntWalk.iteOmega, IntWalk.toNatUp, reduceCtorEq]
        exact ret_f2 (by simp only [wx, wy, wz, stV, seval, IntWalk.iteOmega, IntWalk.toNatUp, reduceCtorEq]) (by simp only [wx, wy, wz, stV, seval, IntWalk.iteOmega, IntWalk.toNatUp, reduceCtorEq])
      · have hE : pathE l i = 0 := by unfold pathE; rw [if_neg h, if_neg (by omega)]
        have hV : pathV l i = pathM l i.toNat := if_pos hE
        rw [hE, hV]
        obtain ⟨k, rfl⟩ := Int.eq_ofNat_of_zero_le (by omega : 0 ≤ i)
        have ho := rpth_f G hF hG l.length l k rfl (by omega) (by omega) hb
        have e1 : ((k : Int).toNat) = k := rfl
        rw [e1]
        simp only [sf_rpath, putAll, wx, wy, wz, stV, seval, IntWalk.iteOmega, IntWalk.toNatUp, reduceCtorEq]
        refine st_call (ho) rfl (.inl rfl) ?_
        simp only [wx, wy, wz, stV, seval, IntWalk.iteOmega, IntWalk.toNatUp, reduceCtorEq]
        exact ret_f2 (by simp only [wx, wy, wz, stV, seval, IntWalk.iteOmega, IntWalk.toNatUp, reduceCtorEq]) (by simp only [wx, wy, wz, stV, seval, IntWalk.iteOmega, IntWalk.toNatUp, reduceCtorEq])
theorem rpath_c (G : Glob) (hF : G.at 0 = some (.ra (firstK.map wD))) (hG : G.at 1 = some (.ra (constK.map wD))) (l : List (List UInt8)) (i : Int) (hl : l.length ≤ 9223372036854775807) (hb : ∀ x ∈ l, x.length ≤ 1000000000) : Den Tryd.prog G 16 [sls l, .int .i64 i] (.tup [.c (.d (sls (pathV l i))), .c (.d (.int .i64 (pathE l i)))]) := den_ro2L (rpath_f G hF hG l i hl hb)
end Go.Proofs.YtalilcljonkmaaaDoor
