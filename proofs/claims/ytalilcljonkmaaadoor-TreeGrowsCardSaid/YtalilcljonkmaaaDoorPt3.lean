/- Layer 7 on data: the program's roots, paths and ways. Own work. -/
import Derived.Test.YtalilcljonkmaaaDoorPt2
set_option linter.unusedVariables false
set_option linter.unusedSimpArgs false
namespace Go.Proofs.YtalilcljonkmaaaDoor
open Go.RowKit

abbrev boD (b : Bool) : D := .bool b
theorem allSz_bo (l : List Bool) : allSz 1 (l.map boD) = true := allSz_map _ (fun _ => rfl) l
theorem slice_lo (l : List (List UInt8)) {k : Nat} (h : k ≤ l.length) : (l.drop k).take (l.length - k) = l.drop k := List.take_of_length_le (by rw [List.length_drop]; omega)
def sf_divd : SFn := ⟨1, 14,
  .seq (.reg [⟨(some 2), .mv (.k (.c .nil)), none⟩,
    ⟨(some 3), .mv (.k (.c .nil)), none⟩])
  (.seq (.reg [⟨(some 5), .mv (.t 0), none⟩,
    ⟨(some 6), .len (.t 5), none⟩,
    ⟨(some 7), .call 61 [(.t 6)] none, none⟩,
    ⟨(some 4), .mv (.t 7), none⟩])
  (.seq (.reg [⟨(some 8), .mv (.t 0), none⟩,
    ⟨(some 9), .mv (.t 4), none⟩,
    ⟨(some 10), .slice 1 (.t 8) none (some (.t 9)) none, none⟩,
    ⟨(some 11), .mv (.t 0), none⟩,
    ⟨(some 12), .mv (.t 4), none⟩,
    ⟨(some 13), .slice 1 (.t 11) (some (.t 12)) none none, none⟩,
    ⟨(some 2), .mv (.t 10), none⟩,
    ⟨(some 3), .mv (.t 13), none⟩])
  (.ret))),
  [(2, none), (3, none)]⟩
theorem cf_divd : compFn Tryd.prog { own := [], comp := [], frz := [], nils := [] } Tryd.f56 = some sf_divd := by kernel_rfl
set_option maxHeartbeats 1600000 in
theorem divd_c (G : Glob) (l : List (List UInt8)) (h0 : 2 ≤ l.length) (h : l.length ≤ 65536) : Den Tryd.prog G 56 [sls l] (.tup [.c (.d (sls (l.take (splitN l.length)))), .c (.d (sls (l.drop (splitN l.length))))]) := by
  refine den_walk Tryd.func56 cf_divd rfl rfl ?_
  have hh := half_c G l.length h0 h
  have h1 := split_lt h0
  have h2 := slice_lo l (k := splitN l.length) (by omega)
  generalize splitN l.length = k at *
  simp only [sf_divd, putAll, wx, wy, wz, stV, seval, IntWalk.iteOmega, IntWalk.toNatUp, reduceCtorEq]
  refine st_call (hh) rfl (.inl rfl) ?_
  simp only [h2, allSz_ls, wx, wy, wz, stV, seval, IntWalk.iteOmega, IntWalk.toNatUp, reduceCtorEq]
  exact ret_d2 (by simp only [wx, wy, wz, stV, seval, IntWalk.iteOmega, IntWalk.toNatUp, reduceCtorEq]) (by simp only [wx, wy, wz, stV, seval, IntWalk.iteOmega, IntWalk.toNatUp, reduceCtorEq])
def sf_rof : SFn := ⟨1, 26,
  .seq (.reg [⟨(some 2), .mv (.k (.c .nil)), none⟩])
  (.seq (.seq (.reg [⟨(some 5), .mv (.t 0), none⟩,
    ⟨(some 6), .len (.t 5), none⟩])
  (.block 0 (.seq (.reg [⟨(some 8), .bin .eql (.t 6) (.k (.c (.d (.int .i64 0)))), none⟩,
     ⟨(some 7), .mv (.t 8), none⟩])
   (.cond (.t 7) (.seq (.reg [⟨(some 9), .call 44 [(.k (.c .nil))] (some (0, 1)), none⟩,
      ⟨(some 2), .mv (.t 9), none⟩])
    (.ret))
    (.seq (.reg [⟨(some 11), .bin .eql (.t 6) (.k (.c (.d (.int .i64 1)))), none⟩,
      ⟨(some 10), .mv (.t 11), none⟩])
    (.cond (.t 10) (.seq (.reg [⟨(some 12), .mv (.t 0), none⟩,
       ⟨(some 13), .idxSl 1 (.t 12) (.k (.c (.d (.int .i64 0)))), none⟩,
       ⟨(some 14), .load .sc (.t 13), none⟩,
       ⟨(some 15), .call 20 [(.t 14)] (some (0, 1)), none⟩,
       ⟨(some 2), .mv (.t 15), none⟩])
     (.ret))
     (.skip)))))))
  (.seq (.reg [⟨(some 17), .mv (.t 0), none⟩,
    ⟨(some 18), .call 56 [(.t 17)] none, none⟩,
    ⟨(some 16), .mv (.t 18), none⟩,
    ⟨(some 19), .extract (.t 16) 0, none⟩,
    ⟨(some 20), .extract (.t 16) 1, none⟩,
    ⟨(some 3), .mv (.t 19), none⟩,
    ⟨(some 4), .mv (.t 20), none⟩])
  (.seq (.reg [⟨(some 21), .mv (.t 3), none⟩,
    ⟨(some 22), .call 37 [(.t 21)] none, none⟩,
    ⟨(some 23), .mv (.t 4), none⟩,
    ⟨(some 24), .call 37 [(.t 23)] none, none⟩,
    ⟨(some 25), .call 22 [(.t 22), (.t 24)] (some (0, 1)), none⟩,
    ⟨(some 2), .mv (.t 25), none⟩])
  (.ret)))),
  [(2, none)]⟩
theorem cf_rof : compFn Tryd.prog { own := [9, 15, 25], comp := [], frz := [], nils := [] } Tryd.f37 = some sf_rof := by kernel_rfl
set_option maxHeartbeats 1600000 in
theorem rof_f (G : Glob) (hF : G.at 0 = some (.ra (firstK.map wD))) (hG : G.at 1 = some (.ra (constK.map wD))) : ∀ (n : Nat) (l : List (List UInt8)), l.length = n → n ≤ 65536 → (∀ x ∈ l, x.length ≤ 1000000000) → Den Tryd.prog G 37 [sls l] (.w (.c (.fr 1 ((rootM l).map bD)))) := by
  intro n
  induction n using Nat.strongRecOn with
  | _ n ih =>
    intro l hl hn hb
    subst hl
    refine den_walk Tryd.func37 cf_rof rfl rfl ?_
    by_cases h0 : l.length = 0
    · rw [root_0 h0]
      simp only [sf_rof, putAll, wx, wy, wz, stV, seval, IntWalk.iteOmega, IntWalk.toNatUp, reduceCtorEq, h0]
      refine st_call (sumH G hF hG [] (by simp)) (by simp only [wx, wy, wz, stV, seval, IntWalk.iteOmega, IntWalk.toNatUp, reduceCtorEq]) (.inl rfl) ?_
      simp only [wx, wy, wz, stV, seval, IntWalk.iteOmega, IntWalk.toNatUp, reduceCtorEq]
      exact ret_f1 (by simp only [wx, wy, wz, stV, seval, IntWalk.iteOmega, IntWalk.toNatUp, reduceCtorEq])
    · by_cases h1 : l.length = 1
      · rw [root_1 h1]
        have g1 := getLs (l := l) (j := 0) (by omega)
        simp only [sf_rof, putAll, wx, wy, wz, stV, seval, IntWalk.iteOmega, IntWalk.toNatUp, reduceCtorEq, h1, get_map, g1]
        refine st_call (leaf_f G hF hG (l.getD 0 []) (hb _ (getLs_mem (by omega)))) rfl (.inl rfl) ?_
        simp only [wx, wy, wz, stV, seval, IntWalk.iteOmega, IntWalk.toNatUp, reduceCtorEq]
        exact ret_f1 (by simp only [wx, wy, wz, stV, seval, IntWalk.iteOmega, IntWalk.toNatUp, reduceCtorEq])
      · have h2 : 2 ≤ l.length := by omega
        have k1 := split_lt h2
        have k2 := split_pos l.length
        have a1 := den_ro (ih _ k1 (l.take (splitN l.length)) (by rw [List.length_take]; omega) (by omega) (fun x hx => hb x (List.mem_of_mem_take hx)))
        have a2 := den_ro (ih (l.length - splitN l.length) (by omega) (l.drop (splitN l.length)) List.length_drop (by omega) (fun x hx => hb x (List.mem_of_mem_drop hx)))
        have a3 := node_f G hF hG (rootM (l.take (splitN l.length))) (rootM (l.drop (splitN l.length))) (by rw [rootM_len]; decide) (by rw [rootM_len]; decide)
        rw [← root_2 h2] at a3
        simp only [sf_rof, putAll, wx, wy, wz, stV, seval, IntWalk.iteOmega, IntWalk.toNatUp, reduceCtorEq]
        refine st_call (divd_c G l h2 hn) rfl (.inl rfl) ?_
        simp only [wx, wy, wz, stV, seval, IntWalk.iteOmega, IntWalk.toNatUp, reduceCtorEq]
        refine st_call (a1) rfl (.inl rfl) ?_
        simp only [wx, wy, wz, stV, seval, IntWalk.iteOmega, IntWalk.toNatUp, reduceCtorEq]
        refine st_call (a2) rfl (.inl rfl) ?_
        simp only [wx, wy, wz, stV, seval, IntWalk.iteOmega, IntWalk.toNatUp, reduceCtorEq]
        refine st_call (a3) rfl (.inl rfl) ?_
        simp only [wx, wy, wz, stV, seval, IntWalk.iteOmega, IntWalk.toNatUp, reduceCtorEq]
        exact ret_f1 (by simp only [wx, wy, wz, stV, seval, IntWalk.iteOmega, IntWalk.toNatUp, reduceCtorEq])
theorem rof_c (G : Glob) (hF : G.at 0 = some (.ra (firstK.map wD))) (hG : G.at 1 = some (.ra (constK.map wD))) (l : List (List UInt8)) (hn : l.length ≤ 65536) (hb : ∀ x ∈ l, x.length ≤ 1000000000) : Den Tryd.prog G 37 [sls l] (.w (.c (.d (.sl ((rootM l).map bD))))) := den_ro (rof_f G hF hG l.length l rfl hn hb)
def sf_oth : SFn := ⟨3, 41,
  .seq (.reg [⟨(some 6), .mv (.k (.c .nil)), none⟩])
  (.seq (.seq (.reg [⟨(some 9), .mv (.t 0), none⟩,
    ⟨(some 10), .len (.t 9), none⟩,
    ⟨(some 11), .mv (.t 2), none⟩,
    ⟨(some 12), .bin .leq (.t 10) (.t 11), none⟩])
  (.cond (.t 12) (.seq (.reg [⟨(some 6), .mv (.k (.c .nil)), none⟩])
   (.ret))
   (.skip)))
  (.seq (.reg [⟨(some 14), .mv (.t 0), none⟩,
    ⟨(some 15), .call 56 [(.t 14)] none, none⟩,
    ⟨(some 13), .mv (.t 15), none⟩,
    ⟨(some 16), .extract (.t 13) 0, none⟩,
    ⟨(some 17), .extract (.t 13) 1, none⟩,
    ⟨(some 7), .mv (.t 16), none⟩,
    ⟨(some 8), .mv (.t 17), none⟩])
  (.seq (.seq (.reg [⟨(some 18), .mv (.t 1), none⟩,
    ⟨(some 19), .mv (.t 7), none⟩,
    ⟨(some 20), .len (.t 19), none⟩,
    ⟨(some 21), .bin .lss (.t 18) (.t 20), none⟩])
  (.cond (.t 21) (.seq (.reg [⟨(some 22), .mv (.t 7), none⟩,
     ⟨(some 23), .mv (.t 1), none⟩,
     ⟨(some 24), .mv (.t 2), none⟩,
     ⟨(some 25), .call 39 [(.t 22), (.t 23), (.t 24)] (some (0, 1)), none⟩,
     ⟨(some 26), .mv (.t 8), none⟩,
     ⟨(some 27), .call 37 [(.t 26)] none, none⟩,
     ⟨(some 28), .bldSl false 1 1 (.sl []) [(0, (.t 27))], none⟩,
     ⟨(some 29), .app false 1 24 (.t 25) (.t 28), none⟩,
     ⟨(some 6), .mv (.t 29), none⟩])
   (.ret))
   (.skip)))
  (.seq (.reg [⟨(some 30), .mv (.t 8), none⟩,
    ⟨(some 31), .mv (.t 1), none⟩,
    ⟨(some 32), .mv (.t 7), none⟩,
    ⟨(some 33), .len (.t 32), none⟩,
    ⟨(some 34), .bin .sub (.t 31) (.t 33), none⟩,
    ⟨(some 35), .mv (.t 2), none⟩,
    ⟨(some 36), .call 39 [(.t 30), (.t 34), (.t 35)] (some (0, 1)), none⟩,
    ⟨(some 37), .mv (.t 7), none⟩,
    ⟨(some 38), .call 37 [(.t 37)] none, none⟩,
    ⟨(some 39), .bldSl false 1 1 (.sl []) [(0, (.t 38))], none⟩,
    ⟨(some 40), .app false 1 24 (.t 36) (.t 39), none⟩,
    ⟨(some 6), .mv (.t 40), none⟩])
  (.ret))))),
  [(6, none)]⟩
theorem cf_oth : compFn Tryd.prog { own := [25, 36], comp := [], frz := [], nils := [] } Tryd.f39 = some sf_oth := by kernel_rfl
set_option maxHeartbeats 3200000 in
theorem oth_f (G : Glob) (hF : G.at 0 = some (.ra (firstK.map wD))) (hG : G.at 1 = some (.ra (constK.map wD))) (s : Nat) (hs : 1 ≤ s) : ∀ (n : Nat) (l : List (List UInt8)) (i : Nat), l.length = n → n ≤ 65536 → i < n → (∀ x ∈ l, x.length ≤ 1000000000) → Den Tryd.prog G 39 [sls l, .int .i64 (i : Int), .int .i64 (s : Int)] (.w (.c (.fr 1 ((othM l i s).map fun l => D.sl (l.map bD))))) := by
  intro n
  induction n using Nat.strongRecOn with
  | _ n ih =>
    intro l i hl hn hi hb
    subst hl
    refine den_walk Tryd.func39 cf_oth rfl rfl ?_
    by_cases h0 : l.length ≤ s
    · rw [oth_0 h0]
      simp only [sf_oth, putAll, wx, wy, wz, stV, seval, IntWalk.iteOmega, IntWalk.toNatUp, reduceCtorEq]
      exact ret_f1 (by simp only [wx, wy, wz, stV, seval, IntWalk.iteOmega, IntWalk.toNatUp, reduceCtorEq])
    · have h2 : 2 ≤ l.length := by omega
      have k1 := split_lt h2
      have k2 := split_pos l.length
      have hd := divd_c G l h2 hn
      by_cases hk : i < splitN l.length
      · have l1 : (l.take (splitN l.length)).length = splitN l.length := by rw [List.length_take]; omega
        have a1 := ih _ k1 (l.take (splitN l.length)) i l1 (by omega) hk (fun x hx => hb x (List.mem_of_mem_take hx))
        have a2 := rof_c G hF hG (l.drop (splitN l.length)) (by rw [List.length_drop]; omega) (fun x hx => hb x (List.mem_of_mem_drop hx))
        have a3 := oth_le _ (l.take (splitN l.length)) i s l1
        rw [oth_lo hs (by omega) hk, List.map_append]
        simp only [sf_oth, putAll, wx, wy, wz, stV, seval, IntWalk.iteOmega, IntWalk.toNatUp, reduceCtorEq]
        refine st_call (hd) rfl (.inl rfl) ?_
        simp only [l1, wx, wy, wz, stV, seval, IntWalk.iteOmega, IntWalk.toNatUp, reduceCtorEq]
        refine st_call (a1) rfl (.inl rfl) ?_
        simp only [wx, wy, wz, stV, seval, IntWalk.iteOmega, IntWalk.toNatUp, reduceCtorEq]
        refine st_call (a2) rfl (.inl rfl) ?_
        simp only [srcV, wx, wy, wz, stV, seval, IntWalk.iteOmega, IntWalk.toNatUp, reduceCtorEq]
        exact ret_f1 (by simp only [wx, wy, wz, stV, seval, IntWalk.iteOmega, IntWalk.toNatUp, reduceCtorEq])
      · have l1 : (l.take (splitN l.length)).length = splitN l.length := by rw [List.length_take]; omega
        have l2 : (l.drop (splitN l.length)).length = l.length - splitN l.length := List.length_drop
        have a1 := ih (l.length - splitN l.length) (by omega) (l.drop (splitN l.length)) (i - splitN l.length) l2 (by omega) (by omega) (fun x hx => hb x (List.mem_of_mem_drop hx))
        have a2 := rof_c G hF hG (l.take (splitN l.length)) (by omega) (fun x hx => hb x (List.mem_of_mem_take hx))
        have a3 := oth_le _ (l.drop (splitN l.length)) (i - splitN l.length) s l2
        have e1 : ((i - splitN l.length : Nat) : Int) = (i : Int) - (splitN l.length : Nat) := by omega
        rw [e1] at a1
        rw [oth_hi hs (by omega) hk, List.map_append]
        simp only [sf_oth, putAll, wx, wy, wz, stV, seval, IntWalk.iteOmega, IntWalk.toNatUp, reduceCtorEq]
        refine st_call (hd) rfl (.inl rfl) ?_
        simp only [l1, wx, wy, wz, stV, seval, IntWalk.iteOmega, IntWalk.toNatUp, reduceCtorEq]
        refine st_call (a1) rfl (.inl rfl) ?_
        simp only [wx, wy, wz, stV, seval, IntWalk.iteOmega, IntWalk.toNatUp, reduceCtorEq]
        refine st_call (a2) rfl (.inl rfl) ?_
        simp only [srcV, wx, wy, wz, stV, seval, IntWalk.iteOmega, IntWalk.toNatUp, reduceCtorEq]
        exact ret_f1 (by simp only [wx, wy, wz, stV, seval, IntWalk.iteOmega, IntWalk.toNatUp, reduceCtorEq])
def sf_way : SFn := ⟨3, 32,
  .seq (.reg [⟨(some 6), .mv (.k (.c .nil)), none⟩])
  (.seq (.seq (.reg [⟨(some 8), .mv (.t 0), none⟩,
    ⟨(some 9), .mv (.t 2), none⟩,
    ⟨(some 10), .bin .leq (.t 8) (.t 9), none⟩])
  (.cond (.t 10) (.seq (.reg [⟨(some 6), .mv (.k (.c .nil)), none⟩])
   (.ret))
   (.skip)))
  (.seq (.reg [⟨(some 11), .mv (.t 0), none⟩,
    ⟨(some 12), .call 61 [(.t 11)] none, none⟩,
    ⟨(some 7), .mv (.t 12), none⟩])
  (.seq (.seq (.reg [⟨(some 13), .mv (.t 1), none⟩,
    ⟨(some 14), .mv (.t 7), none⟩,
    ⟨(some 15), .bin .lss (.t 13) (.t 14), none⟩])
  (.cond (.t 15) (.seq (.reg [⟨(some 16), .mv (.t 7), none⟩,
     ⟨(some 17), .mv (.t 1), none⟩,
     ⟨(some 18), .mv (.t 2), none⟩,
     ⟨(some 19), .call 46 [(.t 16), (.t 17), (.t 18)] (some (0, 1)), none⟩,
     ⟨(some 20), .bldSl false 1 1 (.bool false) [(0, (.k (.c (.d (.bool false)))))], none⟩,
     ⟨(some 21), .app false 1 1 (.t 19) (.t 20), none⟩,
     ⟨(some 6), .mv (.t 21), none⟩])
   (.ret))
   (.skip)))
  (.seq (.reg [⟨(some 22), .mv (.t 0), none⟩,
    ⟨(some 23), .mv (.t 7), none⟩,
    ⟨(some 24), .bin .sub (.t 22) (.t 23), none⟩,
    ⟨(some 25), .mv (.t 1), none⟩,
    ⟨(some 26), .mv (.t 7), none⟩,
    ⟨(some 27), .bin .sub (.t 25) (.t 26), none⟩,
    ⟨(some 28), .mv (.t 2), none⟩,
    ⟨(some 29), .call 46 [(.t 24), (.t 27), (.t 28)] (some (0, 1)), none⟩,
    ⟨(some 30), .bldSl false 1 1 (.bool false) [(0, (.k (.c (.d (.bool true)))))], none⟩,
    ⟨(some 31), .app false 1 1 (.t 29) (.t 30), none⟩,
    ⟨(some 6), .mv (.t 31), none⟩])
  (.ret))))),
  [(6, none)]⟩
theorem cf_way : compFn Tryd.prog { own := [19, 29], comp := [], frz := [], nils := [] } Tryd.f46 = some sf_way := by kernel_rfl
set_option maxHeartbeats 3200000 in
theorem way_f (G : Glob) (s : Nat) (hs : 1 ≤ s) (hs2 : s ≤ 65536) : ∀ (n i : Nat), n ≤ 65536 → i < n → Den Tryd.prog G 46 [.int .i64 (n : Int), .int .i64 (i : Int), .int .i64 (s : Int)] (.w (.c (.fr 1 ((wayM n i s).map boD)))) := by
  intro n
  induction n using Nat.strongRecOn with
  | _ n ih =>
    intro i hn hi
    refine den_walk Tryd.func46 cf_way rfl rfl ?_
    by_cases h0 : n ≤ s
    · rw [way_0 h0]
      simp only [sf_way, putAll, wx, wy, wz, stV, seval, IntWalk.iteOmega, IntWalk.toNatUp, reduceCtorEq]
      exact ret_f1 (by simp only [wx, wy, wz, stV, seval, IntWalk.iteOmega, IntWalk.toNatUp, reduceCtorEq])
    · have h2 : 2 ≤ n := by omega
      have k1 := split_lt h2
      have k2 := split_pos n
      have hd := half_c G n h2 hn
      by_cases hk : i < splitN n
      · have a1 := ih _ k1 i (by omega) hk
        have a3 := way_le (splitN n) i s
        rw [way_lo hs (by omega) hk, List.map_append]
        simp only [sf_way, putAll, wx, wy, wz, stV, seval, IntWalk.iteOmega, IntWalk.toNatUp, reduceCtorEq]
        refine st_call (hd) rfl (.inl rfl) ?_
        simp only [wx, wy, wz, stV, seval, IntWalk.iteOmega, IntWalk.toNatUp, reduceCtorEq]
        refine st_call (a1) rfl (.inl rfl) ?_
        simp only [srcV, wx, wy, wz, stV, seval, IntWalk.iteOmega, IntWalk.toNatUp, reduceCtorEq]
        exact ret_f1 (by simp only [wx, wy, wz, stV, seval, IntWalk.iteOmega, IntWalk.toNatUp, reduceCtorEq])
      · have a1 := ih (n - splitN n) (by omega) (i - splitN n) (by omega) (by omega)
        have a3 := way_le (n - splitN n) (i - splitN n) s
        have e1 : ((i - splitN n : Nat) : Int) = (i : Int) - (splitN n : Nat) := by omega
        have e2 : ((n - splitN n : Nat) : Int) = (n : Int) - (splitN n : Nat) := by omega
        rw [e1, e2] at a1
        rw [way_hi hs (by omega) hk, List.map_append]
        simp only [sf_way, putAll, wx, wy, wz, stV, seval, IntWalk.iteOmega, IntWalk.toNatUp, reduceCtorEq]
        refine st_call (hd) rfl (.inl rfl) ?_
        simp only [wx, wy, wz, stV, seval, IntWalk.iteOmega, IntWalk.toNatUp, reduceCtorEq]
        refine st_call (a1) rfl (.inl rfl) ?_
        simp only [srcV, wx, wy, wz, stV, seval, IntWalk.iteOmega, IntWalk.toNatUp, reduceCtorEq]
        exact ret_f1 (by simp only [wx, wy, wz, stV, seval, IntWalk.iteOmega, IntWalk.toNatUp, reduceCtorEq])
theorem way_c (G : Glob) (s : Nat) (hs : 1 ≤ s) (hs2 : s ≤ 65536) (n i : Nat) (hn : n ≤ 65536) (hi : i < n) : Den Tryd.prog G 46 [.int .i64 (n : Int), .int .i64 (i : Int), .int .i64 (s : Int)] (.w (.c (.d (.sl ((wayM n i s).map boD))))) := den_ro (way_f G s hs hs2 n i hn hi)
def sf_last : SFn := ⟨1, 7,
  .seq (.reg [⟨(some 2), .mv (.k (.c (.d (.int .i64 0)))), none⟩])
  (.seq (.reg [⟨(some 3), .mv (.t 0), none⟩,
    ⟨(some 4), .mv (.t 0), none⟩,
    ⟨(some 5), .un .neg (.t 4), none⟩,
    ⟨(some 6), .bin .and (.t 3) (.t 5), none⟩,
    ⟨(some 2), .mv (.t 6), none⟩])
  (.ret)),
  [(2, none)]⟩
theorem cf_last : compFn Tryd.prog { own := [], comp := [], frz := [], nils := [] } Tryd.f41 = some sf_last := by kernel_rfl
theorem last_c (G : Glob) (m : Nat) (h0 : 1 ≤ m) (h : m ≤ 1024) : Den Tryd.prog G 41 [.int .i64 (m : Int)] (.w (.c (.d (.int .i64 (lowN m : Nat))))) := by
  refine den_walk Tryd.func41 cf_last rfl rfl ?_
  have hb : bits .and .i64 (m : Int) (0 - (m : Int)) = (lowN m : Nat) := by rw [Int.zero_sub]; exact low_bits ⟨m, by omega⟩ h0
  simp only [sf_last, putAll, wx, wy, wz, stV, seval, IntWalk.iteOmega, IntWalk.toNatUp, reduceCtorEq, hb]
  exact ret_d1 (by simp only [wx, wy, wz, stV, seval, IntWalk.iteOmega, IntWalk.toNatUp, reduceCtorEq])
def grSt (c : List UInt8) (p : List (List UInt8)) (w : List Bool) (j : Nat) : St := ⟨ofL [(2, .w (.c (.d (.sl (w.map boD))))), (8, .w (.c (.d (.sl (((grF c p w j).1).map bD))))), (9, .w (.c (.d (.sl (((grF c p w j).2).map bD))))), (14, .w (.c (.d (sls p)))), (15, .w (.c (.d (.int .i64 (p.length : Int))))), (16, .w (.c (.d (.int .i64 (j : Int)))))], hL [], uL []⟩
theorem grF_big {c : List UInt8} (hc : c.length ≤ 1000000000) (p : List (List UInt8)) (w : List Bool) : ∀ j, (grF c p w j).1.length ≤ 1000000000 ∧ (grF c p w j).2.length ≤ 1000000000
  | 0 => ⟨hc, hc⟩
  | j + 1 => by
    have h1 := (grF_big hc p w j).1
    rw [grF]
    split
    · exact ⟨by rw [nodeM_len]; decide, by rw [nodeM_len]; decide⟩
    · exact ⟨h1, by rw [nodeM_len]; decide⟩
theorem getBo {w : List Bool} {j : Nat} (h : j < w.length) : w[j]? = some (w.getD j false) := by
  rw [List.getD_eq_getElem?_getD, List.getElem?_eq_getElem h]; rfl
def lp_grwn_0 : SCode :=
  .seq (.reg [⟨(some 17), .bin .lss (.t 16) (.t 15), none⟩])
  (.seq (.cond (.t 17) (.skip)
   (.exit 0))
  (.seq (.block 1 (.seq (.reg [⟨(some 18), .mv (.t 16), none⟩,
     ⟨(some 19), .idxSl 1 (.t 14) (.t 16), none⟩,
     ⟨(some 20), .load .sc (.t 19), none⟩,
     ⟨(some 10), .mv (.t 18), none⟩,
     ⟨(some 11), .mv (.t 20), none⟩])
   (.seq (.reg [⟨(some 21), .mv (.t 2), none⟩,
     ⟨(some 22), .mv (.t 10), none⟩,
     ⟨(some 23), .idxSl 1 (.t 21) (.t 22), none⟩,
     ⟨(some 24), .load .sc (.t 23), none⟩])
   (.cond (.t 24) (.reg [⟨(some 25), .mv (.t 11), none⟩,
      ⟨(some 26), .mv (.t 8), none⟩,
      ⟨(some 27), .call 22 [(.t 25), (.t 26)] none, none⟩,
      ⟨(some 28), .mv (.t 11), none⟩,
      ⟨(some 29), .mv (.t 9), none⟩,
      ⟨(some 30), .call 22 [(.t 28), (.t 29)] none, none⟩,
      ⟨(some 8), .mv (.t 27), none⟩,
      ⟨(some 9), .mv (.t 30), none⟩])
    (.reg [⟨(some 31), .mv (.t 9), none⟩,
      ⟨(some 32), .mv (.t 11), none⟩,
      ⟨(some 33), .call 22 [(.t 31), (.t 32)] none, none⟩,
      ⟨(some 9), .mv (.t 33), none⟩])))))
  (.reg [⟨(some 34), .bin .add (.t 16) (.k (.c (.d (.int .i64 1)))), none⟩,
    ⟨(some 16), .mv (.t 34), none⟩])))
def sf_grwn : SFn := ⟨3, 37,
  .seq (.reg [⟨(some 6), .mv (.k (.c .nil)), none⟩,
    ⟨(some 7), .mv (.k (.c .nil)), none⟩])
  (.seq (.reg [⟨(some 12), .mv (.t 0), none⟩,
    ⟨(some 13), .mv (.t 0), none⟩,
    ⟨(some 8), .mv (.t 12), none⟩,
    ⟨(some 9), .mv (.t 13), none⟩])
  (.seq (.seq (.reg [⟨(some 14), .mv (.t 1), none⟩,
    ⟨(some 15), .len (.t 14), none⟩,
    ⟨(some 16), .mv (.k (.c (.d (.int .i64 0)))), none⟩])
  (.block 0 (.loop lp_grwn_0)))
  (.seq (.reg [⟨(some 35), .mv (.t 8), none⟩,
    ⟨(some 36), .mv (.t 9), none⟩,
    ⟨(some 6), .mv (.t 35), none⟩,
    ⟨(some 7), .mv (.t 36), none⟩])
  (.ret)))),
  [(6, none), (7, none)]⟩
theorem cf_grwn : compFn Tryd.prog { own := [], comp := [], frz := [], nils := [] } Tryd.f49 = some sf_grwn := by kernel_rfl
set_option maxHeartbeats 3200000 in
theorem grwn_c (G : Glob) (hF : G.at 0 = some (.ra (firstK.map wD))) (hG : G.at 1 = some (.ra (constK.map wD))) (c : List UInt8) (p : List (List UInt8)) (w : List Bool) (hc : c.length ≤ 1000000000) (hp : p.length = w.length) (hw : w.length ≤ 65536) (hb : ∀ x ∈ p, x.length ≤ 1000000000) : Den Tryd.prog G 49 [.sl (c.map bD), sls p, .sl (w.map boD)] (.tup [.c (.d (.sl (((grF c p w w.length).1).map bD))), .c (.d (.sl (((grF c p w w.length).2).map bD)))]) := by
  refine den_walk Tryd.func49 cf_grwn rfl rfl ?_
  simp only [sf_grwn, putAll, wx, wy, wz, stV, seval, IntWalk.iteOmega, IntWalk.toNatUp, reduceCtorEq]
  refine loop_st (grSt c p w) (fun j => w.length - j) (fun j => j ≤ w.length) 0 (Nat.zero_le _) ?_ ?_
  · refine ent_l (fun i => i) ?_ ?_ rfl rfl <;> simp only [wx, wex, wez, stV, seval, IntWalk.iteOmega, IntWalk.toNatUp, reduceCtorEq, grF]
  · intro j hj
    obtain ⟨b1, b2⟩ := grF_big hc p w j
    by_cases hlt : j < w.length
    · have g1 := getLs (l := p) (j := j) (by omega)
      have g2 := getBo hlt
      have hx := hb _ (getLs_mem (l := p) (j := j) (by omega))
      cases hd : w.getD j false
      · have e : grF c p w (j + 1) = ((grF c p w j).1, nodeM (grF c p w j).2 (p.getD j [])) := by rw [grF, hd]; rfl
        rw [hd] at g2
        simp only [lp_grwn_0, grSt, wx, wy, wz, stV, seval, IntWalk.iteOmega, IntWalk.toNatUp, reduceCtorEq, get_map, g1, g2]
        refine st_call (node_c G hF hG (grF c p w j).2 (p.getD j []) b2 hx) rfl (.inl rfl) ?_
        simp only [wx, wy, wz, stV, seval, IntWalk.iteOmega, IntWalk.toNatUp, reduceCtorEq]
        refine lop_next (j + 1) (by omega) (by omega) (ent_l (fun i => i) ?_ ?_ rfl rfl) <;> simp only [wx, wex, wez, stV, seval, IntWalk.iteOmega, IntWalk.toNatUp, reduceCtorEq, e]
      · have e : grF c p w (j + 1) = (nodeM (p.getD j []) (grF c p w j).1, nodeM (p.getD j []) (grF c p w j).2) := by rw [grF, hd]; rfl
        rw [hd] at g2
        simp only [lp_grwn_0, grSt, wx, wy, wz, stV, seval, IntWalk.iteOmega, IntWalk.toNatUp, reduceCtorEq, get_map, g1, g2]
        refine st_call (node_c G hF hG (p.getD j []) (grF c p w j).1 hx b1) rfl (.inl rfl) ?_
        simp only [wx, wy, wz, stV, seval, IntWalk.iteOmega, IntWalk.toNatUp, reduceCtorEq]
        refine st_call (node_c G hF hG (p.getD j []) (grF c p w j).2 hx b2) rfl (.inl rfl) ?_
        simp only [wx, wy, wz, stV, seval, IntWalk.iteOmega, IntWalk.toNatUp, reduceCtorEq]
        refine lop_next (j + 1) (by omega) (by omega) (ent_l (fun i => i) ?_ ?_ rfl rfl) <;> simp only [wx, wex, wez, stV, seval, IntWalk.iteOmega, IntWalk.toNatUp, reduceCtorEq, e]
    · obtain rfl : j = w.length := by omega
      simp only [lp_grwn_0, grSt, wx, wy, wz, stV, seval, IntWalk.iteOmega, IntWalk.toNatUp, reduceCtorEq]
      exact ret_d2 (by simp only [wx, wy, wz, stV, seval, IntWalk.iteOmega, IntWalk.toNatUp, reduceCtorEq]) (by simp only [wx, wy, wz, stV, seval, IntWalk.iteOmega, IntWalk.toNatUp, reduceCtorEq])
end Go.Proofs.YtalilcljonkmaaaDoor
