/- Layer 7 on data: what the program's calls return. Own work. -/
import Derived.Test.YtalilcljonkmaaaDoorPt3
import Derived.Test.YtalilcljonkmaaaDoorPo4
set_option linter.unusedVariables false
set_option linter.unusedSimpArgs false
namespace Go.Proofs.YtalilcljonkmaaaDoor
open Go.RowKit

def rootE (l : List (List UInt8)) : Int := if 1024 < l.length then 8 else 0
def rootV (l : List (List UInt8)) : List UInt8 := if 1024 < l.length then [] else rootM l
def pathE (l : List (List UInt8)) (i : Int) : Int := if 1024 < l.length then 8 else if i < 0 ∨ (l.length : Int) ≤ i then 4 else 0
def pathV (l : List (List UInt8)) (i : Int) : List (List UInt8) := if pathE l i = 0 then pathM l i.toNat else []
def consE (l : List (List UInt8)) (m : Int) : Int := if 1024 < l.length then 8 else if m < 1 ∨ (l.length : Int) < m then 4 else 0
def consV (l : List (List UInt8)) (m : Int) : List (List UInt8) := if consE l m = 0 then proofM m.toNat l true else []
def climbO (n i : Int) (p : List (List UInt8)) : Bool := decide (1 ≤ n ∧ n ≤ 1024 ∧ 0 ≤ i ∧ i < n ∧ p.length = depthM n.toNat i.toNat)
def climbV (n i : Int) (leaf : List UInt8) (p : List (List UInt8)) : List UInt8 := if climbO n i p = true then climbM n.toNat i.toNat leaf p else []
def checkB (root : List UInt8) (n i : Int) (leaf : List UInt8) (p : List (List UInt8)) : Bool := climbO n i p && (climbV n i leaf p == root)
def cgB (old : List UInt8) (m : Int) (now : List UInt8) (n : Int) (p : List (List UInt8)) : Bool :=
  decide (1 ≤ m ∧ m ≤ n ∧ n ≤ 1024) && (decide (p.length = plenM m.toNat n.toNat true) && ((grownM m.toNat n.toNat true old p).1 == old && (grownM m.toNat n.toNat true old p).2 == now))
def sf_root : SFn := ⟨1, 9,
  .seq (.reg [⟨(some 2), .mv (.k (.c .nil)), none⟩,
    ⟨(some 3), .mv (.k (.c (.d (.int .i64 0)))), none⟩])
  (.seq (.seq (.reg [⟨(some 4), .mv (.t 0), none⟩,
    ⟨(some 5), .len (.t 4), none⟩,
    ⟨(some 6), .bin .gtr (.t 5) (.k (.c (.d (.int .i64 1024)))), none⟩])
  (.cond (.t 6) (.seq (.reg [⟨(some 2), .mv (.k (.c .nil)), none⟩,
     ⟨(some 3), .mv (.k (.c (.d (.int .i64 8)))), none⟩])
   (.ret))
   (.skip)))
  (.seq (.reg [⟨(some 7), .mv (.t 0), none⟩,
    ⟨(some 8), .call 37 [(.t 7)] (some (0, 1)), none⟩,
    ⟨(some 2), .mv (.t 8), none⟩,
    ⟨(some 3), .mv (.k (.c (.d (.int .i64 0)))), none⟩])
  (.ret))),
  [(2, none), (3, none)]⟩
theorem cf_root : compFn Tryd.prog { own := [8], comp := [], frz := [], nils := [] } Tryd.f13 = some sf_root := by kernel_rfl
set_option maxHeartbeats 1600000 in
theorem root_f (G : Glob) (hF : G.at 0 = some (.ra (firstK.map wD))) (hG : G.at 1 = some (.ra (constK.map wD))) (l : List (List UInt8)) (hl : l.length ≤ 9223372036854775807) (hb : ∀ x ∈ l, x.length ≤ 1000000000) : Den Tryd.prog G 13 [sls l] (.tup [.c (.fr 1 ((rootV l).map bD)), .c (.d (.int .i64 (rootE l)))]) := by
  refine den_walk Tryd.func13 cf_root rfl rfl ?_
  unfold rootV rootE
  by_cases h : 1024 < l.length
  · rw [if_pos h, if_pos h]
    simp only [sf_root, putAll, wx, wy, wz, stV, seval, IntWalk.iteOmega, IntWalk.toNatUp, reduceCtorEq]
    exact ret_f2 (by simp only [wx, wy, wz, stV, seval, IntWalk.iteOmega, IntWalk.toNatUp, reduceCtorEq]) (by simp only [wx, wy, wz, stV, seval, IntWalk.iteOmega, IntWalk.toNatUp, reduceCtorEq])
  · rw [if_neg h, if_neg h]
    simp only [sf_root, putAll, wx, wy, wz, stV, seval, IntWalk.iteOmega, IntWalk.toNatUp, reduceCtorEq]
    refine st_call (rof_f G hF hG l.length l rfl (by omega) hb) rfl (.inl rfl) ?_
    simp only [wx, wy, wz, stV, seval, IntWalk.iteOmega, IntWalk.toNatUp, reduceCtorEq]
    exact ret_f2 (by simp only [wx, wy, wz, stV, seval, IntWalk.iteOmega, IntWalk.toNatUp, reduceCtorEq]) (by simp only [wx, wy, wz, stV, seval, IntWalk.iteOmega, IntWalk.toNatUp, reduceCtorEq])
theorem root_c (G : Glob) (hF : G.at 0 = some (.ra (firstK.map wD))) (hG : G.at 1 = some (.ra (constK.map wD))) (l : List (List UInt8)) (hl : l.length ≤ 9223372036854775807) (hb : ∀ x ∈ l, x.length ≤ 1000000000) : Den Tryd.prog G 13 [sls l] (.tup [.c (.d (.sl ((rootV l).map bD))), .c (.d (.int .i64 (rootE l)))]) := den_ro2 (root_f G hF hG l hl hb)
theorem den_ro2L {P : Program} {G : Glob} {F : FuncId} {args : List D} {l : List (List UInt8)} {y : D} (h : Den P G F args (.tup [.c (.fr 1 (l.map fun l => D.sl (l.map bD))), .c (.d y)])) : Den P G F args (.tup [.c (.d (sls l)), .c (.d y)]) := den_ro2 h
def sf_path : SFn := ⟨2, 20,
  .seq (.reg [⟨(some 4), .mv (.k (.c .nil)), none⟩,
    ⟨(some 5), .mv (.k (.c (.d (.int .i64 0)))), none⟩])
  (.seq (.seq (.reg [⟨(some 6), .mv (.t 0), none⟩,
    ⟨(some 7), .len (.t 6), none⟩,
    ⟨(some 8), .bin .gtr (.t 7) (.k (.c (.d (.int .i64 1024)))), none⟩])
  (.cond (.t 8) (.seq (.reg [⟨(some 4), .mv (.k (.c .nil)), none⟩,
     ⟨(some 5), .mv (.k (.c (.d (.int .i64 8)))), none⟩])
   (.ret))
   (.skip)))
  (.seq (.seq (.reg [⟨(some 9), .mv (.t 1), none⟩,
    ⟨(some 10), .bin .lss (.t 9) (.k (.c (.d (.int .i64 0)))), none⟩,
    ⟨(some 11), .mv (.t 10), none⟩,
    ⟨(some 12), .mv (.t 1), (some (11, false))⟩,
    ⟨(some 13), .mv (.t 0), (some (11, false))⟩,
    ⟨(some 14), .len (.t 13), (some (11, false))⟩,
    ⟨(some 15), .bin .geq (.t 12) (.t 14), (some (11, false))⟩,
    ⟨(some 16), .pick (.t 11) (.k (.c (.d (.bool true)))) (.t 15), none⟩])
  (.cond (.t 16) (.seq (.reg [⟨(some 4), .mv (.k (.c .nil)), none⟩,
     ⟨(some 5), .mv (.k (.c (.d (.int .i64 4)))), none⟩])
   (.ret))
   (.skip)))
  (.seq (.reg [⟨(some 17), .mv (.t 0), none⟩,
    ⟨(some 18), .mv (.t 1), none⟩,
    ⟨(some 19), .call 39 [(.t 17), (.t 18), (.k (.c (.d (.int .i64 1))))] (some (0, 1)), none⟩,
    ⟨(some 4), .mv (.t 19), none⟩,
    ⟨(some 5), .mv (.k (.c (.d (.int .i64 0)))), none⟩])
  (.ret)))),
  [(4, none), (5, none)]⟩
theorem cf_path : compFn Tryd.prog { own := [19], comp := [], frz := [], nils := [] } Tryd.f15 = some sf_path := by kernel_rfl
set_option maxHeartbeats 1600000 in
theorem path_f (G : Glob) (hF : G.at 0 = some (.ra (firstK.map wD))) (hG : G.at 1 = some (.ra (constK.map wD))) (l : List (List UInt8)) (i : Int) (hl : l.length ≤ 9223372036854775807) (hb : ∀ x ∈ l, x.length ≤ 1000000000) : Den Tryd.prog G 15 [sls l, .int .i64 i] (.tup [.c (.fr 1 ((pathV l i).map fun l => D.sl (l.map bD))), .c (.d (.int .i64 (pathE l i)))]) := by
  refine den_walk Tryd.func15 cf_path rfl rfl ?_
  by_cases h : 1024 < l.length
  · have hE : pathE l i = 8 := if_pos h
    have hV : pathV l i = [] := if_neg (by rw [hE]; decide)
    rw [hE, hV]
    simp only [sf_path, putAll, wx, wy, wz, stV, seval, IntWalk.iteOmega, IntWalk.toNatUp, reduceCtorEq]
    exact ret_f2 (by simp only [wx, wy, wz, stV, seval, IntWalk.iteOmega, IntWalk.toNatUp, reduceCtorEq]) (by simp only [wx, wy, wz, stV, seval, IntWalk.iteOmega, IntWalk.toNatUp, reduceCtorEq])
  · by_cases h1 : i < 0
    · have hE : pathE l i = 4 := by unfold pathE; rw [if_neg h, if_pos (.inl h1)]
      have hV : pathV l i = [] := if_neg (by rw [hE]; decide)
      rw [hE, hV]
      simp only [sf_path, putAll, wx, wy, wz, stV, seval, IntWalk.iteOmega, IntWalk.toNatUp, reduceCtorEq]
      exact ret_f2 (by simp only [wx, wy, wz, stV, seval, IntWalk.iteOmega, IntWalk.toNatUp, reduceCtorEq]) (by simp only [wx, wy, wz, stV, seval, IntWalk.iteOmega, IntWalk.toNatUp, reduceCtorEq])
    · by_cases h2 : (l.length : Int) ≤ i
      · have hE : pathE l i = 4 := by unfold pathE; rw [if_neg h, if_pos (.inr h2)]
        have hV : pathV l i = [] := if_neg (by rw [hE]; decide)
        rw [hE, hV]
        simp only [sf_path, putAll, wx, wy, wz, stV, seval, IntWalk.iteOmega, IntWalk.toNatUp, reduceCtorEq]
        exact ret_f2 (by simp only [wx, wy, wz, stV, seval, IntWalk.iteOmega, IntWalk.toNatUp, reduceCtorEq]) (by simp only [wx, wy, wz, stV, seval, IntWalk.iteOmega, IntWalk.toNatUp, reduceCtorEq])
      · have hE : pathE l i = 0 := by unfold pathE; rw [if_neg h, if_neg (by omega)]
        have hV : pathV l i = pathM l i.toNat := if_pos hE
        rw [hE, hV]
        obtain ⟨k, rfl⟩ := Int.eq_ofNat_of_zero_le (by omega : 0 ≤ i)
        have ho := oth_f G hF hG 1 (by decide) l.length l k rfl (by omega) (by omega) hb
        rw [oth_path _ _ _ rfl] at ho
        have e1 : ((k : Int).toNat) = k := rfl
        rw [e1]
        simp only [sf_path, putAll, wx, wy, wz, stV, seval, IntWalk.iteOmega, IntWalk.toNatUp, reduceCtorEq]
        refine st_call (ho) rfl (.inl rfl) ?_
        simp only [wx, wy, wz, stV, seval, IntWalk.iteOmega, IntWalk.toNatUp, reduceCtorEq]
        exact ret_f2 (by simp only [wx, wy, wz, stV, seval, IntWalk.iteOmega, IntWalk.toNatUp, reduceCtorEq]) (by simp only [wx, wy, wz, stV, seval, IntWalk.iteOmega, IntWalk.toNatUp, reduceCtorEq])
theorem path_c (G : Glob) (hF : G.at 0 = some (.ra (firstK.map wD))) (hG : G.at 1 = some (.ra (constK.map wD))) (l : List (List UInt8)) (i : Int) (hl : l.length ≤ 9223372036854775807) (hb : ∀ x ∈ l, x.length ≤ 1000000000) : Den Tryd.prog G 15 [sls l, .int .i64 i] (.tup [.c (.d (sls (pathV l i))), .c (.d (.int .i64 (pathE l i)))]) := den_ro2L (path_f G hF hG l i hl hb)
def clSt (t : List UInt8) (p : List (List UInt8)) (w : List Bool) (j : Nat) : St := ⟨ofL [(10, .w (.c (.d (.sl (w.map boD))))), (11, .w (.c (.d (.sl ((clF t p w j).map bD))))), (39, .w (.c (.d (sls p)))), (40, .w (.c (.d (.int .i64 (p.length : Int))))), (41, .w (.c (.d (.int .i64 (j : Int)))))], hL [], uL []⟩
theorem clF_big {t : List UInt8} (ht : t.length ≤ 1000000000) (p : List (List UInt8)) (w : List Bool) : ∀ j, (clF t p w j).length ≤ 1000000000
  | 0 => ht
  | j + 1 => by rw [clF]; split <;> (rw [nodeM_len]; decide)
def lp_clm_0 : SCode :=
  .seq (.reg [⟨(some 42), .bin .lss (.t 41) (.t 40), none⟩])
  (.seq (.cond (.t 42) (.skip)
   (.exit 0))
  (.seq (.block 1 (.seq (.reg [⟨(some 43), .mv (.t 41), none⟩,
     ⟨(some 44), .idxSl 1 (.t 39) (.t 41), none⟩,
     ⟨(some 45), .load .sc (.t 44), none⟩,
     ⟨(some 12), .mv (.t 43), none⟩,
     ⟨(some 13), .mv (.t 45), none⟩])
   (.seq (.reg [⟨(some 46), .mv (.t 10), none⟩,
     ⟨(some 47), .mv (.t 12), none⟩,
     ⟨(some 48), .idxSl 1 (.t 46) (.t 47), none⟩,
     ⟨(some 49), .load .sc (.t 48), none⟩])
   (.cond (.t 49) (.reg [⟨(some 50), .mv (.t 13), none⟩,
      ⟨(some 51), .mv (.t 11), none⟩,
      ⟨(some 52), .call 22 [(.t 50), (.t 51)] none, none⟩,
      ⟨(some 11), .mv (.t 52), none⟩])
    (.reg [⟨(some 53), .mv (.t 11), none⟩,
      ⟨(some 54), .mv (.t 13), none⟩,
      ⟨(some 55), .call 22 [(.t 53), (.t 54)] none, none⟩,
      ⟨(some 11), .mv (.t 55), none⟩])))))
  (.reg [⟨(some 56), .bin .add (.t 41) (.k (.c (.d (.int .i64 1)))), none⟩,
    ⟨(some 41), .mv (.t 56), none⟩])))
def sf_clm : SFn := ⟨4, 58,
  .seq (.reg [⟨(some 8), .mv (.k (.c .nil)), none⟩,
    ⟨(some 9), .mv (.k (.c (.d (.bool false)))), none⟩])
  (.seq (.seq (.reg [⟨(some 14), .mv (.t 0), none⟩,
    ⟨(some 15), .bin .lss (.t 14) (.k (.c (.d (.int .i64 1)))), none⟩,
    ⟨(some 16), .mv (.t 15), none⟩,
    ⟨(some 17), .mv (.t 0), (some (16, false))⟩,
    ⟨(some 18), .bin .gtr (.t 17) (.k (.c (.d (.int .i64 1024)))), (some (16, false))⟩,
    ⟨(some 19), .pick (.t 16) (.k (.c (.d (.bool true)))) (.t 18), none⟩,
    ⟨(some 20), .mv (.t 19), none⟩,
    ⟨(some 21), .mv (.t 1), (some (20, false))⟩,
    ⟨(some 22), .bin .lss (.t 21) (.k (.c (.d (.int .i64 0)))), (some (20, false))⟩,
    ⟨(some 23), .pick (.t 20) (.k (.c (.d (.bool true)))) (.t 22), none⟩,
    ⟨(some 24), .mv (.t 23), none⟩,
    ⟨(some 25), .mv (.t 1), (some (24, false))⟩,
    ⟨(some 26), .mv (.t 0), (some (24, false))⟩,
    ⟨(some 27), .bin .geq (.t 25) (.t 26), (some (24, false))⟩,
    ⟨(some 28), .pick (.t 24) (.k (.c (.d (.bool true)))) (.t 27), none⟩])
  (.cond (.t 28) (.seq (.reg [⟨(some 8), .mv (.k (.c .nil)), none⟩,
     ⟨(some 9), .mv (.k (.c (.d (.bool false)))), none⟩])
   (.ret))
   (.skip)))
  (.seq (.reg [⟨(some 29), .mv (.t 0), none⟩,
    ⟨(some 30), .mv (.t 1), none⟩,
    ⟨(some 31), .call 46 [(.t 29), (.t 30), (.k (.c (.d (.int .i64 1))))] none, none⟩,
    ⟨(some 10), .mv (.t 31), none⟩])
  (.seq (.seq (.reg [⟨(some 32), .mv (.t 3), none⟩,
    ⟨(some 33), .len (.t 32), none⟩,
    ⟨(some 34), .mv (.t 10), none⟩,
    ⟨(some 35), .len (.t 34), none⟩,
    ⟨(some 36), .bin .neq (.t 33) (.t 35), none⟩])
  (.cond (.t 36) (.seq (.reg [⟨(some 8), .mv (.k (.c .nil)), none⟩,
     ⟨(some 9), .mv (.k (.c (.d (.bool false)))), none⟩])
   (.ret))
   (.skip)))
  (.seq (.reg [⟨(some 37), .mv (.t 2), none⟩,
    ⟨(some 38), .call 20 [(.t 37)] none, none⟩,
    ⟨(some 11), .mv (.t 38), none⟩])
  (.seq (.seq (.reg [⟨(some 39), .mv (.t 3), none⟩,
    ⟨(some 40), .len (.t 39), none⟩,
    ⟨(some 41), .mv (.k (.c (.d (.int .i64 0)))), none⟩])
  (.block 0 (.loop lp_clm_0)))
  (.seq (.reg [⟨(some 57), .mv (.t 11), none⟩,
    ⟨(some 8), .mv (.t 57), none⟩,
    ⟨(some 9), .mv (.k (.c (.d (.bool true)))), none⟩])
  (.ret))))))),
  [(8, none), (9, none)]⟩
theorem cf_clm : compFn Tryd.prog { own := [], comp := [], frz := [], nils := [] } Tryd.f25 = some sf_clm := by kernel_rfl
set_option maxHeartbeats 3200000 in
theorem clm_c (G : Glob) (hF : G.at 0 = some (.ra (firstK.map wD))) (hG : G.at 1 = some (.ra (constK.map wD))) (n i : Int) (leaf : List UInt8) (p : List (List UInt8)) (hf : leaf.length ≤ 1000000000) (hp : p.length ≤ 9223372036854775807) (hb : ∀ x ∈ p, x.length ≤ 1000000000) : Den Tryd.prog G 25 [.int .i64 n, .int .i64 i, .sl (leaf.map bD), sls p] (.tup [.c (.d (.sl ((climbV n i leaf p).map bD))), .c (.d (.bool (climbO n i p)))]) := by
  refine den_walk Tryd.func25 cf_clm rfl rfl ?_
  by_cases hv : 1 ≤ n ∧ n ≤ 1024 ∧ 0 ≤ i ∧ i < n
  · obtain ⟨h1, h2, h3, h4⟩ := hv
    obtain ⟨n, rfl⟩ := Int.eq_ofNat_of_zero_le (by omega : 0 ≤ n)
    obtain ⟨i, rfl⟩ := Int.eq_ofNat_of_zero_le h3
    have hwy := way_c G 1 (by decide) (by decide) n i (by omega) (by omega)
    have hwl := way_len1 n i
    have hcl := climb_cl leaf p n i
    by_cases hd : p.length = depthM n i
    · have ho : climbO (n : Int) (i : Int) p = true := decide_eq_true ⟨h1, h2, h3, h4, hd⟩
      have hV : climbV (n : Int) (i : Int) leaf p = climbM n i leaf p := if_pos ho
      rw [ho, hV, hcl]
      rw [← hwl] at hd
      have hw : (wayM n i 1).length ≤ 1024 := by have := way_le n i 1; omega
      generalize wayM n i 1 = w at *
      simp only [sf_clm, putAll, wx, wy, wz, stV, seval, IntWalk.iteOmega, IntWalk.toNatUp, reduceCtorEq]
      refine st_call (hwy) rfl (.inl rfl) ?_
      simp only [wx, wy, wz, stV, seval, IntWalk.iteOmega, IntWalk.toNatUp, reduceCtorEq]
      refine st_call (leaf_c G hF hG leaf hf) rfl (.inl rfl) ?_
      simp only [wx, wy, wz, stV, seval, IntWalk.iteOmega, IntWalk.toNatUp, reduceCtorEq]
      refine loop_st (clSt (leafM leaf) p w) (fun j => w.length - j) (fun j => j ≤ w.length) 0 (Nat.zero_le _) ?_ ?_
      · refine ent_l (fun i => i) ?_ ?_ rfl rfl <;> simp only [wx, wex, wez, stV, seval, IntWalk.iteOmega, IntWalk.toNatUp, reduceCtorEq, clF]
      · intro j hj
        have b1 := clF_big (t := leafM leaf) (by rw [leafM_len]; decide) p w j
        by_cases hlt : j < w.length
        · have g1 := getLs (l := p) (j := j) (by omega)
          have g2 := getBo hlt
          have hx := hb _ (getLs_mem (l := p) (j := j) (by omega))
          cases hdj : w.getD j false
          · have e : clF (leafM leaf) p w (j + 1) = nodeM (clF (leafM leaf) p w j) (p.getD j []) := by rw [clF, hdj]; rfl
            rw [hdj] at g2
            simp only [lp_clm_0, clSt, wx, wy, wz, stV, seval, IntWalk.iteOmega, IntWalk.toNatUp, reduceCtorEq, get_map, g1, g2]
            refine st_call (node_c G hF hG (clF (leafM leaf) p w j) (p.getD j []) b1 hx) rfl (.inl rfl) ?_
            simp only [wx, wy, wz, stV, seval, IntWalk.iteOmega, IntWalk.toNatUp, reduceCtorEq]
            refine lop_next (j + 1) (by omega) (by omega) (ent_l (fun i => i) ?_ ?_ rfl rfl) <;> simp only [wx, wex, wez, stV, seval, IntWalk.iteOmega, IntWalk.toNatUp, reduceCtorEq, e]
          · have e : clF (leafM leaf) p w (j + 1) = nodeM (p.getD j []) (clF (leafM leaf) p w j) := by rw [clF, hdj]; rfl
            rw [hdj] at g2
            simp only [lp_clm_0, clSt, wx, wy, wz, stV, seval, IntWalk.iteOmega, IntWalk.toNatUp, reduceCtorEq, get_map, g1, g2]
            refine st_call (node_c G hF hG (p.getD j []) (clF (leafM leaf) p w j) hx b1) rfl (.inl rfl) ?_
            simp only [wx, wy, wz, stV, seval, IntWalk.iteOmega, IntWalk.toNatUp, reduceCtorEq]
            refine lop_next (j + 1) (by omega) (by omega) (ent_l (fun i => i) ?_ ?_ rfl rfl) <;> simp only [wx, wex, wez, stV, seval, IntWalk.iteOmega, IntWalk.toNatUp, reduceCtorEq, e]
        · obtain rfl : j = w.length := by omega
          simp only [lp_clm_0, clSt, wx, wy, wz, stV, seval, IntWalk.iteOmega, IntWalk.toNatUp, reduceCtorEq]
          exact ret_d2 (by simp only [wx, wy, wz, stV, seval, IntWalk.iteOmega, IntWalk.toNatUp, reduceCtorEq]) (by simp only [wx, wy, wz, stV, seval, IntWalk.iteOmega, IntWalk.toNatUp, reduceCtorEq])
    · have ho : climbO (n : Int) (i : Int) p = false := decide_eq_false (fun k => hd k.2.2.2.2)
      have hV : climbV (n : Int) (i : Int) leaf p = [] := if_neg (by rw [ho]; simp)
      rw [ho, hV]
      rw [← hwl] at hd
      have hw := way_le n i 1
      generalize wayM n i 1 = w at *
      simp only [sf_clm, putAll, wx, wy, wz, stV, seval, IntWalk.iteOmega, IntWalk.toNatUp, reduceCtorEq]
      refine st_call (hwy) rfl (.inl rfl) ?_
      simp only [wx, wy, wz, stV, seval, IntWalk.iteOmega, IntWalk.toNatUp, reduceCtorEq]
      exact ret_d2 (by simp only [wx, wy, wz, stV, seval, IntWalk.iteOmega, IntWalk.toNatUp, reduceCtorEq]) (by simp only [wx, wy, wz, stV, seval, IntWalk.iteOmega, IntWalk.toNatUp, reduceCtorEq])
  · have ho : climbO n i p = false := decide_eq_false (fun k => hv ⟨k.1, k.2.1, k.2.2.1, k.2.2.2.1⟩)
    have hV : climbV n i leaf p = [] := if_neg (by rw [ho]; simp)
    rw [ho, hV]
    by_cases h1 : n < 1
    · simp only [sf_clm, putAll, wx, wy, wz, stV, seval, IntWalk.iteOmega, IntWalk.toNatUp, reduceCtorEq]
      exact ret_d2 (by simp only [wx, wy, wz, stV, seval, IntWalk.iteOmega, IntWalk.toNatUp, reduceCtorEq]) (by simp only [wx, wy, wz, stV, seval, IntWalk.iteOmega, IntWalk.toNatUp, reduceCtorEq])
    · by_cases h2 : 1024 < n
      · simp only [sf_clm, putAll, wx, wy, wz, stV, seval, IntWalk.iteOmega, IntWalk.toNatUp, reduceCtorEq]
        exact ret_d2 (by simp only [wx, wy, wz, stV, seval, IntWalk.iteOmega, IntWalk.toNatUp, reduceCtorEq]) (by simp only [wx, wy, wz, stV, seval, IntWalk.iteOmega, IntWalk.toNatUp, reduceCtorEq])
      · by_cases h3 : i < 0
        · simp only [sf_clm, putAll, wx, wy, wz, stV, seval, IntWalk.iteOmega, IntWalk.toNatUp, reduceCtorEq]
          exact ret_d2 (by simp only [wx, wy, wz, stV, seval, IntWalk.iteOmega, IntWalk.toNatUp, reduceCtorEq]) (by simp only [wx, wy, wz, stV, seval, IntWalk.iteOmega, IntWalk.toNatUp, reduceCtorEq])
        · have h4 : n ≤ i := by omega
          simp only [sf_clm, putAll, wx, wy, wz, stV, seval, IntWalk.iteOmega, IntWalk.toNatUp, reduceCtorEq]
          exact ret_d2 (by simp only [wx, wy, wz, stV, seval, IntWalk.iteOmega, IntWalk.toNatUp, reduceCtorEq]) (by simp only [wx, wy, wz, stV, seval, IntWalk.iteOmega, IntWalk.toNatUp, reduceCtorEq])
theorem climbV_big (n i : Int) {leaf : List UInt8} (hf : leaf.length ≤ 1000000000) (p : List (List UInt8)) : (climbV n i leaf p).length ≤ 1000000000 := by
  unfold climbV
  split
  · rw [climb_cl]; exact clF_big (by rw [leafM_len]; decide) _ _ _
  · exact Nat.zero_le _
def sf_chkt : SFn := ⟨5, 27,
  .seq (.reg [⟨(some 10), .mv (.k (.c (.d (.bool false)))), none⟩])
  (.seq (.reg [⟨(some 14), .mv (.t 1), none⟩,
    ⟨(some 15), .mv (.t 2), none⟩,
    ⟨(some 16), .mv (.t 3), none⟩,
    ⟨(some 17), .mv (.t 4), none⟩,
    ⟨(some 18), .call 25 [(.t 14), (.t 15), (.t 16), (.t 17)] none, none⟩,
    ⟨(some 13), .mv (.t 18), none⟩,
    ⟨(some 19), .extract (.t 13) 0, none⟩,
    ⟨(some 20), .extract (.t 13) 1, none⟩,
    ⟨(some 11), .mv (.t 19), none⟩,
    ⟨(some 12), .mv (.t 20), none⟩])
  (.seq (.reg [⟨(some 21), .mv (.t 12), none⟩,
    ⟨(some 22), .mv (.t 21), none⟩,
    ⟨(some 23), .mv (.t 11), (some (22, true))⟩,
    ⟨(some 24), .mv (.t 0), (some (22, true))⟩,
    ⟨(some 25), .call 48 [(.t 23), (.t 24)] none, (some (22, true))⟩,
    ⟨(some 26), .pick (.t 22) (.t 25) (.k (.c (.d (.bool false)))), none⟩,
    ⟨(some 10), .mv (.t 26), none⟩])
  (.ret))),
  [(10, none)]⟩
theorem cf_chkt : compFn Tryd.prog { own := [], comp := [], frz := [], nils := [] } Tryd.f27 = some sf_chkt := by kernel_rfl
set_option maxHeartbeats 1600000 in
theorem chkt_c (G : Glob) (hF : G.at 0 = some (.ra (firstK.map wD))) (hG : G.at 1 = some (.ra (constK.map wD))) (r : List UInt8) (n i : Int) (leaf : List UInt8) (p : List (List UInt8)) (hf : leaf.length ≤ 1000000000) (hp : p.length ≤ 9223372036854775807) (hb : ∀ x ∈ p, x.length ≤ 1000000000) : Den Tryd.prog G 27 [.sl (r.map bD), .int .i64 n, .int .i64 i, .sl (leaf.map bD), sls p] (.w (.c (.d (.bool (checkB r n i leaf p))))) := by
  refine den_walk Tryd.func27 cf_chkt rfl rfl ?_
  have hc := clm_c G hF hG n i leaf p hf hp hb
  unfold checkB
  have hs := same_c G (climbV n i leaf p) r
  generalize climbV n i leaf p = v at *
  cases ho : climbO n i p
  · rw [ho] at hc
    simp only [sf_chkt, putAll, wx, wy, wz, stV, seval, IntWalk.iteOmega, IntWalk.toNatUp, reduceCtorEq]
    refine st_call (hc) rfl (.inl rfl) ?_
    simp only [wx, wy, wz, stV, seval, IntWalk.iteOmega, IntWalk.toNatUp, reduceCtorEq]
    exact ret_d1 (by simp only [wx, wy, wz, stV, seval, IntWalk.iteOmega, IntWalk.toNatUp, reduceCtorEq, Bool.false_and])
  · rw [ho] at hc
    simp only [sf_chkt, putAll, wx, wy, wz, stV, seval, IntWalk.iteOmega, IntWalk.toNatUp, reduceCtorEq]
    refine st_call (hc) rfl (.inl rfl) ?_
    simp only [wx, wy, wz, stV, seval, IntWalk.iteOmega, IntWalk.toNatUp, reduceCtorEq]
    refine st_call (hs) rfl (.inl rfl) ?_
    simp only [wx, wy, wz, stV, seval, IntWalk.iteOmega, IntWalk.toNatUp, reduceCtorEq]
    exact ret_d1 (by simp only [wx, wy, wz, stV, seval, IntWalk.iteOmega, IntWalk.toNatUp, reduceCtorEq])
def sf_cons : SFn := ⟨2, 45,
  .seq (.reg [⟨(some 4), .mv (.k (.c .nil)), none⟩,
    ⟨(some 5), .mv (.k (.c (.d (.int .i64 0)))), none⟩])
  (.seq (.seq (.reg [⟨(some 8), .mv (.t 0), none⟩,
    ⟨(some 9), .len (.t 8), none⟩,
    ⟨(some 10), .bin .gtr (.t 9) (.k (.c (.d (.int .i64 1024)))), none⟩])
  (.cond (.t 10) (.seq (.reg [⟨(some 4), .mv (.k (.c .nil)), none⟩,
     ⟨(some 5), .mv (.k (.c (.d (.int .i64 8)))), none⟩])
   (.ret))
   (.skip)))
  (.seq (.seq (.reg [⟨(some 11), .mv (.t 1), none⟩,
    ⟨(some 12), .bin .lss (.t 11) (.k (.c (.d (.int .i64 1)))), none⟩,
    ⟨(some 13), .mv (.t 12), none⟩,
    ⟨(some 14), .mv (.t 1), (some (13, false))⟩,
    ⟨(some 15), .mv (.t 0), (some (13, false))⟩,
    ⟨(some 16), .len (.t 15), (some (13, false))⟩,
    ⟨(some 17), .bin .gtr (.t 14) (.t 16), (some (13, false))⟩,
    ⟨(some 18), .pick (.t 13) (.k (.c (.d (.bool true)))) (.t 17), none⟩])
  (.cond (.t 18) (.seq (.reg [⟨(some 4), .mv (.k (.c .nil)), none⟩,
     ⟨(some 5), .mv (.k (.c (.d (.int .i64 4)))), none⟩])
   (.ret))
   (.skip)))
  (.seq (.seq (.reg [⟨(some 19), .mv (.t 1), none⟩,
    ⟨(some 20), .mv (.t 0), none⟩,
    ⟨(some 21), .len (.t 20), none⟩,
    ⟨(some 22), .bin .eql (.t 19) (.t 21), none⟩])
  (.cond (.t 22) (.seq (.reg [⟨(some 4), .mv (.k (.c .nil)), none⟩,
     ⟨(some 5), .mv (.k (.c (.d (.int .i64 0)))), none⟩])
   (.ret))
   (.skip)))
  (.seq (.reg [⟨(some 23), .mv (.t 1), none⟩,
    ⟨(some 24), .call 41 [(.t 23)] none, none⟩,
    ⟨(some 6), .mv (.t 24), none⟩])
  (.seq (.reg [⟨(some 25), .mv (.t 0), none⟩,
    ⟨(some 26), .mv (.t 1), none⟩,
    ⟨(some 27), .bin .sub (.t 26) (.k (.c (.d (.int .i64 1)))), none⟩,
    ⟨(some 28), .mv (.t 6), none⟩,
    ⟨(some 29), .call 39 [(.t 25), (.t 27), (.t 28)] (some (0, 1)), none⟩,
    ⟨(some 7), .mv (.t 29), none⟩])
  (.seq (.seq (.reg [⟨(some 30), .mv (.t 6), none⟩,
    ⟨(some 31), .mv (.t 1), none⟩,
    ⟨(some 32), .bin .eql (.t 30) (.t 31), none⟩])
  (.cond (.t 32) (.seq (.reg [⟨(some 33), .mv (.t 7), none⟩,
     ⟨(some 4), .mv (.t 33), none⟩,
     ⟨(some 5), .mv (.k (.c (.d (.int .i64 0)))), none⟩])
   (.ret))
   (.skip)))
  (.seq (.reg [⟨(some 34), .mv (.t 0), none⟩,
    ⟨(some 35), .mv (.t 1), none⟩,
    ⟨(some 36), .mv (.t 6), none⟩,
    ⟨(some 37), .bin .sub (.t 35) (.t 36), none⟩,
    ⟨(some 38), .mv (.t 1), none⟩,
    ⟨(some 39), .slice 1 (.t 34) (some (.t 37)) (some (.t 38)) none, none⟩,
    ⟨(some 40), .call 37 [(.t 39)] none, none⟩,
    ⟨(some 41), .bldSl false 1 1 (.sl []) [(0, (.t 40))], none⟩,
    ⟨(some 42), .mv (.t 7), none⟩,
    ⟨(some 43), .bldFz 2 1 (.sl []) [(0, (.t 41)), (1, (.t 42))], none⟩,
    ⟨(some 44), .call 42 [(.t 43)] (some (0, 1)), none⟩,
    ⟨(some 4), .mv (.t 44), none⟩,
    ⟨(some 5), .mv (.k (.c (.d (.int .i64 0)))), none⟩])
  (.ret)))))))),
  [(4, none), (5, none)]⟩
theorem cf_cons : compFn Tryd.prog { own := [29, 44], comp := [], frz := [43], nils := [] } Tryd.f17 = some sf_cons := by kernel_rfl
set_option maxHeartbeats 3200000 in
theorem cons_f (G : Glob) (hF : G.at 0 = some (.ra (firstK.map wD))) (hG : G.at 1 = some (.ra (constK.map wD))) (l : List (List UInt8)) (m : Int) (hl : l.length ≤ 9223372036854775807) (hb : ∀ x ∈ l, x.length ≤ 1000000000) : Den Tryd.prog G 17 [sls l, .int .i64 m] (.tup [.c (.fr 1 ((consV l m).map fun l => D.sl (l.map bD))), .c (.d (.int .i64 (consE l m)))]) := by
  refine den_walk Tryd.func17 cf_cons rfl rfl ?_
  by_cases h : 1024 < l.length
  · have hE : consE l m = 8 := if_pos h
    have hV : consV l m = [] := if_neg (by rw [hE]; decide)
    rw [hE, hV]
    simp only [sf_cons, putAll, wx, wy, wz, stV, seval, IntWalk.iteOmega, IntWalk.toNatUp, reduceCtorEq]
    exact ret_f2 (by simp only [wx, wy, wz, stV, seval, IntWalk.iteOmega, IntWalk.toNatUp, reduceCtorEq]) (by simp only [wx, wy, wz, stV, seval, IntWalk.iteOmega, IntWalk.toNatUp, reduceCtorEq])
  · by_cases h1 : m < 1
    · have hE : consE l m = 4 := by unfold consE; rw [if_neg h, if_pos (.inl h1)]
      have hV : consV l m = [] := if_neg (by rw [hE]; decide)
      rw [hE, hV]
      simp only [sf_cons, putAll, wx, wy, wz, stV, seval, IntWalk.iteOmega, IntWalk.toNatUp, reduceCtorEq]
      exact ret_f2 (by simp only [wx, wy, wz, stV, seval, IntWalk.iteOmega, IntWalk.toNatUp, reduceCtorEq]) (by simp only [wx, wy, wz, stV, seval, IntWalk.iteOmega, IntWalk.toNatUp, reduceCtorEq])
    · by_cases h2 : (l.length : Int) < m
      · have hE : consE l m = 4 := by unfold consE; rw [if_neg h, if_pos (.inr h2)]
        have hV : consV l m = [] := if_neg (by rw [hE]; decide)
        rw [hE, hV]
        simp only [sf_cons, putAll, wx, wy, wz, stV, seval, IntWalk.iteOmega, IntWalk.toNatUp, reduceCtorEq]
        exact ret_f2 (by simp only [wx, wy, wz, stV, seval, IntWalk.iteOmega, IntWalk.toNatUp, reduceCtorEq]) (by simp only [wx, wy, wz, stV, seval, IntWalk.iteOmega, IntWalk.toNatUp, reduceCtorEq])
      · have hE : consE l m = 0 := by unfold consE; rw [if_neg h, if_neg (by omega)]
        have hV : consV l m = proofM m.toNat l true := if_pos hE
        rw [hE, hV]
        obtain ⟨m, rfl⟩ := Int.eq_ofNat_of_zero_le (by omega : 0 ≤ m)
        have e0 : ((m : Int).toNat) = m := rfl
        rw [e0]
        by_cases h3 : m = l.length
        · rw [proof_all h3]
          simp only [sf_cons, putAll, wx, wy, wz, stV, seval, IntWalk.iteOmega, IntWalk.toNatUp, reduceCtorEq]
          exact ret_f2 (by simp only [wx, wy, wz, stV, seval, IntWalk.iteOmega, IntWalk.toNatUp, reduceCtorEq]) (by simp only [wx, wy, wz, stV, seval, IntWalk.iteOmega, IntWalk.toNatUp, reduceCtorEq])
        · have hla := last_c G m (by omega) (by omega)
          have hpr := proof_oth l.length l m true rfl (by omega) (by omega) (.inl (by omega))
          obtain ⟨q1, q2⟩ := low_le (m := m) (by omega)
          have ho := oth_f G hF hG (lowN m) q1 l.length l (m - 1) rfl (by omega) (by omega) hb
          have hol := oth_le l.length l (m - 1) (lowN m) rfl
          have e1 : ((m - 1 : Nat) : Int) = (m : Int) - 1 := by omega
          rw [e1] at ho
          by_cases h4 : lowN m = m
          · rw [if_pos ⟨rfl, h4⟩] at hpr
            rw [hpr]
            have h4' : ((lowN m : Nat) : Int) = (m : Int) := by omega
            simp only [sf_cons, putAll, wx, wy, wz, stV, seval, IntWalk.iteOmega, IntWalk.toNatUp, reduceCtorEq]
            refine st_call (hla) rfl (.inl rfl) ?_
            simp only [wx, wy, wz, stV, seval, IntWalk.iteOmega, IntWalk.toNatUp, reduceCtorEq]
            refine st_call (ho) rfl (.inl rfl) ?_
            simp only [wx, wy, wz, stV, seval, IntWalk.iteOmega, IntWalk.toNatUp, reduceCtorEq]
            exact ret_f2 (by simp only [wx, wy, wz, stV, seval, IntWalk.iteOmega, IntWalk.toNatUp, reduceCtorEq]) (by simp only [wx, wy, wz, stV, seval, IntWalk.iteOmega, IntWalk.toNatUp, reduceCtorEq])
          · rw [if_neg (fun k => h4 k.2)] at hpr
            rw [hpr]
            have ht : (lastT l m).length ≤ 1024 := by unfold lastT; rw [List.length_take, List.length_drop]; omega
            have hro := rof_c G hF hG (lastT l m) (by omega) (fun x hx => hb x (List.mem_of_mem_drop (List.mem_of_mem_take hx)))
            have e2 : ((m : Int) - (lowN m : Int)).toNat = m - lowN m := by omega
            have e3 : (l.drop (m - lowN m)).take (m - (m - lowN m)) = lastT l m := by unfold lastT; rw [show m - (m - lowN m) = lowN m by omega]
            have hcc := conc_f G [[rootM (lastT l m)], othM l (m - 1) (lowN m)] (by simp) (by simp; omega)
            have hfl : [[rootM (lastT l m)], othM l (m - 1) (lowN m)].flatten = rootM (lastT l m) :: othM l (m - 1) (lowN m) := by simp
            rw [hfl] at hcc
            simp only [sf_cons, putAll, wx, wy, wz, stV, seval, IntWalk.iteOmega, IntWalk.toNatUp, reduceCtorEq]
            refine st_call (hla) rfl (.inl rfl) ?_
            simp only [wx, wy, wz, stV, seval, IntWalk.iteOmega, IntWalk.toNatUp, reduceCtorEq]
            refine st_call (ho) rfl (.inl rfl) ?_
            simp only [e2, e3, allSz_ls, wx, wy, wz, stV, seval, IntWalk.iteOmega, IntWalk.toNatUp, reduceCtorEq]
            refine st_call (hro) rfl (.inl rfl) ?_
            simp only [allSz_ls, wx, wy, wz, stV, seval, IntWalk.iteOmega, IntWalk.toNatUp, reduceCtorEq]
            refine st_call (hcc) rfl (.inl rfl) ?_
            simp only [wx, wy, wz, stV, seval, IntWalk.iteOmega, IntWalk.toNatUp, reduceCtorEq]
            exact ret_f2 (by simp only [wx, wy, wz, stV, seval, IntWalk.iteOmega, IntWalk.toNatUp, reduceCtorEq]) (by simp only [wx, wy, wz, stV, seval, IntWalk.iteOmega, IntWalk.toNatUp, reduceCtorEq])
theorem cons_c (G : Glob) (hF : G.at 0 = some (.ra (firstK.map wD))) (hG : G.at 1 = some (.ra (constK.map wD))) (l : List (List UInt8)) (m : Int) (hl : l.length ≤ 9223372036854775807) (hb : ∀ x ∈ l, x.length ≤ 1000000000) : Den Tryd.prog G 17 [sls l, .int .i64 m] (.tup [.c (.d (sls (consV l m))), .c (.d (.int .i64 (consE l m)))]) := den_ro2L (cons_f G hF hG l m hl hb)
def sf_chkg : SFn := ⟨5, 76,
  .seq (.reg [⟨(some 10), .mv (.k (.c (.d (.bool false)))), none⟩])
  (.seq (.seq (.reg [⟨(some 15), .mv (.t 1), none⟩,
    ⟨(some 16), .bin .lss (.t 15) (.k (.c (.d (.int .i64 1)))), none⟩,
    ⟨(some 17), .mv (.t 16), none⟩,
    ⟨(some 18), .mv (.t 1), (some (17, false))⟩,
    ⟨(some 19), .mv (.t 3), (some (17, false))⟩,
    ⟨(some 20), .bin .gtr (.t 18) (.t 19), (some (17, false))⟩,
    ⟨(some 21), .pick (.t 17) (.k (.c (.d (.bool true)))) (.t 20), none⟩,
    ⟨(some 22), .mv (.t 21), none⟩,
    ⟨(some 23), .mv (.t 3), (some (22, false))⟩,
    ⟨(some 24), .bin .gtr (.t 23) (.k (.c (.d (.int .i64 1024)))), (some (22, false))⟩,
    ⟨(some 25), .pick (.t 22) (.k (.c (.d (.bool true)))) (.t 24), none⟩])
  (.cond (.t 25) (.seq (.reg [⟨(some 10), .mv (.k (.c (.d (.bool false)))), none⟩])
   (.ret))
   (.skip)))
  (.seq (.seq (.reg [⟨(some 26), .mv (.t 1), none⟩,
    ⟨(some 27), .mv (.t 3), none⟩,
    ⟨(some 28), .bin .eql (.t 26) (.t 27), none⟩])
  (.cond (.t 28) (.seq (.reg [⟨(some 29), .mv (.t 4), none⟩,
     ⟨(some 30), .len (.t 29), none⟩,
     ⟨(some 31), .bin .eql (.t 30) (.k (.c (.d (.int .i64 0)))), none⟩,
     ⟨(some 32), .mv (.t 31), none⟩,
     ⟨(some 33), .mv (.t 0), (some (32, true))⟩,
     ⟨(some 34), .mv (.t 2), (some (32, true))⟩,
     ⟨(some 35), .call 48 [(.t 33), (.t 34)] none, (some (32, true))⟩,
     ⟨(some 36), .pick (.t 32) (.t 35) (.k (.c (.d (.bool false)))), none⟩,
     ⟨(some 10), .mv (.t 36), none⟩])
   (.ret))
   (.skip)))
  (.seq (.reg [⟨(some 37), .mv (.t 1), none⟩,
    ⟨(some 38), .call 41 [(.t 37)] none, none⟩,
    ⟨(some 11), .mv (.t 38), none⟩])
  (.seq (.seq (.reg [⟨(some 39), .mv (.t 11), none⟩,
    ⟨(some 40), .mv (.t 1), none⟩,
    ⟨(some 41), .bin .eql (.t 39) (.t 40), none⟩])
  (.cond (.t 41) (.reg [⟨(some 42), .mv (.t 0), none⟩,
     ⟨(some 43), .bldSl false 1 1 (.sl []) [(0, (.t 42))], none⟩,
     ⟨(some 44), .mv (.t 4), none⟩,
     ⟨(some 45), .bldSl false 2 1 (.sl []) [(0, (.t 43)), (1, (.t 44))], none⟩,
     ⟨(some 46), .call 42 [(.t 45)] none, none⟩,
     ⟨(some 4), .mv (.t 46), none⟩])
   (.skip)))
  (.seq (.reg [⟨(some 47), .mv (.t 3), none⟩,
    ⟨(some 48), .mv (.t 1), none⟩,
    ⟨(some 49), .bin .sub (.t 48) (.k (.c (.d (.int .i64 1)))), none⟩,
    ⟨(some 50), .mv (.t 11), none⟩,
    ⟨(some 51), .call 46 [(.t 47), (.t 49), (.t 50)] none, none⟩,
    ⟨(some 12), .mv (.t 51), none⟩])
  (.seq (.seq (.reg [⟨(some 52), .mv (.t 4), none⟩,
    ⟨(some 53), .len (.t 52), none⟩,
    ⟨(some 54), .mv (.t 12), none⟩,
    ⟨(some 55), .len (.t 54), none⟩,
    ⟨(some 56), .bin .add (.t 55) (.k (.c (.d (.int .i64 1)))), none⟩,
    ⟨(some 57), .bin .neq (.t 53) (.t 56), none⟩])
  (.cond (.t 57) (.seq (.reg [⟨(some 10), .mv (.k (.c (.d (.bool false)))), none⟩])
   (.ret))
   (.skip)))
  (.seq (.reg [⟨(some 59), .mv (.t 4), none⟩,
    ⟨(some 60), .idxSl 1 (.t 59) (.k (.c (.d (.int .i64 0)))), none⟩,
    ⟨(some 61), .load .sc (.t 60), none⟩,
    ⟨(some 62), .mv (.t 4), none⟩,
    ⟨(some 63), .slice 1 (.t 62) (some (.k (.c (.d (.int .i64 1))))) none none, none⟩,
    ⟨(some 64), .mv (.t 12), none⟩,
    ⟨(some 65), .call 49 [(.t 61), (.t 63), (.t 64)] none, none⟩,
    ⟨(some 58), .mv (.t 65), none⟩,
    ⟨(some 66), .extract (.t 58) 0, none⟩,
    ⟨(some 67), .extract (.t 58) 1, none⟩,
    ⟨(some 13), .mv (.t 66), none⟩,
    ⟨(some 14), .mv (.t 67), none⟩])
  (.seq (.reg [⟨(some 68), .mv (.t 13), none⟩,
    ⟨(some 69), .mv (.t 0), none⟩,
    ⟨(some 70), .call 48 [(.t 68), (.t 69)] none, none⟩,
    ⟨(some 71), .mv (.t 70), none⟩,
    ⟨(some 72), .mv (.t 14), (some (71, true))⟩,
    ⟨(some 73), .mv (.t 2), (some (71, true))⟩,
    ⟨(some 74), .call 48 [(.t 72), (.t 73)] none, (some (71, true))⟩,
    ⟨(some 75), .pick (.t 71) (.t 74) (.k (.c (.d (.bool false)))), none⟩,
    ⟨(some 10), .mv (.t 75), none⟩])
  (.ret))))))))),
  [(10, none)]⟩
theorem cf_chkg : compFn Tryd.prog { own := [], comp := [], frz := [], nils := [] } Tryd.f29 = some sf_chkg := by kernel_rfl
set_option maxHeartbeats 3200000 in
theorem chkg_c (G : Glob) (hF : G.at 0 = some (.ra (firstK.map wD))) (hG : G.at 1 = some (.ra (constK.map wD))) (old : List UInt8) (m : Int) (now : List UInt8) (n : Int) (p : List (List UInt8)) (ho : old.length ≤ 1000000000) (hp : p.length ≤ 100000000) (hb : ∀ x ∈ p, x.length ≤ 1000000000) : Den Tryd.prog G 29 [.sl (old.map bD), .int .i64 m, .sl (now.map bD), .int .i64 n, sls p] (.w (.c (.d (.bool (cgB old m now n p))))) := by
  refine den_walk Tryd.func29 cf_chkg rfl rfl ?_
  unfold cgB
  by_cases hv : 1 ≤ m ∧ m ≤ n ∧ n ≤ 1024
  · obtain ⟨h1, h2, h3⟩ := hv
    have hd : decide (1 ≤ m ∧ m ≤ n ∧ n ≤ 1024) = true := decide_eq_true ⟨h1, h2, h3⟩
    rw [hd, Bool.true_and]
    obtain ⟨n, rfl⟩ := Int.eq_ofNat_of_zero_le (by omega : 0 ≤ n)
    obtain ⟨m, rfl⟩ := Int.eq_ofNat_of_zero_le (by omega : 0 ≤ m)
    have e0 : ((m : Int).toNat) = m := rfl
    have e1 : ((n : Int).toNat) = n := rfl
    rw [e0, e1]
    by_cases hmn : m = n
    · subst hmn
      rw [plen_all rfl, grown_all rfl]
      have hs := same_c G old now
      by_cases h0 : p.length = 0
      · have hd0 : decide (p.length = if true = true then 0 else 1) = true := decide_eq_true h0
        rw [hd0]
        have hoo : (old == old) = true := by simp
        simp only [if_true, hoo, Bool.true_and]
        simp only [sf_chkg, putAll, wx, wy, wz, stV, seval, IntWalk.iteOmega, IntWalk.toNatUp, reduceCtorEq, h0]
        refine st_call (hs) rfl (.inl rfl) ?_
        simp only [wx, wy, wz, stV, seval, IntWalk.iteOmega, IntWalk.toNatUp, reduceCtorEq]
        exact ret_d1 (by simp only [wx, wy, wz, stV, seval, IntWalk.iteOmega, IntWalk.toNatUp, reduceCtorEq])
      · have hd0 : decide (p.length = if true = true then 0 else 1) = false := decide_eq_false h0
        rw [hd0, Bool.false_and]
        simp only [sf_chkg, putAll, wx, wy, wz, stV, seval, IntWalk.iteOmega, IntWalk.toNatUp, reduceCtorEq]
        exact ret_d1 (by simp only [wx, wy, wz, stV, seval, IntWalk.iteOmega, IntWalk.toNatUp, reduceCtorEq])
    · have hla := last_c G m (by omega) (by omega)
      obtain ⟨q1, q2⟩ := low_le (m := m) (by omega)
      obtain ⟨k1, k2⟩ := grown_gr old p n m true (by omega) (by omega) (.inl (by omega))
      have hwy := way_c G (lowN m) q1 (by omega) n (m - 1) (by omega) (by omega)
      have hwl := way_le n (m - 1) (lowN m)
      have e2 : ((m - 1 : Nat) : Int) = (m : Int) - 1 := by omega
      rw [e2] at hwy
      by_cases h4 : lowN m = m
      · obtain ⟨k3, k4⟩ := k1 ⟨rfl, h4⟩
        rw [k3, k4]
        have h4' : ((lowN m : Nat) : Int) = (m : Int) := by omega
        have hcc := conc_c G [[old], p] (by simp) (by simp; omega)
        have hfl : [[old], p].flatten = old :: p := by simp
        rw [hfl] at hcc
        have g0 : (old :: p)[0]? = some old := rfl
        have d1 : ((old :: p).drop 1).take (p.length + 1 - 1) = p := by simp
        generalize wayM n (m - 1) (lowN m) = w at *
        by_cases h5 : p.length = w.length
        · rw [decide_eq_true h5, Bool.true_and]
          have hgr := grwn_c G hF hG old p w ho h5 (by omega) hb
          generalize (grF old p w w.length).1 = ra at *
          generalize (grF old p w w.length).2 = rb at *
          have s1 := same_c G ra old
          have s2 := same_c G rb now
          cases hq : ra == old
          · rw [hq] at s1
            rw [Bool.false_and]
            simp only [sf_chkg, putAll, wx, wy, wz, stV, seval, IntWalk.iteOmega, IntWalk.toNatUp, reduceCtorEq]
            refine st_call (hla) rfl (.inl rfl) ?_
            simp only [wx, wy, wz, stV, seval, IntWalk.iteOmega, IntWalk.toNatUp, reduceCtorEq]
            refine st_call (hcc) rfl (.inl rfl) ?_
            simp only [List.length_cons, wx, wy, wz, stV, seval, IntWalk.iteOmega, IntWalk.toNatUp, reduceCtorEq]
            refine st_call (hwy) rfl (.inl rfl) ?_
            simp only [List.length_cons, get_map, g0, d1, allSz_ls, wx, wy, wz, stV, seval, IntWalk.iteOmega, IntWalk.toNatUp, reduceCtorEq]
            refine st_call (hgr) rfl (.inl rfl) ?_
            simp only [wx, wy, wz, stV, seval, IntWalk.iteOmega, IntWalk.toNatUp, reduceCtorEq]
            refine st_call (s1) rfl (.inl rfl) ?_
            simp only [wx, wy, wz, stV, seval, IntWalk.iteOmega, IntWalk.toNatUp, reduceCtorEq]
            exact ret_d1 (by simp only [wx, wy, wz, stV, seval, IntWalk.iteOmega, IntWalk.toNatUp, reduceCtorEq])
          · rw [hq] at s1
            rw [Bool.true_and]
            simp only [sf_chkg, putAll, wx, wy, wz, stV, seval, IntWalk.iteOmega, IntWalk.toNatUp, reduceCtorEq]
            refine st_call (hla) rfl (.inl rfl) ?_
            simp only [wx, wy, wz, stV, seval, IntWalk.iteOmega, IntWalk.toNatUp, reduceCtorEq]
            refine st_call (hcc) rfl (.inl rfl) ?_
            simp only [List.length_cons, wx, wy, wz, stV, seval, IntWalk.iteOmega, IntWalk.toNatUp, reduceCtorEq]
            refine st_call (hwy) rfl (.inl rfl) ?_
            simp only [List.length_cons, get_map, g0, d1, allSz_ls, wx, wy, wz, stV, seval, IntWalk.iteOmega, IntWalk.toNatUp, reduceCtorEq]
            refine st_call (hgr) rfl (.inl rfl) ?_
            simp only [wx, wy, wz, stV, seval, IntWalk.iteOmega, IntWalk.toNatUp, reduceCtorEq]
            refine st_call (s1) rfl (.inl rfl) ?_
            simp only [wx, wy, wz, stV, seval, IntWalk.iteOmega, IntWalk.toNatUp, reduceCtorEq]
            refine st_call (s2) rfl (.inl rfl) ?_
            simp only [wx, wy, wz, stV, seval, IntWalk.iteOmega, IntWalk.toNatUp, reduceCtorEq]
            exact ret_d1 (by simp only [wx, wy, wz, stV, seval, IntWalk.iteOmega, IntWalk.toNatUp, reduceCtorEq])
        · rw [decide_eq_false h5, Bool.false_and]
          simp only [sf_chkg, putAll, wx, wy, wz, stV, seval, IntWalk.iteOmega, IntWalk.toNatUp, reduceCtorEq]
          refine st_call (hla) rfl (.inl rfl) ?_
          simp only [wx, wy, wz, stV, seval, IntWalk.iteOmega, IntWalk.toNatUp, reduceCtorEq]
          refine st_call (hcc) rfl (.inl rfl) ?_
          simp only [List.length_cons, wx, wy, wz, stV, seval, IntWalk.iteOmega, IntWalk.toNatUp, reduceCtorEq]
          refine st_call (hwy) rfl (.inl rfl) ?_
          simp only [List.length_cons, wx, wy, wz, stV, seval, IntWalk.iteOmega, IntWalk.toNatUp, reduceCtorEq]
          exact ret_d1 (by simp only [wx, wy, wz, stV, seval, IntWalk.iteOmega, IntWalk.toNatUp, reduceCtorEq])
      · obtain ⟨k3, k4⟩ := k2 (fun k => h4 k.2)
        rw [k3, k4]
        generalize wayM n (m - 1) (lowN m) = w at *
        by_cases h5 : p.length = w.length + 1
        · rw [decide_eq_true h5, Bool.true_and]
          have g0 := getLs (l := p) (j := 0) (by omega)
          have hx := hb _ (getLs_mem (l := p) (j := 0) (by omega))
          have d1 : (p.drop 1).take w.length = p.drop 1 := List.take_of_length_le (by rw [List.length_drop]; omega)
          have hgr := grwn_c G hF hG (p.getD 0 []) (p.drop 1) w hx (by rw [List.length_drop]; omega) (by omega) (fun x hx => hb x (List.mem_of_mem_drop hx))
          generalize (grF (p.getD 0 []) (p.drop 1) w w.length).1 = ra at *
          generalize (grF (p.getD 0 []) (p.drop 1) w w.length).2 = rb at *
          have s1 := same_c G ra old
          have s2 := same_c G rb now
          cases hq : ra == old
          · rw [hq] at s1
            rw [Bool.false_and]
            simp only [sf_chkg, putAll, wx, wy, wz, stV, seval, IntWalk.iteOmega, IntWalk.toNatUp, reduceCtorEq]
            refine st_call (hla) rfl (.inl rfl) ?_
            simp only [wx, wy, wz, stV, seval, IntWalk.iteOmega, IntWalk.toNatUp, reduceCtorEq]
            refine st_call (hwy) rfl (.inl rfl) ?_
            simp only [h5, get_map, g0, d1, allSz_ls, wx, wy, wz, stV, seval, IntWalk.iteOmega, IntWalk.toNatUp, reduceCtorEq]
            refine st_call (hgr) rfl (.inl rfl) ?_
            simp only [wx, wy, wz, stV, seval, IntWalk.iteOmega, IntWalk.toNatUp, reduceCtorEq]
            refine st_call (s1) rfl (.inl rfl) ?_
            simp only [wx, wy, wz, stV, seval, IntWalk.iteOmega, IntWalk.toNatUp, reduceCtorEq]
            exact ret_d1 (by simp only [wx, wy, wz, stV, seval, IntWalk.iteOmega, IntWalk.toNatUp, reduceCtorEq])
          · rw [hq] at s1
            rw [Bool.true_and]
            simp only [sf_chkg, putAll, wx, wy, wz, stV, seval, IntWalk.iteOmega, IntWalk.toNatUp, reduceCtorEq]
            refine st_call (hla) rfl (.inl rfl) ?_
            simp only [wx, wy, wz, stV, seval, IntWalk.iteOmega, IntWalk.toNatUp, reduceCtorEq]
            refine st_call (hwy) rfl (.inl rfl) ?_
            simp only [h5, get_map, g0, d1, allSz_ls, wx, wy, wz, stV, seval, IntWalk.iteOmega, IntWalk.toNatUp, reduceCtorEq]
            refine st_call (hgr) rfl (.inl rfl) ?_
            simp only [wx, wy, wz, stV, seval, IntWalk.iteOmega, IntWalk.toNatUp, reduceCtorEq]
            refine st_call (s1) rfl (.inl rfl) ?_
            simp only [wx, wy, wz, stV, seval, IntWalk.iteOmega, IntWalk.toNatUp, reduceCtorEq]
            refine st_call (s2) rfl (.inl rfl) ?_
            simp only [wx, wy, wz, stV, seval, IntWalk.iteOmega, IntWalk.toNatUp, reduceCtorEq]
            exact ret_d1 (by simp only [wx, wy, wz, stV, seval, IntWalk.iteOmega, IntWalk.toNatUp, reduceCtorEq])
        · rw [decide_eq_false h5, Bool.false_and]
          simp only [sf_chkg, putAll, wx, wy, wz, stV, seval, IntWalk.iteOmega, IntWalk.toNatUp, reduceCtorEq]
          refine st_call (hla) rfl (.inl rfl) ?_
          simp only [wx, wy, wz, stV, seval, IntWalk.iteOmega, IntWalk.toNatUp, reduceCtorEq]
          refine st_call (hwy) rfl (.inl rfl) ?_
          simp only [wx, wy, wz, stV, seval, IntWalk.iteOmega, IntWalk.toNatUp, reduceCtorEq]
          exact ret_d1 (by simp only [wx, wy, wz, stV, seval, IntWalk.iteOmega, IntWalk.toNatUp, reduceCtorEq])
  · rw [decide_eq_false hv, Bool.false_and]
    by_cases h1 : m < 1
    · simp only [sf_chkg, putAll, wx, wy, wz, stV, seval, IntWalk.iteOmega, IntWalk.toNatUp, reduceCtorEq]
      exact ret_d1 (by simp only [wx, wy, wz, stV, seval, IntWalk.iteOmega, IntWalk.toNatUp, reduceCtorEq])
    · by_cases h2 : n < m
      · simp only [sf_chkg, putAll, wx, wy, wz, stV, seval, IntWalk.iteOmega, IntWalk.toNatUp, reduceCtorEq]
        exact ret_d1 (by simp only [wx, wy, wz, stV, seval, IntWalk.iteOmega, IntWalk.toNatUp, reduceCtorEq])
      · have h3 : 1024 < n := by omega
        simp only [sf_chkg, putAll, wx, wy, wz, stV, seval, IntWalk.iteOmega, IntWalk.toNatUp, reduceCtorEq]
        exact ret_d1 (by simp only [wx, wy, wz, stV, seval, IntWalk.iteOmega, IntWalk.toNatUp, reduceCtorEq])
end Go.Proofs.YtalilcljonkmaaaDoor
