/- Layer 7 on data: what the reference's calls return. Own work. -/
import Derived.Test.YtalilcljonkmaaaDoorPt5
set_option linter.unusedVariables false
set_option linter.unusedSimpArgs false
namespace Go.Proofs.YtalilcljonkmaaaDoor
open Go.RowKit

def sf_rclm : SFn := ⟨4, 46,
  .seq (.reg [⟨(some 8), .mv (.k (.c .nil)), none⟩,
    ⟨(some 9), .mv (.k (.c (.d (.bool false)))), none⟩])
  (.seq (.seq (.reg [⟨(some 13), .mv (.t 0), none⟩,
    ⟨(some 14), .bin .lss (.t 13) (.k (.c (.d (.int .i64 1)))), none⟩,
    ⟨(some 15), .mv (.t 14), none⟩,
    ⟨(some 16), .mv (.t 0), (some (15, false))⟩,
    ⟨(some 17), .bin .gtr (.t 16) (.k (.c (.d (.int .i64 1024)))), (some (15, false))⟩,
    ⟨(some 18), .pick (.t 15) (.k (.c (.d (.bool true)))) (.t 17), none⟩,
    ⟨(some 19), .mv (.t 18), none⟩,
    ⟨(some 20), .mv (.t 1), (some (19, false))⟩,
    ⟨(some 21), .bin .lss (.t 20) (.k (.c (.d (.int .i64 0)))), (some (19, false))⟩,
    ⟨(some 22), .pick (.t 19) (.k (.c (.d (.bool true)))) (.t 21), none⟩,
    ⟨(some 23), .mv (.t 22), none⟩,
    ⟨(some 24), .mv (.t 1), (some (23, false))⟩,
    ⟨(some 25), .mv (.t 0), (some (23, false))⟩,
    ⟨(some 26), .bin .geq (.t 24) (.t 25), (some (23, false))⟩,
    ⟨(some 27), .pick (.t 23) (.k (.c (.d (.bool true)))) (.t 26), none⟩])
  (.cond (.t 27) (.seq (.reg [⟨(some 8), .mv (.k (.c .nil)), none⟩,
     ⟨(some 9), .mv (.k (.c (.d (.bool false)))), none⟩])
   (.ret))
   (.skip)))
  (.seq (.reg [⟨(some 29), .mv (.t 0), none⟩,
    ⟨(some 30), .mv (.t 1), none⟩,
    ⟨(some 31), .mv (.t 2), none⟩,
    ⟨(some 32), .mv (.t 3), none⟩,
    ⟨(some 33), .call 47 [(.t 29), (.t 30), (.t 31), (.t 32)] none, none⟩,
    ⟨(some 28), .mv (.t 33), none⟩,
    ⟨(some 34), .extract (.t 28) 0, none⟩,
    ⟨(some 35), .extract (.t 28) 1, none⟩,
    ⟨(some 36), .extract (.t 28) 2, none⟩,
    ⟨(some 10), .mv (.t 34), none⟩,
    ⟨(some 11), .mv (.t 35), none⟩,
    ⟨(some 12), .mv (.t 36), none⟩])
  (.seq (.seq (.reg [⟨(some 37), .mv (.t 12), none⟩,
    ⟨(some 38), .un .not (.t 37), none⟩,
    ⟨(some 39), .mv (.t 38), none⟩,
    ⟨(some 40), .mv (.t 11), (some (39, false))⟩,
    ⟨(some 41), .mv (.t 3), (some (39, false))⟩,
    ⟨(some 42), .len (.t 41), (some (39, false))⟩,
    ⟨(some 43), .bin .neq (.t 40) (.t 42), (some (39, false))⟩,
    ⟨(some 44), .pick (.t 39) (.k (.c (.d (.bool true)))) (.t 43), none⟩])
  (.cond (.t 44) (.seq (.reg [⟨(some 8), .mv (.k (.c .nil)), none⟩,
     ⟨(some 9), .mv (.k (.c (.d (.bool false)))), none⟩])
   (.ret))
   (.skip)))
  (.seq (.reg [⟨(some 45), .mv (.t 10), none⟩,
    ⟨(some 8), .mv (.t 45), none⟩,
    ⟨(some 9), .mv (.k (.c (.d (.bool true)))), none⟩])
  (.ret))))),
  [(8, none), (9, none)]⟩
theorem cf_rclm : compFn Tryd.prog { own := [], comp := [], frz := [], nils := [] } Tryd.f26 = some sf_rclm := by kernel_rfl
set_option maxHeartbeats 3200000 in
theorem rclm_c (G : Glob) (hF : G.at 0 = some (.ra (firstK.map wD))) (hG : G.at 1 = some (.ra (constK.map wD))) (n i : Int) (leaf : List UInt8) (p : List (List UInt8)) (hf : leaf.length ≤ 1000000000) (hp : p.length ≤ 9223372036854775807) (hb : ∀ x ∈ p, x.length ≤ 1000000000) : Den Tryd.prog G 26 [.int .i64 n, .int .i64 i, .sl (leaf.map bD), sls p] (.tup [.c (.d (.sl ((climbV n i leaf p).map bD))), .c (.d (.bool (climbO n i p)))]) := by
  refine den_walk Tryd.func26 cf_rclm rfl rfl ?_
  by_cases hv : 1 ≤ n ∧ n ≤ 1024 ∧ 0 ≤ i ∧ i < n
  · obtain ⟨h1, h2, h3, h4⟩ := hv
    obtain ⟨n, rfl⟩ := Int.eq_ofNat_of_zero_le (by omega : 0 ≤ n)
    obtain ⟨i, rfl⟩ := Int.eq_ofNat_of_zero_le h3
    have a1 := rcl_c G hF hG leaf p hf hp hb n i (by omega) (by omega)
    by_cases hd : p.length = depthM n i
    · have ho : climbO (n : Int) (i : Int) p = true := decide_eq_true ⟨h1, h2, h3, h4, hd⟩
      have hV : climbV (n : Int) (i : Int) leaf p = climbM n i leaf p := if_pos ho
      have hq : depthM n i ≤ p.length := by omega
      have hV2 : rclV n i leaf p = climbM n i leaf p := if_pos hq
      have hU2 : rclU n i p = (depthM n i : Nat) := if_pos hq
      rw [hV2, hU2, decide_eq_true hq, ← hd] at a1
      rw [ho, hV]
      simp only [sf_rclm, putAll, wx, wy, wz, stV, seval, IntWalk.iteOmega, IntWalk.toNatUp, reduceCtorEq]
      refine st_call (a1) rfl (.inl rfl) ?_
      simp only [wx, wy, wz, stV, seval, IntWalk.iteOmega, IntWalk.toNatUp, reduceCtorEq]
      exact ret_d2 (by simp only [wx, wy, wz, stV, seval, IntWalk.iteOmega, IntWalk.toNatUp, reduceCtorEq]) (by simp only [wx, wy, wz, stV, seval, IntWalk.iteOmega, IntWalk.toNatUp, reduceCtorEq])
    · have ho : climbO (n : Int) (i : Int) p = false := decide_eq_false (fun k => hd k.2.2.2.2)
      have hV : climbV (n : Int) (i : Int) leaf p = [] := if_neg (by rw [ho]; simp)
      rw [ho, hV]
      by_cases hq : depthM n i ≤ p.length
      · have hU2 : rclU n i p = (depthM n i : Nat) := if_pos hq
        rw [hU2, decide_eq_true hq] at a1
        have hlt : depthM n i < p.length := by omega
        generalize depthM n i = d at *
        simp only [sf_rclm, putAll, wx, wy, wz, stV, seval, IntWalk.iteOmega, IntWalk.toNatUp, reduceCtorEq]
        refine st_call (a1) rfl (.inl rfl) ?_
        simp only [wx, wy, wz, stV, seval, IntWalk.iteOmega, IntWalk.toNatUp, reduceCtorEq]
        exact ret_d2 (by simp only [wx, wy, wz, stV, seval, IntWalk.iteOmega, IntWalk.toNatUp, reduceCtorEq]) (by simp only [wx, wy, wz, stV, seval, IntWalk.iteOmega, IntWalk.toNatUp, reduceCtorEq])
      · rw [decide_eq_false hq] at a1
        simp only [sf_rclm, putAll, wx, wy, wz, stV, seval, IntWalk.iteOmega, IntWalk.toNatUp, reduceCtorEq]
        refine st_call (a1) rfl (.inl rfl) ?_
        simp only [wx, wy, wz, stV, seval, IntWalk.iteOmega, IntWalk.toNatUp, reduceCtorEq]
        exact ret_d2 (by simp only [wx, wy, wz, stV, seval, IntWalk.iteOmega, IntWalk.toNatUp, reduceCtorEq]) (by simp only [wx, wy, wz, stV, seval, IntWalk.iteOmega, IntWalk.toNatUp, reduceCtorEq])
  · have ho : climbO n i p = false := decide_eq_false (fun k => hv ⟨k.1, k.2.1, k.2.2.1, k.2.2.2.1⟩)
    have hV : climbV n i leaf p = [] := if_neg (by rw [ho]; simp)
    rw [ho, hV]
    by_cases h1 : n < 1
    · simp only [sf_rclm, putAll, wx, wy, wz, stV, seval, IntWalk.iteOmega, IntWalk.toNatUp, reduceCtorEq]
      exact ret_d2 (by simp only [wx, wy, wz, stV, seval, IntWalk.iteOmega, IntWalk.toNatUp, reduceCtorEq]) (by simp only [wx, wy, wz, stV, seval, IntWalk.iteOmega, IntWalk.toNatUp, reduceCtorEq])
    · by_cases h2 : 1024 < n
      · simp only [sf_rclm, putAll, wx, wy, wz, stV, seval, IntWalk.iteOmega, IntWalk.toNatUp, reduceCtorEq]
        exact ret_d2 (by simp only [wx, wy, wz, stV, seval, IntWalk.iteOmega, IntWalk.toNatUp, reduceCtorEq]) (by simp only [wx, wy, wz, stV, seval, IntWalk.iteOmega, IntWalk.toNatUp, reduceCtorEq])
      · by_cases h3 : i < 0
        · simp only [sf_rclm, putAll, wx, wy, wz, stV, seval, IntWalk.iteOmega, IntWalk.toNatUp, reduceCtorEq]
          exact ret_d2 (by simp only [wx, wy, wz, stV, seval, IntWalk.iteOmega, IntWalk.toNatUp, reduceCtorEq]) (by simp only [wx, wy, wz, stV, seval, IntWalk.iteOmega, IntWalk.toNatUp, reduceCtorEq])
        · have h4 : n ≤ i := by omega
          simp only [sf_rclm, putAll, wx, wy, wz, stV, seval, IntWalk.iteOmega, IntWalk.toNatUp, reduceCtorEq]
          exact ret_d2 (by simp only [wx, wy, wz, stV, seval, IntWalk.iteOmega, IntWalk.toNatUp, reduceCtorEq]) (by simp only [wx, wy, wz, stV, seval, IntWalk.iteOmega, IntWalk.toNatUp, reduceCtorEq])
def sf_rchkt : SFn := ⟨5, 27,
  .seq (.reg [⟨(some 10), .mv (.k (.c (.d (.bool false)))), none⟩])
  (.seq (.reg [⟨(some 14), .mv (.t 1), none⟩,
    ⟨(some 15), .mv (.t 2), none⟩,
    ⟨(some 16), .mv (.t 3), none⟩,
    ⟨(some 17), .mv (.t 4), none⟩,
    ⟨(some 18), .call 26 [(.t 14), (.t 15), (.t 16), (.t 17)] none, none⟩,
    ⟨(some 13), .mv (.t 18), none⟩,
    ⟨(some 19), .extract (.t 13) 0, none⟩,
    ⟨(some 20), .extract (.t 13) 1, none⟩,
    ⟨(some 11), .mv (.t 19), none⟩,
    ⟨(some 12), .mv (.t 20), none⟩])
  (.seq (.reg [⟨(some 21), .mv (.t 12), none⟩,
    ⟨(some 22), .mv (.t 21), none⟩,
    ⟨(some 23), .mv (.t 11), (some (22, true))⟩,
    ⟨(some 24), .mv (.t 0), (some (22, true))⟩,
    ⟨(some 25), .call 19 [(.t 23), (.t 24)] none, (some (22, true))⟩,
    ⟨(some 26), .pick (.t 22) (.t 25) (.k (.c (.d (.bool false)))), none⟩,
    ⟨(some 10), .mv (.t 26), none⟩])
  (.ret))),
  [(10, none)]⟩
theorem cf_rchkt : compFn Tryd.prog { own := [], comp := [], frz := [], nils := [] } Tryd.f28 = some sf_rchkt := by kernel_rfl
set_option maxHeartbeats 1600000 in
theorem rchkt_c (G : Glob) (hF : G.at 0 = some (.ra (firstK.map wD))) (hG : G.at 1 = some (.ra (constK.map wD))) (r : List UInt8) (n i : Int) (leaf : List UInt8) (p : List (List UInt8)) (hf : leaf.length ≤ 1000000000) (hp : p.length ≤ 9223372036854775807) (hb : ∀ x ∈ p, x.length ≤ 1000000000) : Den Tryd.prog G 28 [.sl (r.map bD), .int .i64 n, .int .i64 i, .sl (leaf.map bD), sls p] (.w (.c (.d (.bool (checkB r n i leaf p))))) := by
  refine den_walk Tryd.func28 cf_rchkt rfl rfl ?_
  have hc := rclm_c G hF hG n i leaf p hf hp hb
  unfold checkB
  have hs := rsame_c G (climbV n i leaf p) r
  generalize climbV n i leaf p = v at *
  cases ho : climbO n i p
  · rw [ho] at hc
    simp only [sf_rchkt, putAll, wx, wy, wz, stV, seval, IntWalk.iteOmega, IntWalk.toNatUp, reduceCtorEq]
    refine st_call (hc) rfl (.inl rfl) ?_
    simp only [wx, wy, wz, stV, seval, IntWalk.iteOmega, IntWalk.toNatUp, reduceCtorEq]
    exact ret_d1 (by simp only [wx, wy, wz, stV, seval, IntWalk.iteOmega, IntWalk.toNatUp, reduceCtorEq, Bool.false_and])
  · rw [ho] at hc
    simp only [sf_rchkt, putAll, wx, wy, wz, stV, seval, IntWalk.iteOmega, IntWalk.toNatUp, reduceCtorEq]
    refine st_call (hc) rfl (.inl rfl) ?_
    simp only [wx, wy, wz, stV, seval, IntWalk.iteOmega, IntWalk.toNatUp, reduceCtorEq]
    refine st_call (hs) rfl (.inl rfl) ?_
    simp only [wx, wy, wz, stV, seval, IntWalk.iteOmega, IntWalk.toNatUp, reduceCtorEq]
    exact ret_d1 (by simp only [wx, wy, wz, stV, seval, IntWalk.iteOmega, IntWalk.toNatUp, reduceCtorEq])
def sf_rcons : SFn := ⟨2, 20,
  .seq (.reg [⟨(some 4), .mv (.k (.c .nil)), none⟩,
    ⟨(some 5), .mv (.k (.c (.d (.int .i64 0)))), none⟩])
  (.seq (.seq (.reg [⟨(some 6), .mv (.t 0), none⟩,
    ⟨(some 7), .len (.t 6), none⟩,
    ⟨(some 8), .bin .gtr (.t 7) (.k (.c (.d (.int .i64 1024)))), none⟩])
  (.cond (.t 8) (.seq (.reg [⟨(some 4), .mv (.k (.c .nil)), none⟩,
     ⟨(some 5), .mv (.k (.c (.d (.int .i64 8)))), none⟩])
   (.ret))
   (.skip)))
  (.seq (.seq (.reg [⟨(some 9), .mv (.t 1), none⟩,
    ⟨(some 10), .bin .lss (.t 9) (.k (.c (.d (.int .i64 1)))), none⟩,
    ⟨(some 11), .mv (.t 10), none⟩,
    ⟨(some 12), .mv (.t 1), (some (11, false))⟩,
    ⟨(some 13), .mv (.t 0), (some (11, false))⟩,
    ⟨(some 14), .len (.t 13), (some (11, false))⟩,
    ⟨(some 15), .bin .gtr (.t 12) (.t 14), (some (11, false))⟩,
    ⟨(some 16), .pick (.t 11) (.k (.c (.d (.bool true)))) (.t 15), none⟩])
  (.cond (.t 16) (.seq (.reg [⟨(some 4), .mv (.k (.c .nil)), none⟩,
     ⟨(some 5), .mv (.k (.c (.d (.int .i64 4)))), none⟩])
   (.ret))
   (.skip)))
  (.seq (.reg [⟨(some 17), .mv (.t 1), none⟩,
    ⟨(some 18), .mv (.t 0), none⟩,
    ⟨(some 19), .call 43 [(.t 17), (.t 18), (.k (.c (.d (.bool true))))] (some (0, 1)), none⟩,
    ⟨(some 4), .mv (.t 19), none⟩,
    ⟨(some 5), .mv (.k (.c (.d (.int .i64 0)))), none⟩])
  (.ret)))),
  [(4, none), (5, none)]⟩
theorem cf_rcons : compFn Tryd.prog { own := [19], comp := [], frz := [], nils := [] } Tryd.f18 = some sf_rcons := by kernel_rfl
set_option maxHeartbeats 3200000 in
theorem rcons_f (G : Glob) (hF : G.at 0 = some (.ra (firstK.map wD))) (hG : G.at 1 = some (.ra (constK.map wD))) (l : List (List UInt8)) (m : Int) (hl : l.length ≤ 9223372036854775807) (hb : ∀ x ∈ l, x.length ≤ 1000000000) : Den Tryd.prog G 18 [sls l, .int .i64 m] (.tup [.c (.fr 1 ((consV l m).map fun l => D.sl (l.map bD))), .c (.d (.int .i64 (consE l m)))]) := by
  refine den_walk Tryd.func18 cf_rcons rfl rfl ?_
  by_cases h : 1024 < l.length
  · have hE : consE l m = 8 := if_pos h
    have hV : consV l m = [] := if_neg (by rw [hE]; decide)
    rw [hE, hV]
    simp only [sf_rcons, putAll, wx, wy, wz, stV, seval, IntWalk.iteOmega, IntWalk.toNatUp, reduceCtorEq]
    exact ret_f2 (by simp only [wx, wy, wz, stV, seval, IntWalk.iteOmega, IntWalk.toNatUp, reduceCtorEq]) (by simp only [wx, wy, wz, stV, seval, IntWalk.iteOmega, IntWalk.toNatUp, reduceCtorEq])
  · by_cases h1 : m < 1
    · have hE : consE l m = 4 := by unfold consE; rw [if_neg h, if_pos (.inl h1)]
      have hV : consV l m = [] := if_neg (by rw [hE]; decide)
      rw [hE, hV]
      simp only [sf_rcons, putAll, wx, wy, wz, stV, seval, IntWalk.iteOmega, IntWalk.toNatUp, reduceCtorEq]
      exact ret_f2 (by simp only [wx, wy, wz, stV, seval, IntWalk.iteOmega, IntWalk.toNatUp, reduceCtorEq]) (by simp only [wx, wy, wz, stV, seval, IntWalk.iteOmega, IntWalk.toNatUp, reduceCtorEq])
    · by_cases h2 : (l.length : Int) < m
      · have hE : consE l m = 4 := by unfold consE; rw [if_neg h, if_pos (.inr h2)]
        have hV : consV l m = [] := if_neg (by rw [hE]; decide)
        rw [hE, hV]
        simp only [sf_rcons, putAll, wx, wy, wz, stV, seval, IntWalk.iteOmega, IntWalk.toNatUp, reduceCtorEq]
        exact ret_f2 (by simp only [wx, wy, wz, stV, seval, IntWalk.iteOmega, IntWalk.toNatUp, reduceCtorEq]) (by simp only [wx, wy, wz, stV, seval, IntWalk.iteOmega, IntWalk.toNatUp, reduceCtorEq])
      · have hE : consE l m = 0 := by unfold consE; rw [if_neg h, if_neg (by omega)]
        have hV : consV l m = proofM m.toNat l true := if_pos hE
        rw [hE, hV]
        obtain ⟨m, rfl⟩ := Int.eq_ofNat_of_zero_le (by omega : 0 ≤ m)
        have e0 : ((m : Int).toNat) = m := rfl
        rw [e0]
        simp only [sf_rcons, putAll, wx, wy, wz, stV, seval, IntWalk.iteOmega, IntWalk.toNatUp, reduceCtorEq]
        refine st_call (rprf_f G hF hG l.length l m true rfl (by omega) (by omega) (by omega) hb) rfl (.inl rfl) ?_
        simp only [wx, wy, wz, stV, seval, IntWalk.iteOmega, IntWalk.toNatUp, reduceCtorEq]
        exact ret_f2 (by simp only [wx, wy, wz, stV, seval, IntWalk.iteOmega, IntWalk.toNatUp, reduceCtorEq]) (by simp only [wx, wy, wz, stV, seval, IntWalk.iteOmega, IntWalk.toNatUp, reduceCtorEq])
theorem rcons_c (G : Glob) (hF : G.at 0 = some (.ra (firstK.map wD))) (hG : G.at 1 = some (.ra (constK.map wD))) (l : List (List UInt8)) (m : Int) (hl : l.length ≤ 9223372036854775807) (hb : ∀ x ∈ l, x.length ≤ 1000000000) : Den Tryd.prog G 18 [sls l, .int .i64 m] (.tup [.c (.d (sls (consV l m))), .c (.d (.int .i64 (consE l m)))]) := den_ro2L (rcons_f G hF hG l m hl hb)
def sf_rchkg : SFn := ⟨5, 53,
  .seq (.reg [⟨(some 10), .mv (.k (.c (.d (.bool false)))), none⟩])
  (.seq (.seq (.reg [⟨(some 15), .mv (.t 1), none⟩,
    ⟨(some 16), .bin .lss (.t 15) (.k (.c (.d (.int .i64 1)))), none⟩,
    ⟨(some 17), .mv (.t 16), none⟩,
    ⟨(some 18), .mv (.t 1), (some (17, false))⟩,
    ⟨(some 19), .mv (.t 3), (some (17, false))⟩,
    ⟨(some 20), .bin .gtr (.t 18) (.t 19), (some (17, false))⟩,
    ⟨(some 21), .pick (.t 17) (.k (.c (.d (.bool true)))) (.t 20), none⟩,
    ⟨(some 22), .mv (.t 21), none⟩,
    ⟨(some 23), .mv (.t 3), (some (22, false))⟩,
    ⟨(some 24), .bin .gtr (.t 23) (.k (.c (.d (.int .i64 1024)))), (some (22, false))⟩,
    ⟨(some 25), .pick (.t 22) (.k (.c (.d (.bool true)))) (.t 24), none⟩])
  (.cond (.t 25) (.seq (.reg [⟨(some 10), .mv (.k (.c (.d (.bool false)))), none⟩])
   (.ret))
   (.skip)))
  (.seq (.reg [⟨(some 27), .mv (.t 1), none⟩,
    ⟨(some 28), .mv (.t 3), none⟩,
    ⟨(some 29), .mv (.t 0), none⟩,
    ⟨(some 30), .mv (.t 4), none⟩,
    ⟨(some 31), .call 50 [(.t 27), (.t 28), (.k (.c (.d (.bool true)))), (.t 29), (.t 30)] none, none⟩,
    ⟨(some 26), .mv (.t 31), none⟩,
    ⟨(some 32), .extract (.t 26) 0, none⟩,
    ⟨(some 33), .extract (.t 26) 1, none⟩,
    ⟨(some 34), .extract (.t 26) 2, none⟩,
    ⟨(some 35), .extract (.t 26) 3, none⟩,
    ⟨(some 11), .mv (.t 32), none⟩,
    ⟨(some 12), .mv (.t 33), none⟩,
    ⟨(some 13), .mv (.t 34), none⟩,
    ⟨(some 14), .mv (.t 35), none⟩])
  (.seq (.reg [⟨(some 36), .mv (.t 14), none⟩,
    ⟨(some 37), .mv (.t 36), none⟩,
    ⟨(some 38), .mv (.t 13), (some (37, true))⟩,
    ⟨(some 39), .mv (.t 4), (some (37, true))⟩,
    ⟨(some 40), .len (.t 39), (some (37, true))⟩,
    ⟨(some 41), .bin .eql (.t 38) (.t 40), (some (37, true))⟩,
    ⟨(some 42), .pick (.t 37) (.t 41) (.k (.c (.d (.bool false)))), none⟩,
    ⟨(some 43), .mv (.t 42), none⟩,
    ⟨(some 44), .mv (.t 11), (some (43, true))⟩,
    ⟨(some 45), .mv (.t 0), (some (43, true))⟩,
    ⟨(some 46), .call 19 [(.t 44), (.t 45)] none, (some (43, true))⟩,
    ⟨(some 47), .pick (.t 43) (.t 46) (.k (.c (.d (.bool false)))), none⟩,
    ⟨(some 48), .mv (.t 47), none⟩,
    ⟨(some 49), .mv (.t 12), (some (48, true))⟩,
    ⟨(some 50), .mv (.t 2), (some (48, true))⟩,
    ⟨(some 51), .call 19 [(.t 49), (.t 50)] none, (some (48, true))⟩,
    ⟨(some 52), .pick (.t 48) (.t 51) (.k (.c (.d (.bool false)))), none⟩,
    ⟨(some 10), .mv (.t 52), none⟩])
  (.ret)))),
  [(10, none)]⟩
theorem cf_rchkg : compFn Tryd.prog { own := [], comp := [], frz := [], nils := [] } Tryd.f30 = some sf_rchkg := by kernel_rfl
set_option maxHeartbeats 3200000 in
theorem rchkg_c (G : Glob) (hF : G.at 0 = some (.ra (firstK.map wD))) (hG : G.at 1 = some (.ra (constK.map wD))) (old : List UInt8) (m : Int) (now : List UInt8) (n : Int) (p : List (List UInt8)) (ho : old.length ≤ 1000000000) (hp : p.length ≤ 100000000) (hb : ∀ x ∈ p, x.length ≤ 1000000000) : Den Tryd.prog G 30 [.sl (old.map bD), .int .i64 m, .sl (now.map bD), .int .i64 n, sls p] (.w (.c (.d (.bool (cgB old m now n p))))) := by
  refine den_walk Tryd.func30 cf_rchkg rfl rfl ?_
  unfold cgB
  by_cases hv : 1 ≤ m ∧ m ≤ n ∧ n ≤ 1024
  · obtain ⟨h1, h2, h3⟩ := hv
    have hd : decide (1 ≤ m ∧ m ≤ n ∧ n ≤ 1024) = true := decide_eq_true ⟨h1, h2, h3⟩
    rw [hd, Bool.true_and]
    obtain ⟨n, rfl⟩ := Int.eq_ofNat_of_zero_le (by omega : 0 ≤ n)
    obtain ⟨m, rfl⟩ := Int.eq_ofNat_of_zero_le (by omega : 0 ≤ m)
    have e0 : ((m : Int).toNat) = m := rfl
    have e1 : ((n : Int).toNat) = n := rfl
    rw [e0, e1]
    have a1 := rgr_c G hF hG old p ho (by omega) hb n m true (by omega) (by omega) (by omega)
    by_cases hq : plenM m n true ≤ p.length
    · have hV2 : rgrV m n true old p = grownM m n true old p := if_pos hq
      have hU2 : rgrU m n true p = (plenM m n true : Nat) := if_pos hq
      rw [hV2, hU2, decide_eq_true hq] at a1
      have s1 := rsame_c G (grownM m n true old p).1 old
      have s2 := rsame_c G (grownM m n true old p).2 now
      by_cases hd : p.length = plenM m n true
      · rw [decide_eq_true hd, Bool.true_and]
        rw [← hd] at a1
        generalize (grownM m n true old p).1 = ra at *
        generalize (grownM m n true old p).2 = rb at *
        cases hr : ra == old
        · rw [hr] at s1
          rw [Bool.false_and]
          simp only [sf_rchkg, putAll, wx, wy, wz, stV, seval, IntWalk.iteOmega, IntWalk.toNatUp, reduceCtorEq]
          refine st_call (a1) rfl (.inl rfl) ?_
          simp only [wx, wy, wz, stV, seval, IntWalk.iteOmega, IntWalk.toNatUp, reduceCtorEq]
          refine st_call (s1) rfl (.inl rfl) ?_
          simp only [wx, wy, wz, stV, seval, IntWalk.iteOmega, IntWalk.toNatUp, reduceCtorEq]
          exact ret_d1 (by simp only [wx, wy, wz, stV, seval, IntWalk.iteOmega, IntWalk.toNatUp, reduceCtorEq])
        · rw [hr] at s1
          rw [Bool.true_and]
          simp only [sf_rchkg, putAll, wx, wy, wz, stV, seval, IntWalk.iteOmega, IntWalk.toNatUp, reduceCtorEq]
          refine st_call (a1) rfl (.inl rfl) ?_
          simp only [wx, wy, wz, stV, seval, IntWalk.iteOmega, IntWalk.toNatUp, reduceCtorEq]
          refine st_call (s1) rfl (.inl rfl) ?_
          simp only [wx, wy, wz, stV, seval, IntWalk.iteOmega, IntWalk.toNatUp, reduceCtorEq]
          refine st_call (s2) rfl (.inl rfl) ?_
          simp only [wx, wy, wz, stV, seval, IntWalk.iteOmega, IntWalk.toNatUp, reduceCtorEq]
          exact ret_d1 (by simp only [wx, wy, wz, stV, seval, IntWalk.iteOmega, IntWalk.toNatUp, reduceCtorEq])
      · rw [decide_eq_false hd, Bool.false_and]
        have hlt : plenM m n true < p.length := by omega
        generalize plenM m n true = d at *
        simp only [sf_rchkg, putAll, wx, wy, wz, stV, seval, IntWalk.iteOmega, IntWalk.toNatUp, reduceCtorEq]
        refine st_call (a1) rfl (.inl rfl) ?_
        simp only [wx, wy, wz, stV, seval, IntWalk.iteOmega, IntWalk.toNatUp, reduceCtorEq]
        exact ret_d1 (by simp only [wx, wy, wz, stV, seval, IntWalk.iteOmega, IntWalk.toNatUp, reduceCtorEq])
    · rw [decide_eq_false hq] at a1
      rw [decide_eq_false (fun k => hq (by omega)), Bool.false_and]
      simp only [sf_rchkg, putAll, wx, wy, wz, stV, seval, IntWalk.iteOmega, IntWalk.toNatUp, reduceCtorEq]
      refine st_call (a1) rfl (.inl rfl) ?_
      simp only [wx, wy, wz, stV, seval, IntWalk.iteOmega, IntWalk.toNatUp, reduceCtorEq]
      exact ret_d1 (by simp only [wx, wy, wz, stV, seval, IntWalk.iteOmega, IntWalk.toNatUp, reduceCtorEq])
  · rw [decide_eq_false hv, Bool.false_and]
    by_cases h1 : m < 1
    · simp only [sf_rchkg, putAll, wx, wy, wz, stV, seval, IntWalk.iteOmega, IntWalk.toNatUp, reduceCtorEq]
      exact ret_d1 (by simp only [wx, wy, wz, stV, seval, IntWalk.iteOmega, IntWalk.toNatUp, reduceCtorEq])
    · by_cases h2 : n < m
      · simp only [sf_rchkg, putAll, wx, wy, wz, stV, seval, IntWalk.iteOmega, IntWalk.toNatUp, reduceCtorEq]
        exact ret_d1 (by simp only [wx, wy, wz, stV, seval, IntWalk.iteOmega, IntWalk.toNatUp, reduceCtorEq])
      · have h3 : 1024 < n := by omega
        simp only [sf_rchkg, putAll, wx, wy, wz, stV, seval, IntWalk.iteOmega, IntWalk.toNatUp, reduceCtorEq]
        exact ret_d1 (by simp only [wx, wy, wz, stV, seval, IntWalk.iteOmega, IntWalk.toNatUp, reduceCtorEq])
end Go.Proofs.YtalilcljonkmaaaDoor
