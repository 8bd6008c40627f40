/- Layer 17 on data: the reference: Decode, Places, Find; lists of fields that are the same. Own work. -/
import Derived.Test.YtldcgjhfaledfaaPf4
set_option linter.unusedVariables false
set_option linter.unusedSimpArgs false
namespace Go.Proofs.Ytldcgjhfaledfaa
open Go.RowKit

def rwkSt (l : List UInt8) (k : Nat) : St := ⟨ofL [(0, .w (.c (.d (.sl (l.map bD))))), (5, .w (.c (.own 1 2 0 (rfs l k).length))), (6, .w (.c (.own 2 1 0 (rps l k).length))), (7, .w (.c (.d (.int .i64 (plN l k : Int)))))], hL [(1, .row 2 ((rfs l k).map fdD)), (2, .row 1 ((rps l k).map zD))], uL [1, 2]⟩
theorem xd_err {l : List UInt8} {e : Int} (h : eaE l = e) (he : e ≠ 0) : xdL l = [] ∧ xpL l = [] := by
  unfold xdL xpL
  rw [h, if_neg he, if_neg he]
  exact ⟨rfl, rfl⟩
theorem xd_ok {l : List UInt8} {k : Nat} (h : eaE l = 0) (hk : eaN l = k) : xdL l = rfs l k ∧ xpL l = rps l k := by
  unfold xdL xpL
  rw [if_pos h, if_pos h, hk]
  exact ⟨rfl, rfl⟩
theorem cut_sub (l : List UInt8) (p a b : Nat) : (l.drop (p + a)).take (p + b - (p + a)) = cutN l (p + a) (b - a) := by
  rw [show p + b - (p + a) = b - a by omega]; rfl
def lp_rwlk_0 : SCode :=
  .seq (.seq (.reg [⟨(some 12), .mv (.t 7), none⟩,
    ⟨(some 13), .mv (.t 0), none⟩,
    ⟨(some 14), .len (.t 13), none⟩,
    ⟨(some 15), .bin .lss (.t 12) (.t 14), none⟩])
  (.cond (.t 15) (.skip)
   (.exit 0)))
  (.block 1 (.seq (.seq (.reg [⟨(some 16), .mv (.t 0), none⟩,
     ⟨(some 17), .len (.t 16), none⟩,
     ⟨(some 18), .mv (.t 7), none⟩,
     ⟨(some 19), .bin .sub (.t 17) (.t 18), none⟩,
     ⟨(some 20), .bin .lss (.t 19) (.k (.c (.d (.int .i64 4)))), none⟩])
   (.cond (.t 20) (.seq (.reg [⟨(some 2), .mv (.k (.c .nil)), none⟩,
      ⟨(some 3), .mv (.k (.c .nil)), none⟩,
      ⟨(some 4), .mv (.k (.c (.d (.int .i64 1)))), none⟩])
    (.ret))
    (.skip)))
   (.seq (.reg [⟨(some 21), .mv (.t 0), none⟩,
     ⟨(some 22), .mv (.t 7), none⟩,
     ⟨(some 23), .bin .add (.t 22) (.k (.c (.d (.int .i64 2)))), none⟩,
     ⟨(some 24), .mv (.t 7), none⟩,
     ⟨(some 25), .bin .add (.t 24) (.k (.c (.d (.int .i64 4)))), none⟩,
     ⟨(some 26), .slice 1 (.t 21) (some (.t 23)) (some (.t 25)) none, none⟩,
     ⟨(some 27), .call 42 [(.t 26)] none, none⟩,
     ⟨(some 28), .conv .i64 (.t 27), none⟩,
     ⟨(some 8), .mv (.t 28), none⟩])
   (.seq (.seq (.reg [⟨(some 29), .mv (.t 8), none⟩,
     ⟨(some 30), .bin .rem (.t 29) (.k (.c (.d (.int .i64 4)))), none⟩,
     ⟨(some 31), .bin .neq (.t 30) (.k (.c (.d (.int .i64 0)))), none⟩,
     ⟨(some 32), .mv (.t 31), none⟩,
     ⟨(some 33), .mv (.t 8), (some (32, false))⟩,
     ⟨(some 34), .bin .lss (.t 33) (.k (.c (.d (.int .i64 16)))), (some (32, false))⟩,
     ⟨(some 35), .pick (.t 32) (.k (.c (.d (.bool true)))) (.t 34), none⟩])
   (.cond (.t 35) (.seq (.reg [⟨(some 2), .mv (.k (.c .nil)), none⟩,
      ⟨(some 3), .mv (.k (.c .nil)), none⟩,
      ⟨(some 4), .mv (.k (.c (.d (.int .i64 3)))), none⟩])
    (.ret))
    (.skip)))
   (.seq (.seq (.reg [⟨(some 36), .mv (.t 0), none⟩,
     ⟨(some 37), .len (.t 36), none⟩,
     ⟨(some 38), .mv (.t 7), none⟩,
     ⟨(some 39), .bin .sub (.t 37) (.t 38), none⟩,
     ⟨(some 40), .mv (.t 8), none⟩,
     ⟨(some 41), .bin .lss (.t 39) (.t 40), none⟩])
   (.cond (.t 41) (.seq (.reg [⟨(some 2), .mv (.k (.c .nil)), none⟩,
      ⟨(some 3), .mv (.k (.c .nil)), none⟩,
      ⟨(some 4), .mv (.k (.c (.d (.int .i64 1)))), none⟩])
    (.ret))
    (.skip)))
   (.seq (.seq (.reg [⟨(some 42), .mv (.t 5), none⟩,
     ⟨(some 43), .len (.t 42), none⟩,
     ⟨(some 44), .bin .eql (.t 43) (.k (.c (.d (.int .i64 24)))), none⟩])
   (.cond (.t 44) (.seq (.reg [⟨(some 2), .mv (.k (.c .nil)), none⟩,
      ⟨(some 3), .mv (.k (.c .nil)), none⟩,
      ⟨(some 4), .mv (.k (.c (.d (.int .i64 8)))), none⟩])
    (.ret))
    (.skip)))
   (.seq (.reg [⟨(some 45), .mv (.t 5), none⟩,
     ⟨(some 46), .mv (.t 0), none⟩,
     ⟨(some 47), .mv (.t 7), none⟩,
     ⟨(some 48), .mv (.t 7), none⟩,
     ⟨(some 49), .bin .add (.t 48) (.k (.c (.d (.int .i64 2)))), none⟩,
     ⟨(some 50), .slice 1 (.t 46) (some (.t 47)) (some (.t 49)) none, none⟩,
     ⟨(some 51), .call 42 [(.t 50)] none, none⟩,
     ⟨(some 52), .conv .i64 (.t 51), none⟩,
     ⟨(some 53), .mv (.t 0), none⟩,
     ⟨(some 54), .mv (.t 7), none⟩,
     ⟨(some 55), .bin .add (.t 54) (.k (.c (.d (.int .i64 4)))), none⟩,
     ⟨(some 56), .mv (.t 7), none⟩,
     ⟨(some 57), .mv (.t 8), none⟩,
     ⟨(some 58), .bin .add (.t 56) (.t 57), none⟩,
     ⟨(some 59), .slice 1 (.t 53) (some (.t 55)) (some (.t 58)) none, none⟩,
     ⟨(some 60), .bldSl false 1 1 (.sl []) [(0, (.t 59))], none⟩,
     ⟨(some 61), .call 25 [(.t 60)] none, none⟩,
     ⟨(some 62), .build [(.d (.int .i64 0)), .nil] [(0, 1, (.t 52)), (1, 1, (.t 61))], none⟩,
     ⟨(some 63), .bldSl false 1 2 (.agg [(.int .i64 0), (.sl [])]) [(0, (.t 62))], none⟩,
     ⟨(some 64), .app false 2 32 (.t 45) (.t 63), none⟩,
     ⟨(some 65), .mv (.t 6), none⟩,
     ⟨(some 66), .mv (.t 7), none⟩,
     ⟨(some 67), .bldSl false 1 1 (.int .i64 0) [(0, (.t 66))], none⟩,
     ⟨(some 68), .app false 1 8 (.t 65) (.t 67), none⟩,
     ⟨(some 5), .mv (.t 64), none⟩,
     ⟨(some 6), .mv (.t 68), none⟩])
   (.reg [⟨(some 69), .mv (.t 7), none⟩,
     ⟨(some 70), .mv (.t 8), none⟩,
     ⟨(some 71), .bin .add (.t 69) (.t 70), none⟩,
     ⟨(some 7), .mv (.t 71), none⟩]))))))))
def sf_rwlk : SFn := ⟨1, 74,
  .seq (.reg [⟨(some 2), .mv (.k (.c .nil)), none⟩,
    ⟨(some 3), .mv (.k (.c .nil)), none⟩,
    ⟨(some 4), .mv (.k (.c (.d (.int .i64 0)))), none⟩])
  (.seq (.seq (.reg [⟨(some 9), .mv (.t 0), none⟩,
    ⟨(some 10), .len (.t 9), none⟩,
    ⟨(some 11), .bin .gtr (.t 10) (.k (.c (.d (.int .i64 1232)))), none⟩])
  (.cond (.t 11) (.seq (.reg [⟨(some 2), .mv (.k (.c .nil)), none⟩,
     ⟨(some 3), .mv (.k (.c .nil)), none⟩,
     ⟨(some 4), .mv (.k (.c (.d (.int .i64 2)))), none⟩])
   (.ret))
   (.skip)))
  (.seq (.reg [⟨(some 5), .nilOwn 2, none⟩])
  (.seq (.reg [⟨(some 6), .nilOwn 1, none⟩])
  (.seq (.seq (.reg [⟨(some 7), .mv (.k (.c (.d (.int .i64 0)))), none⟩])
  (.block 0 (.loop lp_rwlk_0)))
  (.seq (.reg [⟨(some 72), .mv (.t 5), none⟩,
    ⟨(some 73), .mv (.t 6), none⟩,
    ⟨(some 2), .mv (.t 72), none⟩,
    ⟨(some 3), .mv (.t 73), none⟩,
    ⟨(some 4), .mv (.k (.c (.d (.int .i64 0)))), none⟩])
  (.ret)))))),
  [(2, none), (3, none), (4, none)]⟩
theorem cf_rwlk : compFn Try.prog { own := [5, 6], comp := [], frz := [], nils := [] } Try.f35 = some sf_rwlk := by kernel_rfl
set_option maxHeartbeats 6400000 in
theorem rwlk_c (G : Glob) (l : List UInt8) (hl : l.length ≤ 9000000000000000000) : Den Try.prog G 35 [.sl (l.map bD)] (.tup [.c (.d (.sl ((xdL l).map fdD))), .c (.d (.sl ((xpL l).map zD))), .c (.d (.int .i64 (eaE l)))]) := by
  refine den_walk Try.func35 cf_rwlk rfl rfl ?_
  rcases Nat.lt_or_ge 1232 l.length with h1 | h1
  · have e1 : eaE l = 2 := if_pos h1
    obtain ⟨e2, e3⟩ := xd_err e1 (by decide)
    rw [e1, e2, e3]
    have g1 : ((l.length : Int) > 1232) = True := eq_true (by omega)
    simp only [sf_rwlk, putAll, wx, wy, wz, stV, seval, IntWalk.iteOmega, IntWalk.toNatUp, reduceCtorEq, g1]
    exact ret_d3 (by simp only [wx, wy, wz, stV, seval, IntWalk.iteOmega, IntWalk.toNatUp, reduceCtorEq]) (by simp only [wx, wy, wz, stV, seval, IntWalk.iteOmega, IntWalk.toNatUp, reduceCtorEq]) (by simp only [wx, wy, wz, stV, seval, IntWalk.iteOmega, IntWalk.toNatUp, reduceCtorEq])
  · have eN : eaN l = cntN l := if_neg (by omega)
    have eE : eaE l = (stE l (cntN l)).getD 0 := if_neg (by omega)
    obtain ⟨c1, c2, c3⟩ := cntN_ok l
    have g1 : ((l.length : Int) > 1232) = False := eq_false (by omega)
    simp only [sf_rwlk, putAll, wx, wy, wz, stV, seval, IntWalk.iteOmega, IntWalk.toNatUp, reduceCtorEq, g1]
    refine loop_st (rwkSt l) (fun k => cntN l - k) (fun k => k ≤ cntN l) 0 (Nat.zero_le _) ?_ ?_
    · have r0 : rfs l 0 = [] := rfl
      have p0 : rps l 0 = [] := rfl
      have n0 : plN l 0 = 0 := rfl
      refine ent_l (fun i => if i = 1 then 40 else 48) ?_ ?_ rfl rfl <;> simp only [r0, p0, n0, wx, wex, wez, stV, seval, IntWalk.iteOmega, IntWalk.toNatUp, reduceCtorEq]
    · intro k hk
      have hp := plN_le l k hk
      have hend : ∀ x, stE l k = some x → cntN l = k ∧ eaE l = x := fun x hx => by
        have e : cntN l = k := by
          rcases Nat.lt_or_ge k (cntN l) with h | h
          · rw [c3 k h] at hx; cases hx
          · omega
        exact ⟨e, by rw [eE, e, hx]; rfl⟩
      have hk24 : k ≤ 24 := by omega
      have lf := rfs_len l k
      have lp := rps_len l k
      have est : rwkSt l k = ⟨ofL [(0, .w (.c (.d (.sl (l.map bD))))), (5, .w (.c (.own 1 2 0 (rfs l k).length))), (6, .w (.c (.own 2 1 0 (rps l k).length))), (7, .w (.c (.d (.int .i64 (plN l k : Int)))))], hL [(1, .row 2 ((rfs l k).map fdD)), (2, .row 1 ((rps l k).map zD))], uL [1, 2]⟩ := rfl
      have cg : 4 ≤ l.length - plN l k → Den Try.prog G _ [.sl ((cutN l (plN l k + 2) 2).map bD)] (.w (.c (.d (.int .u64 (rdN l (plN l k)))))) := fun h => rget_c G (cutN l (plN l k + 2) 2) (by rw [cutN_len (by omega)]; decide)
      have hz16 : 4 ≤ l.length - plN l k → rdN l (plN l k) < 65536 := fun h => rdN_lt l _ (by omega)
      have cs : (l.drop (plN l k + 2)).take (plN l k + 2 - plN l k) = cutN l (plN l k + 2) 2 := by rw [Nat.add_sub_cancel_left]; rfl
      cases hst : stE l k with
      | some x =>
        obtain ⟨e1, e2⟩ := hend x hst
        clear hend c3 c2 eE
        unfold stE at hst
        split at hst
        · rename_i q1
          obtain rfl := Option.some.inj hst
          obtain ⟨x1, x2⟩ := xd_ok (k := k) e2 (by rw [eN, e1])
          rw [e2, x1, x2, est]
          clear est cg hz16 cs
          simp only [lp_rwlk_0, wx, wy, wz, stV, seval, IntWalk.iteOmega, IntWalk.toNatUp, reduceCtorEq]
          exact ret_d3 (by simp only [wx, wy, wz, stV, seval, IntWalk.iteOmega, IntWalk.toNatUp, reduceCtorEq]) (by simp only [wx, wy, wz, stV, seval, IntWalk.iteOmega, IntWalk.toNatUp, reduceCtorEq]) (by simp only [wx, wy, wz, stV, seval, IntWalk.iteOmega, IntWalk.toNatUp, reduceCtorEq])
        · rename_i q1
          have q1' : (plN l k : Int) < (l.length : Int) := by omega
          split at hst
          · rename_i q2
            obtain rfl := Option.some.inj hst
            obtain ⟨x1, x2⟩ := xd_err e2 q2
            rw [e2, x1, x2, est]
            clear est e2 e1 x1 x2
            rcases Nat.lt_or_ge (l.length - plN l k) 4 with q3 | q3
            · rw [show frE (l.length - plN l k) (rdN l (plN l k)) = 1 from if_pos q3]
              clear cg hz16 cs
              simp only [lp_rwlk_0, wx, wy, wz, stV, seval, IntWalk.iteOmega, IntWalk.toNatUp, reduceCtorEq]
              exact ret_d3 (by simp only [wx, wy, wz, stV, seval, IntWalk.iteOmega, IntWalk.toNatUp, reduceCtorEq]) (by simp only [wx, wy, wz, stV, seval, IntWalk.iteOmega, IntWalk.toNatUp, reduceCtorEq]) (by simp only [wx, wy, wz, stV, seval, IntWalk.iteOmega, IntWalk.toNatUp, reduceCtorEq])
            · have cg' := cg q3
              have hz' := hz16 q3
              clear cg hz16
              have ef : frE (l.length - plN l k) (rdN l (plN l k)) = if rdN l (plN l k) % 4 ≠ 0 ∨ rdN l (plN l k) < 16 then 3 else if l.length - plN l k < rdN l (plN l k) then 1 else 0 := if_neg (by omega)
              have hm := tmod4 (rdN l (plN l k))
              generalize rdN l (plN l k) = z at *
              by_cases h2 : z % 4 = 0
              · have g2 : (((z % 4 : Nat) : Int) = 0) = True := eq_true (by omega)
                rcases Nat.lt_or_ge z 16 with h3 | h3
                · rw [show frE (l.length - plN l k) z = 3 by rw [ef, if_pos (.inr h3)]]
                  clear ef q2
                  simp only [lp_rwlk_0, wx, wy, wz, stV, seval, IntWalk.iteOmega, IntWalk.toNatUp, reduceCtorEq, cs]
                  refine st_call cg' rfl (.inl rfl) ?_
                  simp only [wx, wy, wz, stV, seval, IntWalk.iteOmega, IntWalk.toNatUp, reduceCtorEq, hm, g2]
                  exact ret_d3 (by simp only [wx, wy, wz, stV, seval, IntWalk.iteOmega, IntWalk.toNatUp, reduceCtorEq]) (by simp only [wx, wy, wz, stV, seval, IntWalk.iteOmega, IntWalk.toNatUp, reduceCtorEq]) (by simp only [wx, wy, wz, stV, seval, IntWalk.iteOmega, IntWalk.toNatUp, reduceCtorEq])
                · rcases Nat.lt_or_ge (l.length - plN l k) z with h4 | h4
                  · rw [show frE (l.length - plN l k) z = 1 by rw [ef, if_neg (by omega), if_pos h4]]
                    clear ef q2
                    simp only [lp_rwlk_0, wx, wy, wz, stV, seval, IntWalk.iteOmega, IntWalk.toNatUp, reduceCtorEq, cs]
                    refine st_call cg' rfl (.inl rfl) ?_
                    simp only [wx, wy, wz, stV, seval, IntWalk.iteOmega, IntWalk.toNatUp, reduceCtorEq, hm, g2]
                    exact ret_d3 (by simp only [wx, wy, wz, stV, seval, IntWalk.iteOmega, IntWalk.toNatUp, reduceCtorEq]) (by simp only [wx, wy, wz, stV, seval, IntWalk.iteOmega, IntWalk.toNatUp, reduceCtorEq]) (by simp only [wx, wy, wz, stV, seval, IntWalk.iteOmega, IntWalk.toNatUp, reduceCtorEq])
                  · exact absurd (by rw [ef, if_neg (by omega), if_neg (by omega)]) q2
              · have g2 : (((z % 4 : Nat) : Int) = 0) = False := eq_false (by omega)
                rw [show frE (l.length - plN l k) z = 3 by rw [ef, if_pos (.inl h2)]]
                clear ef q2
                simp only [lp_rwlk_0, wx, wy, wz, stV, seval, IntWalk.iteOmega, IntWalk.toNatUp, reduceCtorEq, cs]
                refine st_call cg' rfl (.inl rfl) ?_
                simp only [wx, wy, wz, stV, seval, IntWalk.iteOmega, IntWalk.toNatUp, reduceCtorEq, hm, g2]
                exact ret_d3 (by simp only [wx, wy, wz, stV, seval, IntWalk.iteOmega, IntWalk.toNatUp, reduceCtorEq]) (by simp only [wx, wy, wz, stV, seval, IntWalk.iteOmega, IntWalk.toNatUp, reduceCtorEq]) (by simp only [wx, wy, wz, stV, seval, IntWalk.iteOmega, IntWalk.toNatUp, reduceCtorEq])
          · rename_i q2
            have q2 : frE (l.length - plN l k) (rdN l (plN l k)) = 0 := by simpa using q2
            obtain ⟨f1, f2, f3, f4⟩ := frE_0 q2
            split at hst
            · rename_i q3
              obtain rfl := Option.some.inj hst
              obtain ⟨x1, x2⟩ := xd_err e2 (by decide)
              rw [e2, x1, x2, est]
              clear est e2 e1 x1 x2
              have cg' := cg f1
              have hz' := hz16 f1
              clear cg hz16
              have hm := tmod4 (rdN l (plN l k))
              have g2 : (((rdN l (plN l k) % 4 : Nat) : Int) = 0) = True := eq_true (by omega)
              have g3 : ((k : Int) = 24) = True := eq_true (by omega)
              generalize rdN l (plN l k) = z at *
              clear q2
              simp only [lp_rwlk_0, wx, wy, wz, stV, seval, IntWalk.iteOmega, IntWalk.toNatUp, reduceCtorEq, cs]
              refine st_call cg' rfl (.inl rfl) ?_
              simp only [wx, wy, wz, stV, seval, IntWalk.iteOmega, IntWalk.toNatUp, reduceCtorEq, hm, g2, lf, g3]
              exact ret_d3 (by simp only [wx, wy, wz, stV, seval, IntWalk.iteOmega, IntWalk.toNatUp, reduceCtorEq]) (by simp only [wx, wy, wz, stV, seval, IntWalk.iteOmega, IntWalk.toNatUp, reduceCtorEq]) (by simp only [wx, wy, wz, stV, seval, IntWalk.iteOmega, IntWalk.toNatUp, reduceCtorEq])
            · cases hst
      | none =>
        obtain ⟨q1, q2, q3⟩ := stE_none hst
        obtain ⟨q4, q5, q6, q8⟩ := stE_go hst
        have hkc : k < cntN l := by
          rcases Nat.lt_or_ge k (cntN l) with h | h
          · exact h
          · have : cntN l = k := by omega
            rw [this, hst] at c2; cases c2
        have hrf : rfs l (k + 1) = rfs l k ++ [rfdP l (plN l k) (rdN l (plN l k))] := rfs_succ l k
        have hrp := rps_succ l k
        have hpl : plN l (k + 1) = plN l k + rdN l (plN l k) := rfl
        have cg' := cg q8
        have hz' := hz16 q8
        clear cg hz16
        have cg2 := rget_c G (cutN l (plN l k) 2) (by rw [cutN_len (by omega)]; decide)
        have hty := (getN_lt_pow 2 (cutN l (plN l k) 2) (cutN_len (by omega)) (by decide)).1
        have cj := rjoin_c G [cutN l (plN l k + 4) (rdN l (plN l k) - 4)] (by simp) (by simp [cutN_len (show plN l k + 4 + (rdN l (plN l k) - 4) ≤ l.length by omega)]; omega)
        simp only [List.map_cons, List.map_nil, List.flatten_cons, List.flatten_nil, List.append_nil] at cj
        have cs2 : (l.drop (plN l k)).take (plN l k + 2 - plN l k) = cutN l (plN l k) 2 := cut_sub l (plN l k) 0 2
        have cs3 : (l.drop (plN l k + 4)).take (plN l k + rdN l (plN l k) - (plN l k + 4)) = cutN l (plN l k + 4) (rdN l (plN l k) - 4) := cut_sub l (plN l k) 4 _
        have q1' : (plN l k : Int) < (l.length : Int) := by omega
        have hm := tmod4 (rdN l (plN l k))
        have g2 : (((rdN l (plN l k) % 4 : Nat) : Int) = 0) = True := eq_true (by omega)
        have g3 : ((k : Int) = 24) = False := eq_false (by omega)
        have az1 := allSz_fd (rfs l k)
        have az2 := allSz_zs (rps l k)
        unfold rfdP at hrf
        rw [est]
        clear est hend c3 c2 eE hst
        generalize rdN l (plN l k) = z at *
        generalize getN (cutN l (plN l k) 2) = ty at *
        generalize cutN l (plN l k) 2 = B0 at *
        generalize cutN l (plN l k + 2) 2 = B1 at *
        generalize cutN l (plN l k + 4) (z - 4) = B2 at *
        generalize rfs l k = FS at *
        generalize rps l k = PS at *
        generalize plN l k = p at *
        simp only [lp_rwlk_0, wx, wy, wz, stV, seval, IntWalk.iteOmega, IntWalk.toNatUp, reduceCtorEq, cs]
        refine st_call cg' rfl (.inl rfl) ?_
        simp only [wx, wy, wz, stV, seval, IntWalk.iteOmega, IntWalk.toNatUp, reduceCtorEq, hm, g2, lf, g3, cs2]
        refine st_call cg2 rfl (.inl rfl) ?_
        simp only [wx, wy, wz, stV, seval, IntWalk.iteOmega, IntWalk.toNatUp, reduceCtorEq, cs3]
        refine st_call cj rfl (.inl rfl) ?_
        simp only [wx, wy, wz, stV, seval, IntWalk.iteOmega, IntWalk.toNatUp, reduceCtorEq, srcV, lf, lp]
        refine lop_next (k + 1) (by omega) (by omega) (ent_l (fun i => if i = 1 then 512 else 544) ?_ ?_ rfl rfl) <;> simp only [hrf, hrp, hpl, List.map_append, List.length_append, lf, lp, fdD, zD, wx, wex, wez, stV, seval, IntWalk.iteOmega, IntWalk.toNatUp, reduceCtorEq]
def sf_rxdc : SFn := ⟨1, 15,
  .seq (.reg [⟨(some 2), .mv (.k (.c .nil)), none⟩,
    ⟨(some 3), .mv (.k (.c (.d (.int .i64 0)))), none⟩])
  (.seq (.reg [⟨(some 8), .mv (.t 0), none⟩,
    ⟨(some 9), .call 35 [(.t 8)] none, none⟩,
    ⟨(some 7), .mv (.t 9), none⟩,
    ⟨(some 10), .extract (.t 7) 0, none⟩,
    ⟨(some 11), .extract (.t 7) 1, none⟩,
    ⟨(some 12), .extract (.t 7) 2, none⟩,
    ⟨(some 4), .mv (.t 10), none⟩,
    ⟨(some 5), .mv (.t 11), none⟩,
    ⟨(some 6), .mv (.t 12), none⟩])
  (.seq (.reg [⟨(some 13), .mv (.t 4), none⟩,
    ⟨(some 14), .mv (.t 6), none⟩,
    ⟨(some 2), .mv (.t 13), none⟩,
    ⟨(some 3), .mv (.t 14), none⟩])
  (.ret))),
  [(2, none), (3, none)]⟩
theorem cf_rxdc : compFn Try.prog { own := [], comp := [], frz := [], nils := [] } Try.f14 = some sf_rxdc := by kernel_rfl
theorem rxdc_c (G : Glob) (l : List UInt8) (hl : l.length ≤ 9000000000000000000) : Den Try.prog G 14 [.sl (l.map bD)] (.tup [.c (.d (.sl ((xdL l).map fdD))), .c (.d (.int .i64 (eaE l)))]) := by
  refine den_walk Try.func14 cf_rxdc rfl rfl ?_
  have c := rwlk_c G l hl
  simp only [sf_rxdc, putAll, wx, wy, wz, stV, seval, IntWalk.iteOmega, IntWalk.toNatUp, reduceCtorEq]
  refine st_call (c) rfl (.inl rfl) ?_
  simp only [wx, wy, wz, stV, seval, IntWalk.iteOmega, IntWalk.toNatUp, reduceCtorEq]
  exact ret_d2 (by simp only [wx, wy, wz, stV, seval, IntWalk.iteOmega, IntWalk.toNatUp, reduceCtorEq]) (by simp only [wx, wy, wz, stV, seval, IntWalk.iteOmega, IntWalk.toNatUp, reduceCtorEq])
def sf_rxpl : SFn := ⟨1, 15,
  .seq (.reg [⟨(some 2), .mv (.k (.c .nil)), none⟩,
    ⟨(some 3), .mv (.k (.c (.d (.int .i64 0)))), none⟩])
  (.seq (.reg [⟨(some 8), .mv (.t 0), none⟩,
    ⟨(some 9), .call 35 [(.t 8)] none, none⟩,
    ⟨(some 7), .mv (.t 9), none⟩,
    ⟨(some 10), .extract (.t 7) 0, none⟩,
    ⟨(some 11), .extract (.t 7) 1, none⟩,
    ⟨(some 12), .extract (.t 7) 2, none⟩,
    ⟨(some 4), .mv (.t 10), none⟩,
    ⟨(some 5), .mv (.t 11), none⟩,
    ⟨(some 6), .mv (.t 12), none⟩])
  (.seq (.reg [⟨(some 13), .mv (.t 5), none⟩,
    ⟨(some 14), .mv (.t 6), none⟩,
    ⟨(some 2), .mv (.t 13), none⟩,
    ⟨(some 3), .mv (.t 14), none⟩])
  (.ret))),
  [(2, none), (3, none)]⟩
theorem cf_rxpl : compFn Try.prog { own := [], comp := [], frz := [], nils := [] } Try.f16 = some sf_rxpl := by kernel_rfl
theorem rxpl_c (G : Glob) (l : List UInt8) (hl : l.length ≤ 9000000000000000000) : Den Try.prog G 16 [.sl (l.map bD)] (.tup [.c (.d (.sl ((xpL l).map zD))), .c (.d (.int .i64 (eaE l)))]) := by
  refine den_walk Try.func16 cf_rxpl rfl rfl ?_
  have c := rwlk_c G l hl
  simp only [sf_rxpl, putAll, wx, wy, wz, stV, seval, IntWalk.iteOmega, IntWalk.toNatUp, reduceCtorEq]
  refine st_call (c) rfl (.inl rfl) ?_
  simp only [wx, wy, wz, stV, seval, IntWalk.iteOmega, IntWalk.toNatUp, reduceCtorEq]
  exact ret_d2 (by simp only [wx, wy, wz, stV, seval, IntWalk.iteOmega, IntWalk.toNatUp, reduceCtorEq]) (by simp only [wx, wy, wz, stV, seval, IntWalk.iteOmega, IntWalk.toNatUp, reduceCtorEq])
def rfnSt (l : List Fd) (k : Int) (i : Nat) : St := ⟨ofL [(0, .w (.c (.d (.sl (l.map fdD))))), (1, .w (.c (.d (.int .i64 k)))), (5, .w (.c (.own 1 1 0 (fnN l k i).length))), (6, .w (.c (.d (.int .i64 (i : Int)))))], hL [(1, .row 1 ((fnN l k i).map zD))], uL [1]⟩
def lp_rxfn_0 : SCode :=
  .seq (.seq (.reg [⟨(some 7), .mv (.t 6), none⟩,
    ⟨(some 8), .mv (.t 0), none⟩,
    ⟨(some 9), .len (.t 8), none⟩,
    ⟨(some 10), .bin .lss (.t 7) (.t 9), none⟩])
  (.cond (.t 10) (.skip)
   (.exit 0)))
  (.seq (.block 1 (.seq (.reg [⟨(some 13), .mv (.t 0), none⟩,
     ⟨(some 14), .mv (.t 6), none⟩,
     ⟨(some 15), .idxSl 2 (.t 13) (.t 14), none⟩,
     ⟨(some 16), .fieldAddr 0 (.t 15), none⟩,
     ⟨(some 17), .load .sc (.t 16), none⟩,
     ⟨(some 18), .mv (.t 1), none⟩,
     ⟨(some 19), .bin .eql (.t 17) (.t 18), none⟩])
   (.cond (.t 19) (.reg [⟨(some 20), .mv (.t 5), none⟩,
      ⟨(some 21), .mv (.t 6), none⟩,
      ⟨(some 22), .bldSl false 1 1 (.int .i64 0) [(0, (.t 21))], none⟩,
      ⟨(some 23), .app false 1 8 (.t 20) (.t 22), none⟩,
      ⟨(some 5), .mv (.t 23), none⟩])
    (.skip))))
  (.reg [⟨(some 11), .mv (.t 6), none⟩,
    ⟨(some 12), .bin .add (.t 11) (.k (.c (.d (.int .i64 1)))), none⟩,
    ⟨(some 6), .mv (.t 12), none⟩]))
def sf_rxfn : SFn := ⟨2, 25,
  .seq (.reg [⟨(some 4), .mv (.k (.c .nil)), none⟩])
  (.seq (.reg [⟨(some 5), .nilOwn 1, none⟩])
  (.seq (.seq (.reg [⟨(some 6), .mv (.k (.c (.d (.int .i64 0)))), none⟩])
  (.block 0 (.loop lp_rxfn_0)))
  (.seq (.reg [⟨(some 24), .mv (.t 5), none⟩,
    ⟨(some 4), .mv (.t 24), none⟩])
  (.ret)))),
  [(4, none)]⟩
theorem cf_rxfn : compFn Try.prog { own := [5], comp := [], frz := [], nils := [] } Try.f21 = some sf_rxfn := by kernel_rfl
set_option maxHeartbeats 1600000 in
theorem rxfn_c (G : Glob) (l : List Fd) (k : Int) (hl : l.length ≤ 1000000) : Den Try.prog G 21 [.sl (l.map fdD), .int .i64 k] (.w (.c (.d (.sl ((fnL l k).map zD))))) := by
  refine den_walk Try.func21 cf_rxfn rfl rfl ?_
  have e0 : fnN l k 0 = [] := rfl
  simp only [sf_rxfn, putAll, wx, wy, wz, stV, seval, IntWalk.iteOmega, IntWalk.toNatUp, reduceCtorEq]
  refine loop_st (rfnSt l k) (fun i => l.length - i) (fun i => i ≤ l.length) 0 (Nat.zero_le _) ?_ ?_
  · refine ent_l (fun i => 40) ?_ ?_ rfl rfl <;> simp only [wx, wex, wez, stV, seval, IntWalk.iteOmega, IntWalk.toNatUp, reduceCtorEq, e0]
  · intro i hi
    have hb := fnN_len l k i
    have az := allSz_zs (fnN l k i)
    by_cases hlt : i < l.length
    · have g := getF hlt
      by_cases hk : (l.getD i default).ty = k
      · have hs := fnN_t hk
        have hk' : ((l.getD i default).ty = k) = True := eq_true hk
        generalize l.getD i default = x at *
        simp only [lp_rxfn_0, rfnSt, wx, wy, wz, stV, seval, IntWalk.iteOmega, IntWalk.toNatUp, reduceCtorEq, get_map, g, fdD, hk', srcV]
        refine lop_next (i + 1) (by omega) (by omega) (ent_l (fun _ => 184) ?_ ?_ rfl rfl) <;> simp only [hs, List.map_append, zD, wx, wex, wez, stV, seval, IntWalk.iteOmega, IntWalk.toNatUp, reduceCtorEq]
      · have hs := fnN_f hk
        have hk' : ((l.getD i default).ty = k) = False := eq_false hk
        generalize l.getD i default = x at *
        simp only [lp_rxfn_0, rfnSt, wx, wy, wz, stV, seval, IntWalk.iteOmega, IntWalk.toNatUp, reduceCtorEq, get_map, g, fdD, hk', srcV]
        refine lop_next (i + 1) (by omega) (by omega) (ent_l (fun i => i) ?_ ?_ rfl rfl) <;> simp only [hs, wx, wex, wez, stV, seval, IntWalk.iteOmega, IntWalk.toNatUp, reduceCtorEq]
    · have hil : i = l.length := by omega
      have e1 : fnN l k i = fnL l k := by rw [hil]; rfl
      simp only [lp_rxfn_0, rfnSt, wx, wy, wz, stV, seval, IntWalk.iteOmega, IntWalk.toNatUp, reduceCtorEq, e1]
      exact ret_d1 (by simp only [wx, wy, wz, stV, seval, IntWalk.iteOmega, IntWalk.toNatUp, reduceCtorEq])
def rsfSt (a b : List Fd) (i : Nat) : St := ⟨ofL [(0, .w (.c (.d (.sl (a.map fdD))))), (1, .w (.c (.d (.sl (b.map fdD))))), (5, .w (.c (.d (.int .i64 (i : Int)))))], hL [], uL []⟩
def lp_rsmf_0 : SCode :=
  .seq (.seq (.reg [⟨(some 11), .mv (.t 5), none⟩,
    ⟨(some 12), .mv (.t 0), none⟩,
    ⟨(some 13), .len (.t 12), none⟩,
    ⟨(some 14), .bin .lss (.t 11) (.t 13), none⟩])
  (.cond (.t 14) (.skip)
   (.exit 0)))
  (.seq (.block 1 (.seq (.reg [⟨(some 17), .mv (.t 0), none⟩,
     ⟨(some 18), .mv (.t 5), none⟩,
     ⟨(some 19), .idxSl 2 (.t 17) (.t 18), none⟩,
     ⟨(some 20), .fieldAddr 0 (.t 19), none⟩,
     ⟨(some 21), .load .sc (.t 20), none⟩,
     ⟨(some 22), .mv (.t 1), none⟩,
     ⟨(some 23), .mv (.t 5), none⟩,
     ⟨(some 24), .idxSl 2 (.t 22) (.t 23), none⟩,
     ⟨(some 25), .fieldAddr 0 (.t 24), none⟩,
     ⟨(some 26), .load .sc (.t 25), none⟩,
     ⟨(some 27), .bin .neq (.t 21) (.t 26), none⟩,
     ⟨(some 28), .mv (.t 27), none⟩,
     ⟨(some 29), .mv (.t 0), (some (28, false))⟩,
     ⟨(some 30), .mv (.t 5), (some (28, false))⟩,
     ⟨(some 31), .idxSl 2 (.t 29) (.t 30), (some (28, false))⟩,
     ⟨(some 32), .fieldAddr 1 (.t 31), (some (28, false))⟩,
     ⟨(some 33), .load .sc (.t 32), (some (28, false))⟩,
     ⟨(some 34), .mv (.t 1), (some (28, false))⟩,
     ⟨(some 35), .mv (.t 5), (some (28, false))⟩,
     ⟨(some 36), .idxSl 2 (.t 34) (.t 35), (some (28, false))⟩,
     ⟨(some 37), .fieldAddr 1 (.t 36), (some (28, false))⟩,
     ⟨(some 38), .load .sc (.t 37), (some (28, false))⟩,
     ⟨(some 39), .call 17 [(.t 33), (.t 38)] none, (some (28, false))⟩,
     ⟨(some 40), .un .not (.t 39), (some (28, false))⟩,
     ⟨(some 41), .pick (.t 28) (.k (.c (.d (.bool true)))) (.t 40), none⟩])
   (.cond (.t 41) (.seq (.reg [⟨(some 4), .mv (.k (.c (.d (.bool false)))), none⟩])
    (.ret))
    (.skip))))
  (.reg [⟨(some 15), .mv (.t 5), none⟩,
    ⟨(some 16), .bin .add (.t 15) (.k (.c (.d (.int .i64 1)))), none⟩,
    ⟨(some 5), .mv (.t 16), none⟩]))
def sf_rsmf : SFn := ⟨2, 42,
  .seq (.reg [⟨(some 4), .mv (.k (.c (.d (.bool false)))), none⟩])
  (.seq (.seq (.reg [⟨(some 6), .mv (.t 0), none⟩,
    ⟨(some 7), .len (.t 6), none⟩,
    ⟨(some 8), .mv (.t 1), none⟩,
    ⟨(some 9), .len (.t 8), none⟩,
    ⟨(some 10), .bin .neq (.t 7) (.t 9), none⟩])
  (.cond (.t 10) (.seq (.reg [⟨(some 4), .mv (.k (.c (.d (.bool false)))), none⟩])
   (.ret))
   (.skip)))
  (.seq (.seq (.reg [⟨(some 5), .mv (.k (.c (.d (.int .i64 0)))), none⟩])
  (.block 0 (.loop lp_rsmf_0)))
  (.seq (.reg [⟨(some 4), .mv (.k (.c (.d (.bool true)))), none⟩])
  (.ret)))),
  [(4, none)]⟩
theorem cf_rsmf : compFn Try.prog { own := [], comp := [], frz := [], nils := [] } Try.f18 = some sf_rsmf := by kernel_rfl
set_option maxHeartbeats 1600000 in
theorem rsmf_c (G : Glob) (a b : List Fd) (ha : a.length ≤ 9000000000000000000) : Den Try.prog G 18 [.sl (a.map fdD), .sl (b.map fdD)] (.w (.c (.d (.bool (decide (a = b)))))) := by
  refine den_walk Try.func18 cf_rsmf rfl rfl ?_
  by_cases hlen : a.length = b.length
  · have hl' : ((a.length : Int) = (b.length : Int)) = True := eq_true (by omega)
    simp only [sf_rsmf, putAll, wx, wy, wz, stV, seval, IntWalk.iteOmega, IntWalk.toNatUp, reduceCtorEq, hl']
    refine loop_st (rsfSt a b) (fun i => a.length - i) (fun i => i ≤ a.length ∧ a.take i = b.take i) 0 ⟨Nat.zero_le _, rfl⟩ ?_ ?_
    · refine ent_l (fun i => 0) ?_ ?_ rfl rfl <;> simp only [wx, wex, wez, stV, seval, IntWalk.iteOmega, IntWalk.toNatUp, reduceCtorEq]
    · rintro i ⟨hi, hpre⟩
      by_cases hlt : i < a.length
      · have hlb : i < b.length := by omega
        have g1 := getF hlt
        have g2 := getF hlb
        have st := same_step hlt hlb hpre
        have sn := same_ne (a := a) (b := b) (i := i)
        have c := rsame_c G (a.getD i default).da (b.getD i default).da
        clear hpre
        generalize a.getD i default = x at *
        generalize b.getD i default = y at *
        by_cases ht : x.ty = y.ty
        · have ht' : (x.ty = y.ty) = True := eq_true ht
          cases hxy : x.da == y.da
          · have hne := sn (.inr (by simpa using hxy))
            rw [hne]
            rw [hxy] at c
            clear sn st
            simp only [lp_rsmf_0, rsfSt, wx, wy, wz, stV, seval, IntWalk.iteOmega, IntWalk.toNatUp, reduceCtorEq, get_map, g1, g2, fdD, ht']
            refine st_call (c) rfl (.inl rfl) ?_
            simp only [wx, wy, wz, stV, seval, IntWalk.iteOmega, IntWalk.toNatUp, reduceCtorEq]
            exact ret_d1 (by simp only [wx, wy, wz, stV, seval, IntWalk.iteOmega, IntWalk.toNatUp, reduceCtorEq])
          · have hst := st ht (by simpa using hxy)
            rw [hxy] at c
            clear sn st
            simp only [lp_rsmf_0, rsfSt, wx, wy, wz, stV, seval, IntWalk.iteOmega, IntWalk.toNatUp, reduceCtorEq, get_map, g1, g2, fdD, ht']
            refine st_call (c) rfl (.inl rfl) ?_
            simp only [wx, wy, wz, stV, seval, IntWalk.iteOmega, IntWalk.toNatUp, reduceCtorEq]
            refine lop_next (i + 1) (by omega) ⟨by omega, hst⟩ (ent_l (fun _ => 0) ?_ ?_ rfl rfl) <;> simp only [wx, wex, wez, stV, seval, IntWalk.iteOmega, IntWalk.toNatUp, reduceCtorEq]
        · have ht' : (x.ty = y.ty) = False := eq_false ht
          have hne := sn (.inl ht)
          rw [hne]
          clear sn st
          simp only [lp_rsmf_0, rsfSt, wx, wy, wz, stV, seval, IntWalk.iteOmega, IntWalk.toNatUp, reduceCtorEq, get_map, g1, g2, fdD, ht']
          exact ret_d1 (by simp only [wx, wy, wz, stV, seval, IntWalk.iteOmega, IntWalk.toNatUp, reduceCtorEq])
      · have e : a = b := by
          rw [List.take_of_length_le (by omega), List.take_of_length_le (by omega)] at hpre
          exact hpre
        rw [decide_eq_true e]
        simp only [lp_rsmf_0, rsfSt, wx, wy, wz, stV, seval, IntWalk.iteOmega, IntWalk.toNatUp, reduceCtorEq]
        exact ret_d1 (by simp only [wx, wy, wz, stV, seval, IntWalk.iteOmega, IntWalk.toNatUp, reduceCtorEq])
  · have hl' : ((a.length : Int) = (b.length : Int)) = False := eq_false (by omega)
    have hne : decide (a = b) = false := by
      rw [decide_eq_false_iff_not]; rintro rfl; exact hlen rfl
    rw [hne]
    simp only [sf_rsmf, putAll, wx, wy, wz, stV, seval, IntWalk.iteOmega, IntWalk.toNatUp, reduceCtorEq, hl']
    exact ret_d1 (by simp only [wx, wy, wz, stV, seval, IntWalk.iteOmega, IntWalk.toNatUp, reduceCtorEq])
end Go.Proofs.Ytldcgjhfaledfaa
