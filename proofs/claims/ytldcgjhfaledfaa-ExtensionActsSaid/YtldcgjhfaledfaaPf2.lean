/- Layer 17 on data: the program: fields are handed to a function literal. Own work. -/
import Derived.Test.YtldcgjhfaledfaaPf1
set_option linter.unusedVariables false
set_option linter.unusedSimpArgs false
namespace Go.Proofs.Ytldcgjhfaledfaa
open Go.RowKit

theorem tmod4 (z : Nat) : Int.tmod (z : Int) 4 = ((z % 4 : Nat) : Int) := by
  rfl
theorem rdN_drop (l : List UInt8) (p : Nat) : rdN (l.drop p) 0 = rdN l p := by
  unfold rdN cutN
  rw [List.drop_drop, Nat.zero_add]
def frN (rest z : Nat) : Nat := if frE rest z = 0 then z else 0
def sf_xfst : SFn := ⟨1, 24,
  .seq (.reg [⟨(some 2), .mv (.k (.c (.d (.int .i64 0)))), none⟩,
    ⟨(some 3), .mv (.k (.c (.d (.int .i64 0)))), none⟩])
  (.seq (.seq (.reg [⟨(some 5), .mv (.t 0), none⟩,
    ⟨(some 6), .len (.t 5), none⟩,
    ⟨(some 7), .bin .lss (.t 6) (.k (.c (.d (.int .i64 4)))), none⟩])
  (.cond (.t 7) (.seq (.reg [⟨(some 2), .mv (.k (.c (.d (.int .i64 0)))), none⟩,
     ⟨(some 3), .mv (.k (.c (.d (.int .i64 1)))), none⟩])
   (.ret))
   (.skip)))
  (.seq (.reg [⟨(some 8), .mv (.t 0), none⟩,
    ⟨(some 9), .slice 1 (.t 8) (some (.k (.c (.d (.int .i64 2))))) (some (.k (.c (.d (.int .i64 4))))) none, none⟩,
    ⟨(some 10), .call 33 [(.t 9)] none, none⟩,
    ⟨(some 11), .conv .i64 (.t 10), none⟩,
    ⟨(some 4), .mv (.t 11), none⟩])
  (.seq (.seq (.reg [⟨(some 12), .mv (.t 4), none⟩,
    ⟨(some 13), .bin .rem (.t 12) (.k (.c (.d (.int .i64 4)))), none⟩,
    ⟨(some 14), .bin .neq (.t 13) (.k (.c (.d (.int .i64 0)))), none⟩,
    ⟨(some 15), .mv (.t 14), none⟩,
    ⟨(some 16), .mv (.t 4), (some (15, false))⟩,
    ⟨(some 17), .bin .lss (.t 16) (.k (.c (.d (.int .i64 16)))), (some (15, false))⟩,
    ⟨(some 18), .pick (.t 15) (.k (.c (.d (.bool true)))) (.t 17), none⟩])
  (.cond (.t 18) (.seq (.reg [⟨(some 2), .mv (.k (.c (.d (.int .i64 0)))), none⟩,
     ⟨(some 3), .mv (.k (.c (.d (.int .i64 3)))), none⟩])
   (.ret))
   (.skip)))
  (.seq (.seq (.reg [⟨(some 19), .mv (.t 0), none⟩,
    ⟨(some 20), .len (.t 19), none⟩,
    ⟨(some 21), .mv (.t 4), none⟩,
    ⟨(some 22), .bin .lss (.t 20) (.t 21), none⟩])
  (.cond (.t 22) (.seq (.reg [⟨(some 2), .mv (.k (.c (.d (.int .i64 0)))), none⟩,
     ⟨(some 3), .mv (.k (.c (.d (.int .i64 1)))), none⟩])
   (.ret))
   (.skip)))
  (.seq (.reg [⟨(some 23), .mv (.t 4), none⟩,
    ⟨(some 2), .mv (.t 23), none⟩,
    ⟨(some 3), .mv (.k (.c (.d (.int .i64 0)))), none⟩])
  (.ret)))))),
  [(2, none), (3, none)]⟩
theorem cf_xfst : compFn Try.prog { own := [], comp := [], frz := [], nils := [] } Try.f41 = some sf_xfst := by kernel_rfl
set_option maxHeartbeats 1600000 in
theorem xfst_c (G : Glob) (l : List UInt8) (hl : l.length ≤ 9000000000000000000) : Den Try.prog G 41 [.sl (l.map bD)] (.tup [.c (.d (.int .i64 (frN l.length (rdN l 0) : Int))), .c (.d (.int .i64 (frE l.length (rdN l 0))))]) := by
  refine den_walk Try.func41 cf_xfst rfl rfl ?_
  rcases Nat.lt_or_ge l.length 4 with h1 | h1
  · have e : frE l.length (rdN l 0) = 1 := if_pos h1
    have e2 : frN l.length (rdN l 0) = 0 := by unfold frN; rw [e]; rfl
    rw [e, e2]
    simp only [sf_xfst, putAll, wx, wy, wz, stV, seval, IntWalk.iteOmega, IntWalk.toNatUp, reduceCtorEq]
    exact ret_d2 (by simp only [wx, wy, wz, stV, seval, IntWalk.iteOmega, IntWalk.toNatUp, reduceCtorEq]) (by simp only [wx, wy, wz, stV, seval, IntWalk.iteOmega, IntWalk.toNatUp, reduceCtorEq])
  · have c := get_c G (cutN l 2 2) (by rw [cutN_len (by omega)]; decide)
    have e0 : rdN l 0 = getN (cutN l 2 2) := rfl
    have hz := rdN_lt l 0 (by omega)
    rw [← e0] at c
    have ed : (l.drop 2).take (4 - 2) = cutN l 2 2 := rfl
    have hm := tmod4 (rdN l 0)
    generalize rdN l 0 = z at *
    have ef : frE l.length z = if z % 4 ≠ 0 ∨ z < 16 then 3 else if l.length < z then 1 else 0 := if_neg (by omega)
    by_cases h2 : z % 4 = 0
    · have g2 : (((z % 4 : Nat) : Int) = 0) = True := eq_true (by omega)
      rcases Nat.lt_or_ge z 16 with h3 | h3
      · have e : frE l.length z = 3 := by rw [ef, if_pos (.inr h3)]
        have e2 : frN l.length z = 0 := by unfold frN; rw [e]; rfl
        rw [e, e2]
        simp only [sf_xfst, putAll, wx, wy, wz, stV, seval, IntWalk.iteOmega, IntWalk.toNatUp, reduceCtorEq]
        refine st_call c rfl (.inl rfl) ?_
        simp only [wx, wy, wz, stV, seval, IntWalk.iteOmega, IntWalk.toNatUp, reduceCtorEq, hm, g2]
        exact ret_d2 (by simp only [wx, wy, wz, stV, seval, IntWalk.iteOmega, IntWalk.toNatUp, reduceCtorEq]) (by simp only [wx, wy, wz, stV, seval, IntWalk.iteOmega, IntWalk.toNatUp, reduceCtorEq])
      · rcases Nat.lt_or_ge l.length z with h4 | h4
        · have e : frE l.length z = 1 := by rw [ef, if_neg (by omega), if_pos h4]
          have e2 : frN l.length z = 0 := by unfold frN; rw [e]; rfl
          rw [e, e2]
          simp only [sf_xfst, putAll, wx, wy, wz, stV, seval, IntWalk.iteOmega, IntWalk.toNatUp, reduceCtorEq]
          refine st_call c rfl (.inl rfl) ?_
          simp only [wx, wy, wz, stV, seval, IntWalk.iteOmega, IntWalk.toNatUp, reduceCtorEq, hm, g2]
          exact ret_d2 (by simp only [wx, wy, wz, stV, seval, IntWalk.iteOmega, IntWalk.toNatUp, reduceCtorEq]) (by simp only [wx, wy, wz, stV, seval, IntWalk.iteOmega, IntWalk.toNatUp, reduceCtorEq])
        · have e : frE l.length z = 0 := by rw [ef, if_neg (by omega), if_neg (by omega)]
          have e2 : frN l.length z = z := if_pos e
          rw [e, e2]
          simp only [sf_xfst, putAll, wx, wy, wz, stV, seval, IntWalk.iteOmega, IntWalk.toNatUp, reduceCtorEq]
          refine st_call c rfl (.inl rfl) ?_
          simp only [wx, wy, wz, stV, seval, IntWalk.iteOmega, IntWalk.toNatUp, reduceCtorEq, hm, g2]
          exact ret_d2 (by simp only [wx, wy, wz, stV, seval, IntWalk.iteOmega, IntWalk.toNatUp, reduceCtorEq]) (by simp only [wx, wy, wz, stV, seval, IntWalk.iteOmega, IntWalk.toNatUp, reduceCtorEq])
    · have e : frE l.length z = 3 := by rw [ef, if_pos (.inl h2)]
      have e2 : frN l.length z = 0 := by unfold frN; rw [e]; rfl
      have g2 : (((z % 4 : Nat) : Int) = 0) = False := eq_false (by omega)
      rw [e, e2]
      simp only [sf_xfst, putAll, wx, wy, wz, stV, seval, IntWalk.iteOmega, IntWalk.toNatUp, reduceCtorEq]
      refine st_call c rfl (.inl rfl) ?_
      simp only [wx, wy, wz, stV, seval, IntWalk.iteOmega, IntWalk.toNatUp, reduceCtorEq, hm, g2]
      exact ret_d2 (by simp only [wx, wy, wz, stV, seval, IntWalk.iteOmega, IntWalk.toNatUp, reduceCtorEq]) (by simp only [wx, wy, wz, stV, seval, IntWalk.iteOmega, IntWalk.toNatUp, reduceCtorEq])
/-! ### Each field is handed to a function literal that adds to a list of its own -/
/-- The list's variable behind so many calls. -/
def exO (sz : Nat) : Nat → List D → List (Nat × Ob)
  | 0, _ => [(1, .box [.nil])]
  | _ + 1, es => [(1, .box [.own 3 sz 0 es.length]), (3, .row sz es)]
theorem exO_ids (sz n : Nat) (es : List D) : ((exO sz n es).all fun p => p.2.ids.all fun j => ((exO sz n es).map (·.1)).contains j) = true := by
  cases n <;> rfl
def xeaH (sz : Nat) (E : Nat → List D) : Nat → Heap
  | 0 => hL [(1, .box [.nil])]
  | k + 1 => hL [(1, .box [.own 2 sz 0 (E (k + 1)).length]), (2, .row sz (E (k + 1)))]
def xeaU : Nat → Nat → Bool
  | 0 => uL [1]
  | _ + 1 => uL [1, 2]
def xeaSt (l : List UInt8) (F : Nat) (cs : List D) (sz : Nat) (E : Nat → List D) (k : Nat) : St :=
  ⟨ofL [(0, .w (.c (.d (.sl (l.map bD))))), (1, .w (.c (.cf F [] (cs.map Cp.d ++ [.p 1 1 0 0])))), (5, .w (.c (.d (.int .i64 (plN l k : Int))))), (6, .w (.c (.d (.int .i64 (k : Int)))))], xeaH sz E k, xeaU k⟩
theorem xea_lnk (F : Nat) (cs : List D) (m1 : List (Nat × Ob)) : lnkB [1] [(1, .box [.nil])] m1 [(1, .c (.cf F [] (cs.map Cp.d ++ [.p 1 1 0 0])))] :=
  ⟨by simp, fun id h _ => ⟨_, List.mem_singleton.2 rfl, by simp at h; subst h; simp [W.lnk, Cp.ids, cpd_ids]⟩⟩
theorem xea_end {σ : St} {x0 : W} {x : Int} {F : Nat} {cs : List D} {sz : Nat} {E : Nat → List D} (k : Nat) (h1 : σ.f 1 = .w (.c (.cf F [] (cs.map Cp.d ++ [.p 1 1 0 0])))) (h4 : σ.f 4 = .w (.c (.d (.int .i64 x)))) (hh : σ.h = xeaH sz E k) :
    RetB2 σ [(4, none)] [1] [x0, .c (.cf F [] (cs.map Cp.d ++ [.p 1 1 0 0]))] [(1, .box [.nil])] (.w (.c (.d (.int .i64 x)))) (exO sz k (E k)) := by
  cases k with
  | zero =>
    refine ret_g [] [(1, .c (.cf F [] (cs.map Cp.d ++ [.p 1 1 0 0])))] (ws := [.c (.d (.int .i64 x))]) ?_ rfl ?_ rfl ?_ (xea_lnk F cs _)
    · simp only [allSome, resW, h4, asW]
    · rw [hh]; simp only [xeaH, agH, exO, wx, wex, wez, stV, seval, IntWalk.iteOmega, IntWalk.toNatUp, reduceCtorEq, wmg]
    · simp only [agL, h1, wx, wex, wez, stV, seval, IntWalk.iteOmega, IntWalk.toNatUp, reduceCtorEq, wmg, List.map_append]
  | succ k =>
    refine ret_g [(3, 2)] [(1, .c (.cf F [] (cs.map Cp.d ++ [.p 1 1 0 0])))] (ws := [.c (.d (.int .i64 x))]) ?_ rfl ?_ rfl ?_ (xea_lnk F cs _)
    · simp only [allSome, resW, h4, asW]
    · rw [hh]; simp only [xeaH, agH, exO, wx, wex, wez, stV, seval, IntWalk.iteOmega, IntWalk.toNatUp, reduceCtorEq, wmg]
    · simp only [agL, h1, wx, wex, wez, stV, seval, IntWalk.iteOmega, IntWalk.toNatUp, reduceCtorEq, wmg, List.map_append]
/-- What is handed to the literal, and what it has captured. -/
def exA (p z : Nat) (cs : List D) : List W := .c (.d (.int .i64 (p : Int))) :: .c (.d (.int .i64 (z : Int))) :: (cs.map (fun x => W.c (.d x)) ++ [.c (.ptr 1 1 0 0)])
def lp_xeac_0 : SCode :=
  .seq (.seq (.reg [⟨(some 12), .mv (.t 5), none⟩,
    ⟨(some 13), .mv (.t 0), none⟩,
    ⟨(some 14), .len (.t 13), none⟩,
    ⟨(some 15), .bin .lss (.t 12) (.t 14), none⟩])
  (.cond (.t 15) (.skip)
   (.exit 0)))
  (.seq (.block 1 (.seq (.reg [⟨(some 19), .mv (.t 0), none⟩,
     ⟨(some 20), .mv (.t 5), none⟩,
     ⟨(some 21), .slice 1 (.t 19) (some (.t 20)) none none, none⟩,
     ⟨(some 22), .call 41 [(.t 21)] none, none⟩,
     ⟨(some 18), .mv (.t 22), none⟩,
     ⟨(some 23), .extract (.t 18) 0, none⟩,
     ⟨(some 24), .extract (.t 18) 1, none⟩,
     ⟨(some 7), .mv (.t 23), none⟩,
     ⟨(some 8), .mv (.t 24), none⟩])
   (.seq (.seq (.reg [⟨(some 25), .mv (.t 8), none⟩,
     ⟨(some 26), .bin .neq (.t 25) (.k (.c (.d (.int .i64 0)))), none⟩])
   (.cond (.t 26) (.seq (.reg [⟨(some 27), .mv (.t 8), none⟩,
      ⟨(some 4), .mv (.t 27), none⟩])
    (.ret))
    (.skip)))
   (.seq (.seq (.reg [⟨(some 28), .mv (.t 6), none⟩,
     ⟨(some 29), .bin .eql (.t 28) (.k (.c (.d (.int .i64 24)))), none⟩])
   (.cond (.t 29) (.seq (.reg [⟨(some 4), .mv (.k (.c (.d (.int .i64 8)))), none⟩])
    (.ret))
    (.skip)))
   (.seq (.reg [⟨(some 30), .mv (.t 1), none⟩,
     ⟨(some 31), .mv (.t 5), none⟩,
     ⟨(some 32), .mv (.t 7), none⟩,
     ⟨(some 33), .callM 1000000007 [(.t 30), (.t 31), (.t 32)], none⟩])
   (.reg [⟨(some 34), .mv (.t 5), none⟩,
     ⟨(some 35), .mv (.t 7), none⟩,
     ⟨(some 36), .bin .add (.t 34) (.t 35), none⟩,
     ⟨(some 5), .mv (.t 36), none⟩]))))))
  (.reg [⟨(some 16), .mv (.t 6), none⟩,
    ⟨(some 17), .bin .add (.t 16) (.k (.c (.d (.int .i64 1)))), none⟩,
    ⟨(some 6), .mv (.t 17), none⟩]))
def sf_xeac : SFn := ⟨2, 37,
  .seq (.reg [⟨(some 4), .mv (.k (.c (.d (.int .i64 0)))), none⟩])
  (.seq (.seq (.reg [⟨(some 9), .mv (.t 0), none⟩,
    ⟨(some 10), .len (.t 9), none⟩,
    ⟨(some 11), .bin .gtr (.t 10) (.k (.c (.d (.int .i64 1232)))), none⟩])
  (.cond (.t 11) (.seq (.reg [⟨(some 4), .mv (.k (.c (.d (.int .i64 2)))), none⟩])
   (.ret))
   (.skip)))
  (.seq (.reg [⟨(some 5), .mv (.k (.c (.d (.int .i64 0)))), none⟩])
  (.seq (.seq (.reg [⟨(some 6), .mv (.k (.c (.d (.int .i64 0)))), none⟩])
  (.block 0 (.loop lp_xeac_0)))
  (.seq (.reg [⟨(some 4), .mv (.k (.c (.d (.int .i64 0)))), none⟩])
  (.ret))))),
  [(4, none)]⟩
theorem cf_xeac : compFn Try.prog { own := [], comp := [], frz := [], nils := [], mt := [33], mv := true } Try.f31 = some sf_xeac := by kernel_rfl
set_option maxHeartbeats 3200000 in
theorem xeac_c (G : Glob) (l : List UInt8) (hl : l.length ≤ 9000000000000000000) (F : FuncId) (cs : List D) (sz : Nat) (E : Nat → List D) (he : ∀ (args : Array Value) (w : World), (callFunc F args).run Try.prog w = .ok (.enter F args) w)
    (h0 : 0 < eaN l → DenB Try.prog G F (exA (plN l 0) (rdN l (plN l 0)) cs) [(1, .box [.nil])] (.tup []) [(1, .box [.own 3 sz 0 (E 1).length]), (3, .row sz (E 1))])
    (hs : ∀ k, k + 1 < eaN l → DenB Try.prog G F (exA (plN l (k + 1)) (rdN l (plN l (k + 1))) cs) [(1, .box [.own 2 sz 0 (E (k + 1)).length]), (2, .row sz (E (k + 1)))] (.tup []) [(1, .box [.own 3 sz 0 (E (k + 2)).length]), (3, .row sz (E (k + 2)))]) :
    DenB Try.prog G 31 [.c (.d (.sl (l.map bD))), .c (.cf F [] (cs.map Cp.d ++ [.p 1 1 0 0]))] [(1, .box [.nil])] (.w (.c (.d (.int .i64 (eaE l))))) (exO sz (eaN l) (E (eaN l))) := by
  refine denB_walk Try.func31 cf_xeac [1] rfl rfl rfl (by simp [W.ids, C.ids, Cp.ids, cpd_ids]) (exO_ids _ _ _) rfl rfl ?_
  have hlnk : ∀ m1, lnkB [1] [(1, .box [.nil])] m1 [(1, .c (.cf F [] (cs.map Cp.d ++ [.p 1 1 0 0])))] := fun m1 => ⟨by simp, fun id h _ => ⟨_, List.mem_singleton.2 rfl, by simp at h; subst h; simp [W.lnk, Cp.ids, cpd_ids]⟩⟩
  rcases Nat.lt_or_ge 1232 l.length with h1 | h1
  · have e1 : eaE l = 2 := if_pos h1
    have e2 : eaN l = 0 := if_pos h1
    rw [e1, e2]
    have g1 : ((l.length : Int) > 1232) = True := eq_true (by omega)
    simp only [sf_xeac, putW, exO, endG_ret, wx, wy, wz, stV, seval, IntWalk.iteOmega, IntWalk.toNatUp, reduceCtorEq, g1]
    exact xea_end (E := E) (sz := sz) 0 (by simp only [wx, wy, wz, stV, seval, IntWalk.iteOmega, IntWalk.toNatUp, reduceCtorEq]) (by simp only [wx, wy, wz, stV, seval, IntWalk.iteOmega, IntWalk.toNatUp, reduceCtorEq]) rfl
  · have eN : eaN l = cntN l := if_neg (by omega)
    have eE : eaE l = (stE l (cntN l)).getD 0 := if_neg (by omega)
    obtain ⟨c1, c2, c3⟩ := cntN_ok l
    rw [eN] at h0 hs ⊢
    have g1 : ((l.length : Int) > 1232) = False := eq_false (by omega)
    simp only [sf_xeac, putW, endG_ret, wx, wy, wz, stV, seval, IntWalk.iteOmega, IntWalk.toNatUp, reduceCtorEq, g1]
    refine loop_st (xeaSt l F cs sz E) (fun k => cntN l - k) (fun k => k ≤ cntN l) 0 (Nat.zero_le _) ?_ ?_
    · refine ent_l (fun i => i) ?_ ?_ rfl (by simp [V.ids, W.ids, C.ids, Ob.ids, Cp.ids, cpd_ids]) <;> simp only [plN, wx, wex, wez, stV, seval, IntWalk.iteOmega, IntWalk.toNatUp, reduceCtorEq, wmg, List.map_append]
    · intro k hk
      have hp := plN_le l k hk
      have cf := xfst_c G (l.drop (plN l k)) (by simp; omega)
      rw [rdN_drop, List.length_drop] at cf
      have et : (l.drop (plN l k)).take (l.length - plN l k) = l.drop (plN l k) := List.take_of_length_le (by simp)
      have hend : ∀ x, stE l k = some x → cntN l = k ∧ eaE l = x := fun x hx => by
        have e : cntN l = k := by
          rcases Nat.lt_or_ge k (cntN l) with h | h
          · rw [c3 k h] at hx; cases hx
          · omega
        exact ⟨e, by rw [eE, e, hx]; rfl⟩
      cases hst : stE l k with
      | some x =>
        obtain ⟨e1, e2⟩ := hend x hst
        rw [e1, e2]
        clear hend e1 e2 hs h0 c3 c2 eE eN
        unfold stE at hst
        split at hst
        · rename_i q1
          obtain rfl := Option.some.inj hst
          simp only [lp_xeac_0, xeaSt, endG_ret, wx, wy, wz, stV, seval, IntWalk.iteOmega, IntWalk.toNatUp, reduceCtorEq]
          exact xea_end k (by simp only [wx, wy, wz, stV, seval, IntWalk.iteOmega, IntWalk.toNatUp, reduceCtorEq]) (by simp only [wx, wy, wz, stV, seval, IntWalk.iteOmega, IntWalk.toNatUp, reduceCtorEq]) rfl
        · rename_i q1
          have q1' : (plN l k : Int) < (l.length : Int) := by omega
          split at hst
          · rename_i q2
            obtain rfl := Option.some.inj hst
            have q3 : (frE (l.length - plN l k) (rdN l (plN l k)) = 0) = False := eq_false q2
            generalize frE (l.length - plN l k) (rdN l (plN l k)) = e at *
            generalize frN (l.length - plN l k) (rdN l (plN l k)) = z at *
            simp only [lp_xeac_0, xeaSt, endG_ret, wx, wy, wz, stV, seval, IntWalk.iteOmega, IntWalk.toNatUp, reduceCtorEq, et]
            refine st_call (cf) rfl (.inl rfl) ?_
            simp only [q3, endG_ret, wx, wy, wz, stV, seval, IntWalk.iteOmega, IntWalk.toNatUp, reduceCtorEq]
            exact xea_end k (by simp only [wx, wy, wz, stV, seval, IntWalk.iteOmega, IntWalk.toNatUp, reduceCtorEq]) (by simp only [wx, wy, wz, stV, seval, IntWalk.iteOmega, IntWalk.toNatUp, reduceCtorEq]) rfl
          · rename_i q2
            have q2 : frE (l.length - plN l k) (rdN l (plN l k)) = 0 := by simpa using q2
            rw [q2] at cf
            split at hst
            · rename_i q3
              obtain rfl := Option.some.inj hst
              have q4 : ((k : Int) = 24) = True := eq_true (by omega)
              generalize frN (l.length - plN l k) (rdN l (plN l k)) = z at *
              simp only [lp_xeac_0, xeaSt, endG_ret, wx, wy, wz, stV, seval, IntWalk.iteOmega, IntWalk.toNatUp, reduceCtorEq, et]
              refine st_call (cf) rfl (.inl rfl) ?_
              simp only [q4, endG_ret, wx, wy, wz, stV, seval, IntWalk.iteOmega, IntWalk.toNatUp, reduceCtorEq]
              exact xea_end k (by simp only [wx, wy, wz, stV, seval, IntWalk.iteOmega, IntWalk.toNatUp, reduceCtorEq]) (by simp only [wx, wy, wz, stV, seval, IntWalk.iteOmega, IntWalk.toNatUp, reduceCtorEq]) rfl
            · cases hst
      | none =>
        obtain ⟨q1, q2, q3⟩ := stE_none hst
        obtain ⟨q4, q5, q6, _⟩ := stE_go hst
        have hkc : k < cntN l := by
          rcases Nat.lt_or_ge k (cntN l) with h | h
          · exact h
          · have : cntN l = k := by omega
            rw [this, hst] at c2; cases c2
        have ez : frN (l.length - plN l k) (rdN l (plN l k)) = rdN l (plN l k) := if_pos q2
        rw [q2, ez] at cf
        have q1' : (plN l k : Int) < (l.length : Int) := by omega
        have hpl : plN l (k + 1) = plN l k + rdN l (plN l k) := rfl
        have q7 : ((k : Int) = 24) = False := eq_false (by omega)
        rcases k with _ | k
        · have hc := h0 (by omega)
          clear hend hs h0 c3 c2 eE eN hst
          generalize rdN l (plN l 0) = z at *
          simp only [lp_xeac_0, xeaSt, xeaH, xeaU, endG_ret, wx, wy, wz, stV, seval, IntWalk.iteOmega, IntWalk.toNatUp, reduceCtorEq, et]
          refine st_call (cf) rfl (.inl rfl) ?_
          simp only [q7, wx, wy, wz, stV, seval, IntWalk.iteOmega, IntWalk.toNatUp, reduceCtorEq]
          refine st_gF (pre := []) (post := cs.map Cp.d ++ [.p 1 1 0 0]) [.c (.d (.int .i64 (plN l 0 : Int))), .c (.d (.int .i64 (z : Int)))] [(3, 1000)] hc he ?_ ?_ ?_ rfl rfl ?_
          · simp only [wx, wy, wz, stV, seval, IntWalk.iteOmega, IntWalk.toNatUp, reduceCtorEq]
          · simp only [exA, wx, wy, wz, stV, seval, IntWalk.iteOmega, IntWalk.toNatUp, reduceCtorEq, wmg, List.map_append]
          · simp only [wx, wex, wez, stV, seval, IntWalk.iteOmega, IntWalk.toNatUp, reduceCtorEq, wmg]
          · simp only [wx, wy, wz, stV, seval, IntWalk.iteOmega, IntWalk.toNatUp, reduceCtorEq, wmg]
            refine lop_next 1 (by omega) (by omega) (ent_l (fun i => if i = 2 then 1000 else i) ?_ ?_ rfl (by simp [V.ids, W.ids, C.ids, Ob.ids, Cp.ids, cpd_ids])) <;> simp only [hpl, wx, wex, wez, stV, seval, IntWalk.iteOmega, IntWalk.toNatUp, reduceCtorEq, wmg, List.map_append]
        · have hc := hs k (by omega)
          clear hend hs h0 c3 c2 eE eN hst
          have q8 : ((k : Int) + 1 = 24) = False := eq_false (by omega)
          generalize rdN l (plN l (k + 1)) = z at *
          simp only [lp_xeac_0, xeaSt, xeaH, xeaU, endG_ret, wx, wy, wz, stV, seval, IntWalk.iteOmega, IntWalk.toNatUp, reduceCtorEq, et]
          refine st_call (cf) rfl (.inl rfl) ?_
          simp only [q8, wx, wy, wz, stV, seval, IntWalk.iteOmega, IntWalk.toNatUp, reduceCtorEq]
          refine st_gF (pre := []) (post := cs.map Cp.d ++ [.p 1 1 0 0]) [.c (.d (.int .i64 (plN l (k + 1) : Int))), .c (.d (.int .i64 (z : Int)))] [(3, 1000)] hc he ?_ ?_ ?_ rfl rfl ?_
          · simp only [wx, wy, wz, stV, seval, IntWalk.iteOmega, IntWalk.toNatUp, reduceCtorEq]
          · simp only [exA, wx, wy, wz, stV, seval, IntWalk.iteOmega, IntWalk.toNatUp, reduceCtorEq, wmg, List.map_append]
          · simp only [wx, wex, wez, stV, seval, IntWalk.iteOmega, IntWalk.toNatUp, reduceCtorEq, wmg]
          · simp only [wx, wy, wz, stV, seval, IntWalk.iteOmega, IntWalk.toNatUp, reduceCtorEq, wmg]
            refine lop_next (k + 1 + 1) (by omega) (by omega) (ent_l (fun i => if i = 2 then 1000 else i) ?_ ?_ rfl (by simp [V.ids, W.ids, C.ids, Ob.ids, Cp.ids, cpd_ids])) <;> simp only [hpl, wx, wex, wez, stV, seval, IntWalk.iteOmega, IntWalk.toNatUp, reduceCtorEq, wmg, List.map_append]
/-! ### The literals -/
def rfdP (l : List UInt8) (p z : Nat) : Fd := ⟨(getN (cutN l p 2) : Int), cutN l (p + 4) (z - 4)⟩
theorem rf_cut {l : List UInt8} {p z : Nat} (h4 : 4 ≤ z) (hz : p + z ≤ l.length) : ((l.drop p).take (p + z - p)).length = z ∧ ((l.drop p).take (p + z - p)).take 2 = cutN l p 2 ∧ (((l.drop p).take (p + z - p)).drop 4).take (z - 4) = cutN l (p + 4) (z - 4) := by
  rw [Nat.add_sub_cancel_left]
  refine ⟨by simp; omega, ?_, ?_⟩
  · rw [List.take_take, Nat.min_eq_left (by omega)]; rfl
  · rw [List.drop_take, List.take_take, Nat.min_self, List.drop_drop]; rfl
def sf_xdcl : SFn := ⟨4, 25,
  .seq (.reg [⟨(some 7), .load .sc (.t 2), none⟩,
    ⟨(some 8), .mv (.t 0), none⟩,
    ⟨(some 9), .mv (.t 0), none⟩,
    ⟨(some 10), .mv (.t 1), none⟩,
    ⟨(some 11), .bin .add (.t 9) (.t 10), none⟩,
    ⟨(some 12), .slice 1 (.t 7) (some (.t 8)) (some (.t 11)) none, none⟩,
    ⟨(some 6), .mv (.t 12), none⟩])
  (.reg [⟨(some 13), .load .sc (.t 3), none⟩,
    ⟨(some 14), .mv (.t 6), none⟩,
    ⟨(some 15), .slice 1 (.t 14) none (some (.k (.c (.d (.int .i64 2))))) none, none⟩,
    ⟨(some 16), .call 33 [(.t 15)] none, none⟩,
    ⟨(some 17), .conv .i64 (.t 16), none⟩,
    ⟨(some 18), .mv (.t 6), none⟩,
    ⟨(some 19), .slice 1 (.t 18) (some (.k (.c (.d (.int .i64 4))))) none none, none⟩,
    ⟨(some 20), .bldSl false 1 1 (.sl []) [(0, (.t 19))], none⟩,
    ⟨(some 21), .call 34 [(.t 20)] none, none⟩,
    ⟨(some 22), .build [(.d (.int .i64 0)), .nil] [(0, 1, (.t 17)), (1, 1, (.t 21))], none⟩,
    ⟨(some 23), .bldSl false 1 2 (.agg [(.int .i64 0), (.sl [])]) [(0, (.t 22))], none⟩,
    ⟨(some 24), .app false 2 32 (.t 13) (.t 23), none⟩,
    ⟨none, .store .sc (.t 3) (.t 24), none⟩]),
  []⟩
theorem cf_xdcl : compFn Try.prog { own := [], comp := [], frz := [], nils := [] } Try.f32 = some sf_xdcl := by kernel_rfl
set_option maxHeartbeats 1600000 in
theorem xdcl_0 (G : Glob) (l : List UInt8) (p z : Nat) (h4 : 4 ≤ z) (hz : p + z ≤ l.length) (hl : l.length ≤ 1232) : DenB Try.prog G 32 (exA p z [.ref [.sl (l.map bD)]]) [(1, .box [.nil])] (.tup []) [(1, .box [.own 3 2 0 1]), (3, .row 2 [fdD (rfdP l p z)])] := by
  unfold exA
  refine denB_walk Try.func32 cf_xdcl [3] rfl rfl rfl rfl rfl rfl rfl ?_
  have c1 := get_c G (cutN l p 2) (by rw [cutN_len (by omega)]; decide)
  have hty := (getN_lt_pow 2 (cutN l p 2) (cutN_len (by omega)) (by decide)).1
  have cj := join_c G [cutN l (p + 4) (z - 4)] (by simp) (by simp [cutN_len (show p + 4 + (z - 4) ≤ l.length by omega)]; omega)
  simp only [List.map_cons, List.map_nil, List.flatten_cons, List.flatten_nil, List.append_nil] at cj
  obtain ⟨q0, q1, q2⟩ := rf_cut h4 hz
  unfold rfdP fdD
  generalize getN (cutN l p 2) = ty at *
  generalize cutN l p 2 = B1 at *
  generalize cutN l (p + 4) (z - 4) = B2 at *
  simp only [sf_xdcl, putW, endG_nrm, wx, wy, wz, stV, seval, IntWalk.iteOmega, IntWalk.toNatUp, reduceCtorEq, q0, q1, q2]
  refine st_call (c1) rfl (.inl rfl) ?_
  simp only [q0, q1, q2, wx, wy, wz, stV, seval, IntWalk.iteOmega, IntWalk.toNatUp, reduceCtorEq]
  refine st_call (cj) rfl (.inl rfl) ?_
  simp only [srcV, endG_nrm, wx, wy, wz, stV, seval, IntWalk.iteOmega, IntWalk.toNatUp, reduceCtorEq]
  refine ret_g [(3, 192)] [(3, .c (.ptr 1 1 0 0))] (ws := []) rfl rfl ?_ rfl ?_ ⟨by simp, fun id h _ => ⟨_, List.mem_singleton.2 rfl, by simp at h; subst h; simp [W.lnk]⟩⟩ <;> simp only [agL, wx, wex, wez, stV, seval, IntWalk.iteOmega, IntWalk.toNatUp, reduceCtorEq, wmg]
set_option maxHeartbeats 1600000 in
theorem xdcl_1 (G : Glob) (l : List UInt8) (p z : Nat) (h4 : 4 ≤ z) (hz : p + z ≤ l.length) (hl : l.length ≤ 1232) (es : List Fd) (he : es.length ≤ 24) : DenB Try.prog G 32 (exA p z [.ref [.sl (l.map bD)]]) [(1, .box [.own 2 2 0 (es.map fdD).length]), (2, .row 2 (es.map fdD))] (.tup []) [(1, .box [.own 3 2 0 ((es ++ [rfdP l p z]).map fdD).length]), (3, .row 2 ((es ++ [rfdP l p z]).map fdD))] := by
  unfold exA
  refine denB_walk Try.func32 cf_xdcl [3] rfl rfl rfl rfl rfl rfl rfl ?_
  have c1 := get_c G (cutN l p 2) (by rw [cutN_len (by omega)]; decide)
  have hty := (getN_lt_pow 2 (cutN l p 2) (cutN_len (by omega)) (by decide)).1
  have cj := join_c G [cutN l (p + 4) (z - 4)] (by simp) (by simp [cutN_len (show p + 4 + (z - 4) ≤ l.length by omega)]; omega)
  simp only [List.map_cons, List.map_nil, List.flatten_cons, List.flatten_nil, List.append_nil] at cj
  obtain ⟨q0, q1, q2⟩ := rf_cut h4 hz
  rw [show (es ++ [rfdP l p z]).map fdD = es.map fdD ++ [fdD (rfdP l p z)] by simp]
  unfold rfdP
  rw [show fdD ⟨(getN (cutN l p 2) : Int), cutN l (p + 4) (z - 4)⟩ = .agg [.int .i64 (getN (cutN l p 2) : Int), .sl ((cutN l (p + 4) (z - 4)).map bD)] from rfl]
  generalize getN (cutN l p 2) = ty at *
  generalize cutN l p 2 = B1 at *
  generalize cutN l (p + 4) (z - 4) = B2 at *
  have hel : (es.map fdD).length ≤ 24 := by simpa using he
  generalize es.map fdD = E at *
  simp only [sf_xdcl, putW, endG_nrm, wx, wy, wz, stV, seval, IntWalk.iteOmega, IntWalk.toNatUp, reduceCtorEq, q0, q1, q2]
  refine st_call (c1) rfl (.inl rfl) ?_
  simp only [q0, q1, q2, wx, wy, wz, stV, seval, IntWalk.iteOmega, IntWalk.toNatUp, reduceCtorEq]
  refine st_call (cj) rfl (.inl rfl) ?_
  simp only [srcV, endG_nrm, wx, wy, wz, stV, seval, IntWalk.iteOmega, IntWalk.toNatUp, reduceCtorEq]
  refine ret_g [(3, 192)] [(3, .c (.ptr 1 1 0 0))] (ws := []) rfl rfl ?_ rfl ?_ ⟨by simp, fun id h _ => ⟨_, List.mem_singleton.2 rfl, by simp at h; rcases h with rfl | rfl <;> simp [W.lnk] at *⟩⟩ <;> simp only [agL, wx, wex, wez, stV, seval, IntWalk.iteOmega, IntWalk.toNatUp, reduceCtorEq, wmg]
theorem xdcl_e : ∀ (args : Array Value) (w : World), (callFunc 32 args).run Try.prog w = .ok (.enter 32 args) w := enters_of Try.func32 (by kernel_rfl) rfl
def sf_xpcl : SFn := ⟨3, 9,
  .reg [⟨(some 5), .load .sc (.t 2), none⟩,
    ⟨(some 6), .mv (.t 0), none⟩,
    ⟨(some 7), .bldSl false 1 1 (.int .i64 0) [(0, (.t 6))], none⟩,
    ⟨(some 8), .app false 1 8 (.t 5) (.t 7), none⟩,
    ⟨none, .store .sc (.t 2) (.t 8), none⟩],
  []⟩
theorem cf_xpcl : compFn Try.prog { own := [], comp := [], frz := [], nils := [] } Try.f36 = some sf_xpcl := by kernel_rfl
set_option maxHeartbeats 1600000 in
theorem xpcl_0 (G : Glob) (p z : Nat) : DenB Try.prog G 36 (exA p z []) [(1, .box [.nil])] (.tup []) [(1, .box [.own 3 1 0 1]), (3, .row 1 [.int .i64 (p : Int)])] := by
  unfold exA
  refine denB_walk Try.func36 cf_xpcl [2] rfl rfl rfl rfl rfl rfl rfl ?_
  simp only [sf_xpcl, putW, endG_nrm, srcV, wx, wy, wz, stV, seval, IntWalk.iteOmega, IntWalk.toNatUp, reduceCtorEq]
  refine ret_g [(3, 64)] [(2, .c (.ptr 1 1 0 0))] (ws := []) rfl rfl ?_ rfl ?_ ⟨by simp, fun id h _ => ⟨_, List.mem_singleton.2 rfl, by simp at h; subst h; simp [W.lnk]⟩⟩ <;> simp only [agL, wx, wex, wez, stV, seval, IntWalk.iteOmega, IntWalk.toNatUp, reduceCtorEq, wmg]
set_option maxHeartbeats 1600000 in
theorem xpcl_1 (G : Glob) (p z : Nat) (es : List Int) (he : es.length ≤ 24) : DenB Try.prog G 36 (exA p z []) [(1, .box [.own 2 1 0 (es.map zD).length]), (2, .row 1 (es.map zD))] (.tup []) [(1, .box [.own 3 1 0 ((es ++ [(p : Int)]).map zD).length]), (3, .row 1 ((es ++ [(p : Int)]).map zD))] := by
  unfold exA
  refine denB_walk Try.func36 cf_xpcl [2] rfl rfl rfl rfl rfl rfl rfl ?_
  rw [show (es ++ [(p : Int)]).map zD = es.map zD ++ [zD (p : Int)] by simp]
  have hel : (es.map zD).length ≤ 24 := by simpa using he
  generalize es.map zD = E at *
  unfold zD
  simp only [sf_xpcl, putW, endG_nrm, srcV, wx, wy, wz, stV, seval, IntWalk.iteOmega, IntWalk.toNatUp, reduceCtorEq]
  refine ret_g [(3, 64)] [(2, .c (.ptr 1 1 0 0))] (ws := []) rfl rfl ?_ rfl ?_ ⟨by simp, fun id h _ => ⟨_, List.mem_singleton.2 rfl, by simp at h; rcases h with rfl | rfl <;> simp [W.lnk] at *⟩⟩ <;> simp only [agL, wx, wex, wez, stV, seval, IntWalk.iteOmega, IntWalk.toNatUp, reduceCtorEq, wmg]
theorem xpcl_e : ∀ (args : Array Value) (w : World), (callFunc 36 args).run Try.prog w = .ok (.enter 36 args) w := enters_of Try.func36 (by kernel_rfl) rfl
theorem eaN_le (l : List UInt8) : eaN l ≤ 24 ∧ ∀ k, k < eaN l → l.length ≤ 1232 ∧ k < cntN l := by
  have h := (cntN_ok l).1
  unfold eaN
  split
  · exact ⟨by omega, fun k hk => by omega⟩
  · exact ⟨h, fun k hk => ⟨by omega, hk⟩⟩
theorem eaN_go {l : List UInt8} {k : Nat} (hk : k < eaN l) : l.length ≤ 1232 ∧ 4 ≤ rdN l (plN l k) ∧ plN l k + rdN l (plN l k) ≤ l.length := by
  obtain ⟨h1, h2⟩ := (eaN_le l).2 k hk
  have := stE_go ((cntN_ok l).2.2 k h2)
  omega
def sf_xdec : SFn := ⟨1, 13,
  .seq (.reg [⟨(some 1), .box .roBox (.t 0), none⟩,
    ⟨(some 2), .mv (.k (.c .nil)), none⟩,
    ⟨(some 3), .mv (.k (.c (.d (.int .i64 0)))), none⟩])
  (.seq (.reg [⟨(some 4), .alloc [.nil], none⟩])
  (.seq (.reg [⟨(some 6), .load .sc (.t 1), none⟩,
    ⟨(some 7), .closM 32 [] [(.t 1), (.t 4)], none⟩,
    ⟨(some 8), .callM 31 [(.t 6), (.t 7)], none⟩,
    ⟨(some 5), .mv (.t 8), none⟩])
  (.seq (.seq (.reg [⟨(some 9), .mv (.t 5), none⟩,
    ⟨(some 10), .bin .neq (.t 9) (.k (.c (.d (.int .i64 0)))), none⟩])
  (.cond (.t 10) (.seq (.reg [⟨(some 11), .mv (.t 5), none⟩,
     ⟨(some 2), .mv (.k (.c .nil)), none⟩,
     ⟨(some 3), .mv (.t 11), none⟩])
   (.ret))
   (.skip)))
  (.seq (.reg [⟨(some 12), .load .sc (.t 4), none⟩,
    ⟨(some 2), .mv (.t 12), none⟩,
    ⟨(some 3), .mv (.k (.c (.d (.int .i64 0)))), none⟩])
  (.ret))))),
  [(2, none), (3, none)]⟩
theorem cf_xdec : compFn Try.prog { own := [], comp := [], frz := [], nils := [], mt := [7, 8] } Try.f13 = some sf_xdec := by kernel_rfl
set_option maxHeartbeats 1600000 in
theorem xdec_c (G : Glob) (l : List UInt8) (hl : l.length ≤ 9000000000000000000) : Den Try.prog G 13 [.sl (l.map bD)] (.tup [.c (.d (.sl ((xdL l).map fdD))), .c (.d (.int .i64 (eaE l)))]) := by
  refine den_walk Try.func13 cf_xdec rfl rfl ?_
  have c := xeac_c G l hl _ [.ref [.sl (l.map bD)]] 2 (fun k => (rfs l k).map fdD) xdcl_e (fun h => by
    obtain ⟨h1, h2, h3⟩ := eaN_go h
    exact xdcl_0 G l (plN l 0) (rdN l (plN l 0)) h2 h3 h1) (fun k h => by
    obtain ⟨h1, h2, h3⟩ := eaN_go h
    have h4 := (eaN_le l).1
    have := xdcl_1 G l (plN l (k + 1)) (rdN l (plN l (k + 1))) h2 h3 h1 (rfs l (k + 1)) (by rw [rfs_len]; omega)
    rw [show rfs l (k + 1) ++ [rfdP l (plN l (k + 1)) (rdN l (plN l (k + 1)))] = rfs l (k + 2) from (rfs_succ l (k + 1)).symm] at this
    exact this)
  have hx : xdL l = if eaE l = 0 then rfs l (eaN l) else [] := rfl
  rw [hx]
  generalize eaE l = e at *
  cases hn : eaN l with
  | zero =>
    rw [hn] at c
    have c : DenB Try.prog G _ [.c (.d (.sl (l.map bD))), .c (.cf 32 [] [.d (.ref [.sl (l.map bD)]), .p 1 1 0 0])] [(1, .box [.nil])] (.w (.c (.d (.int .i64 e)))) [(1, .box [.nil])] := c
    have hr : rfs l 0 = [] := rfl
    rw [hr, show (if e = 0 then ([] : List Fd) else []) = [] by split <;> rfl]
    by_cases he : e = 0
    · have he' : (e = 0) = True := eq_true he
      simp only [sf_xdec, putAll, wmm, wmn, wx, wy, wz, stV, seval, IntWalk.iteOmega, IntWalk.toNatUp, reduceCtorEq]
      refine st_gC [.c (.d (.sl (l.map bD))), .c (.cf 32 [] [.d (.ref [.sl (l.map bD)]), .p 32 1 0 0])] [(1, 32)] c ?_ ?_ ?_ rfl rfl ?_
      · simp only [wx, wy, wz, stV, seval, IntWalk.iteOmega, IntWalk.toNatUp, reduceCtorEq]
      · simp only [wx, wy, wz, stV, seval, IntWalk.iteOmega, IntWalk.toNatUp, reduceCtorEq, wmg]
      · simp only [wx, wex, wez, stV, seval, IntWalk.iteOmega, IntWalk.toNatUp, reduceCtorEq, wmg]
      · simp only [wmg, wx, wy, wz, stV, seval, IntWalk.iteOmega, IntWalk.toNatUp, reduceCtorEq, he']
        rw [he]
        exact ret_d2 (by simp only [wx, wy, wz, stV, seval, IntWalk.iteOmega, IntWalk.toNatUp, reduceCtorEq]; try rfl) (by simp only [wx, wy, wz, stV, seval, IntWalk.iteOmega, IntWalk.toNatUp, reduceCtorEq])
    · have he' : (e = 0) = False := eq_false he
      simp only [sf_xdec, putAll, wmm, wmn, wx, wy, wz, stV, seval, IntWalk.iteOmega, IntWalk.toNatUp, reduceCtorEq]
      refine st_gC [.c (.d (.sl (l.map bD))), .c (.cf 32 [] [.d (.ref [.sl (l.map bD)]), .p 32 1 0 0])] [(1, 32)] c ?_ ?_ ?_ rfl rfl ?_
      · simp only [wx, wy, wz, stV, seval, IntWalk.iteOmega, IntWalk.toNatUp, reduceCtorEq]
      · simp only [wx, wy, wz, stV, seval, IntWalk.iteOmega, IntWalk.toNatUp, reduceCtorEq, wmg]
      · simp only [wx, wex, wez, stV, seval, IntWalk.iteOmega, IntWalk.toNatUp, reduceCtorEq, wmg]
      · simp only [wmg, wx, wy, wz, stV, seval, IntWalk.iteOmega, IntWalk.toNatUp, reduceCtorEq, he']
        exact ret_d2 (by simp only [wx, wy, wz, stV, seval, IntWalk.iteOmega, IntWalk.toNatUp, reduceCtorEq]; try rfl) (by simp only [wx, wy, wz, stV, seval, IntWalk.iteOmega, IntWalk.toNatUp, reduceCtorEq])
  | succ n =>
    rw [hn] at c
    have c : DenB Try.prog G _ [.c (.d (.sl (l.map bD))), .c (.cf 32 [] [.d (.ref [.sl (l.map bD)]), .p 1 1 0 0])] [(1, .box [.nil])] (.w (.c (.d (.int .i64 e)))) [(1, .box [.own 3 2 0 ((rfs l (n + 1)).map fdD).length]), (3, .row 2 ((rfs l (n + 1)).map fdD))] := c
    by_cases he : e = 0
    · rw [if_pos he]
      have he' : (e = 0) = True := eq_true he
      simp only [sf_xdec, putAll, wmm, wmn, wx, wy, wz, stV, seval, IntWalk.iteOmega, IntWalk.toNatUp, reduceCtorEq]
      refine st_gC [.c (.d (.sl (l.map bD))), .c (.cf 32 [] [.d (.ref [.sl (l.map bD)]), .p 32 1 0 0])] [(1, 32), (3, 1000)] c ?_ ?_ ?_ rfl rfl ?_
      · simp only [wx, wy, wz, stV, seval, IntWalk.iteOmega, IntWalk.toNatUp, reduceCtorEq]
      · simp only [wx, wy, wz, stV, seval, IntWalk.iteOmega, IntWalk.toNatUp, reduceCtorEq, wmg]
      · simp only [wx, wex, wez, stV, seval, IntWalk.iteOmega, IntWalk.toNatUp, reduceCtorEq, wmg]
      · simp only [wmg, wx, wy, wz, stV, seval, IntWalk.iteOmega, IntWalk.toNatUp, reduceCtorEq, he']
        rw [he]
        exact ret_d2 (by simp only [wx, wy, wz, stV, seval, IntWalk.iteOmega, IntWalk.toNatUp, reduceCtorEq]; try rfl) (by simp only [wx, wy, wz, stV, seval, IntWalk.iteOmega, IntWalk.toNatUp, reduceCtorEq])
    · rw [if_neg he]
      have he' : (e = 0) = False := eq_false he
      simp only [sf_xdec, putAll, wmm, wmn, wx, wy, wz, stV, seval, IntWalk.iteOmega, IntWalk.toNatUp, reduceCtorEq]
      refine st_gC [.c (.d (.sl (l.map bD))), .c (.cf 32 [] [.d (.ref [.sl (l.map bD)]), .p 32 1 0 0])] [(1, 32), (3, 1000)] c ?_ ?_ ?_ rfl rfl ?_
      · simp only [wx, wy, wz, stV, seval, IntWalk.iteOmega, IntWalk.toNatUp, reduceCtorEq]
      · simp only [wx, wy, wz, stV, seval, IntWalk.iteOmega, IntWalk.toNatUp, reduceCtorEq, wmg]
      · simp only [wx, wex, wez, stV, seval, IntWalk.iteOmega, IntWalk.toNatUp, reduceCtorEq, wmg]
      · simp only [wmg, wx, wy, wz, stV, seval, IntWalk.iteOmega, IntWalk.toNatUp, reduceCtorEq, he']
        exact ret_d2 (by simp only [wx, wy, wz, stV, seval, IntWalk.iteOmega, IntWalk.toNatUp, reduceCtorEq]; try rfl) (by simp only [wx, wy, wz, stV, seval, IntWalk.iteOmega, IntWalk.toNatUp, reduceCtorEq])
def sf_xplc : SFn := ⟨1, 13,
  .seq (.reg [⟨(some 2), .mv (.k (.c .nil)), none⟩,
    ⟨(some 3), .mv (.k (.c (.d (.int .i64 0)))), none⟩])
  (.seq (.reg [⟨(some 4), .alloc [.nil], none⟩])
  (.seq (.reg [⟨(some 6), .mv (.t 0), none⟩,
    ⟨(some 7), .closM 36 [] [(.t 4)], none⟩,
    ⟨(some 8), .callM 31 [(.t 6), (.t 7)], none⟩,
    ⟨(some 5), .mv (.t 8), none⟩])
  (.seq (.seq (.reg [⟨(some 9), .mv (.t 5), none⟩,
    ⟨(some 10), .bin .neq (.t 9) (.k (.c (.d (.int .i64 0)))), none⟩])
  (.cond (.t 10) (.seq (.reg [⟨(some 11), .mv (.t 5), none⟩,
     ⟨(some 2), .mv (.k (.c .nil)), none⟩,
     ⟨(some 3), .mv (.t 11), none⟩])
   (.ret))
   (.skip)))
  (.seq (.reg [⟨(some 12), .load .sc (.t 4), none⟩,
    ⟨(some 2), .mv (.t 12), none⟩,
    ⟨(some 3), .mv (.k (.c (.d (.int .i64 0)))), none⟩])
  (.ret))))),
  [(2, none), (3, none)]⟩
theorem cf_xplc : compFn Try.prog { own := [], comp := [], frz := [], nils := [], mt := [7, 8] } Try.f15 = some sf_xplc := by kernel_rfl
set_option maxHeartbeats 1600000 in
theorem xplc_c (G : Glob) (l : List UInt8) (hl : l.length ≤ 9000000000000000000) : Den Try.prog G 15 [.sl (l.map bD)] (.tup [.c (.d (.sl ((xpL l).map zD))), .c (.d (.int .i64 (eaE l)))]) := by
  refine den_walk Try.func15 cf_xplc rfl rfl ?_
  have c := xeac_c G l hl _ [] 1 (fun k => (rps l k).map zD) xpcl_e (fun h => xpcl_0 G (plN l 0) (rdN l (plN l 0))) (fun k h => by
    have h4 := (eaN_le l).1
    have := xpcl_1 G (plN l (k + 1)) (rdN l (plN l (k + 1))) (rps l (k + 1)) (by rw [rps_len]; omega)
    rw [show rps l (k + 1) ++ [(plN l (k + 1) : Int)] = rps l (k + 2) from (rps_succ l (k + 1)).symm] at this
    exact this)
  have hx : xpL l = if eaE l = 0 then rps l (eaN l) else [] := rfl
  rw [hx]
  generalize eaE l = e at *
  cases hn : eaN l with
  | zero =>
    rw [hn] at c
    have c : DenB Try.prog G _ [.c (.d (.sl (l.map bD))), .c (.cf 36 [] [.p 1 1 0 0])] [(1, .box [.nil])] (.w (.c (.d (.int .i64 e)))) [(1, .box [.nil])] := c
    have hr : rps l 0 = [] := rfl
    rw [hr, show (if e = 0 then ([] : List Int) else []) = [] by split <;> rfl]
    by_cases he : e = 0
    · have he' : (e = 0) = True := eq_true he
      simp only [sf_xplc, putAll, wmm, wmn, wx, wy, wz, stV, seval, IntWalk.iteOmega, IntWalk.toNatUp, reduceCtorEq]
      refine st_gC [.c (.d (.sl (l.map bD))), .c (.cf 36 [] [.p 32 1 0 0])] [(1, 32)] c ?_ ?_ ?_ rfl rfl ?_
      · simp only [wx, wy, wz, stV, seval, IntWalk.iteOmega, IntWalk.toNatUp, reduceCtorEq]
      · simp only [wx, wy, wz, stV, seval, IntWalk.iteOmega, IntWalk.toNatUp, reduceCtorEq, wmg]
      · simp only [wx, wex, wez, stV, seval, IntWalk.iteOmega, IntWalk.toNatUp, reduceCtorEq, wmg]
      · simp only [wmg, wx, wy, wz, stV, seval, IntWalk.iteOmega, IntWalk.toNatUp, reduceCtorEq, he']
        rw [he]
        exact ret_d2 (by simp only [wx, wy, wz, stV, seval, IntWalk.iteOmega, IntWalk.toNatUp, reduceCtorEq]; try rfl) (by simp only [wx, wy, wz, stV, seval, IntWalk.iteOmega, IntWalk.toNatUp, reduceCtorEq])
    · have he' : (e = 0) = False := eq_false he
      simp only [sf_xplc, putAll, wmm, wmn, wx, wy, wz, stV, seval, IntWalk.iteOmega, IntWalk.toNatUp, reduceCtorEq]
      refine st_gC [.c (.d (.sl (l.map bD))), .c (.cf 36 [] [.p 32 1 0 0])] [(1, 32)] c ?_ ?_ ?_ rfl rfl ?_
      · simp only [wx, wy, wz, stV, seval, IntWalk.iteOmega, IntWalk.toNatUp, reduceCtorEq]
      · simp only [wx, wy, wz, stV, seval, IntWalk.iteOmega, IntWalk.toNatUp, reduceCtorEq, wmg]
      · simp only [wx, wex, wez, stV, seval, IntWalk.iteOmega, IntWalk.toNatUp, reduceCtorEq, wmg]
      · simp only [wmg, wx, wy, wz, stV, seval, IntWalk.iteOmega, IntWalk.toNatUp, reduceCtorEq, he']
        exact ret_d2 (by simp only [wx, wy, wz, stV, seval, IntWalk.iteOmega, IntWalk.toNatUp, reduceCtorEq]; try rfl) (by simp only [wx, wy, wz, stV, seval, IntWalk.iteOmega, IntWalk.toNatUp, reduceCtorEq])
  | succ n =>
    rw [hn] at c
    have c : DenB Try.prog G _ [.c (.d (.sl (l.map bD))), .c (.cf 36 [] [.p 1 1 0 0])] [(1, .box [.nil])] (.w (.c (.d (.int .i64 e)))) [(1, .box [.own 3 1 0 ((rps l (n + 1)).map zD).length]), (3, .row 1 ((rps l (n + 1)).map zD))] := c
    by_cases he : e = 0
    · rw [if_pos he]
      have he' : (e = 0) = True := eq_true he
      simp only [sf_xplc, putAll, wmm, wmn, wx, wy, wz, stV, seval, IntWalk.iteOmega, IntWalk.toNatUp, reduceCtorEq]
      refine st_gC [.c (.d (.sl (l.map bD))), .c (.cf 36 [] [.p 32 1 0 0])] [(1, 32), (3, 1000)] c ?_ ?_ ?_ rfl rfl ?_
      · simp only [wx, wy, wz, stV, seval, IntWalk.iteOmega, IntWalk.toNatUp, reduceCtorEq]
      · simp only [wx, wy, wz, stV, seval, IntWalk.iteOmega, IntWalk.toNatUp, reduceCtorEq, wmg]
      · simp only [wx, wex, wez, stV, seval, IntWalk.iteOmega, IntWalk.toNatUp, reduceCtorEq, wmg]
      · simp only [wmg, wx, wy, wz, stV, seval, IntWalk.iteOmega, IntWalk.toNatUp, reduceCtorEq, he']
        rw [he]
        exact ret_d2 (by simp only [wx, wy, wz, stV, seval, IntWalk.iteOmega, IntWalk.toNatUp, reduceCtorEq]; try rfl) (by simp only [wx, wy, wz, stV, seval, IntWalk.iteOmega, IntWalk.toNatUp, reduceCtorEq])
    · rw [if_neg he]
      have he' : (e = 0) = False := eq_false he
      simp only [sf_xplc, putAll, wmm, wmn, wx, wy, wz, stV, seval, IntWalk.iteOmega, IntWalk.toNatUp, reduceCtorEq]
      refine st_gC [.c (.d (.sl (l.map bD))), .c (.cf 36 [] [.p 32 1 0 0])] [(1, 32), (3, 1000)] c ?_ ?_ ?_ rfl rfl ?_
      · simp only [wx, wy, wz, stV, seval, IntWalk.iteOmega, IntWalk.toNatUp, reduceCtorEq]
      · simp only [wx, wy, wz, stV, seval, IntWalk.iteOmega, IntWalk.toNatUp, reduceCtorEq, wmg]
      · simp only [wx, wex, wez, stV, seval, IntWalk.iteOmega, IntWalk.toNatUp, reduceCtorEq, wmg]
      · simp only [wmg, wx, wy, wz, stV, seval, IntWalk.iteOmega, IntWalk.toNatUp, reduceCtorEq, he']
        exact ret_d2 (by simp only [wx, wy, wz, stV, seval, IntWalk.iteOmega, IntWalk.toNatUp, reduceCtorEq]; try rfl) (by simp only [wx, wy, wz, stV, seval, IntWalk.iteOmega, IntWalk.toNatUp, reduceCtorEq])
end Go.Proofs.Ytldcgjhfaledfaa
