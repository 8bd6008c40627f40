/- The laws of layer 17: there and back; lists joined. Own work. -/
import Derived.Test.YtldcgjhfaledfaaAlV
import Derived.Test.YtldcgjhfaledfaaLq0
set_option linter.unusedVariables false
set_option linter.unusedSimpArgs false
namespace Go.Proofs.Ytldcgjhfaledfaa
open Go.RowKit

/-- The fields that a law draws. -/
theorem wfF_ok (f : Fd) : xsE (wfF f) = 0 ∧ (wfF f).da.length ≤ 60 ∧ xsT (wfF f) ≤ 76 ∧ 0 ≤ (wfF f).ty ∧ (wfF f).ty ≤ 65534 := by
  have h1 : (wfF f).da.length ≤ 60 := by unfold wfF; simp; omega
  have h2 := xsT_lt (wfF f)
  have h3 : (wfF f).ty = kndZ (withinN f.ty 4) := rfl
  have h4 := kndZ_in f.ty
  exact ⟨xsE_of (by omega) (by omega) (by omega), h1, by omega, by omega, by omega⟩
theorem wfL_mem {l : List Fd} {f : Fd} (h : f ∈ wfL l) : xsE f = 0 ∧ f.da.length ≤ 60 ∧ xsT f ≤ 76 ∧ 0 ≤ f.ty ∧ f.ty ≤ 65534 := by
  obtain ⟨x, _, rfl⟩ := List.mem_map.1 h
  exact wfF_ok x
theorem tot_76 : ∀ {l : List Fd}, (∀ f ∈ l, xsT f ≤ 76) → xtot l ≤ 76 * l.length
  | [], _ => Nat.le_refl _
  | f :: l, h => by
    have h1 := h f (by simp)
    have h2 := tot_76 (l := l) fun g hg => h g (by simp [hg])
    rw [xtot_cons, List.length_cons]; omega
theorem xe_short {l : List Fd} (h : ∀ f ∈ l, xsE f = 0 ∧ xsT f ≤ 76) (hl : l.length ≤ 8) : xeE l = 0 ∧ xeB l = xall l ∧ xfE l = 0 := by
  have h0 : xfE l = 0 := xfE_0.2 fun f hf => (h f hf).1
  have h1 := tot_76 (l := l) fun f hf => (h f hf).2
  obtain ⟨a, b⟩ := xeE_fit h0 (by omega) (show xtot l ≤ 1232 by omega)
  exact ⟨a, b, h0⟩
theorem wfL_le (l : List Fd) : (wfL l).length ≤ 4 := by rw [wfL_len]; omega
theorem tot_mod (l : List Fd) : xtot l % 4 = 0 := by
  induction l with
  | nil => rfl
  | cons f l ih => have := xsT_mod f; rw [xtot_cons]; omega
def xrbSt (b : List UInt8) (f : List Fd) (x : List UInt8) (i : Nat) : St := ⟨ofL [(1, .w (.c (.d (.sl (b.map bD))))), (5, .w (.c (.d (.sl (f.map fdD))))), (6, .w (.c (.d (.sl (x.map bD))))), (10, .w (.c (.d (.int .i64 (xtot (f.take i) : Int))))), (11, .w (.c (.d (.int .i64 (i : Int)))))], hL [], uL []⟩
def lp_xrbk17_0 : SCode :=
  .seq (.seq (.reg [⟨(some 53), .mv (.t 11), none⟩,
    ⟨(some 54), .mv (.t 5), none⟩,
    ⟨(some 55), .len (.t 54), none⟩,
    ⟨(some 56), .bin .lss (.t 53) (.t 55), none⟩])
  (.cond (.t 56) (.skip)
   (.exit 0)))
  (.seq (.block 1 (.seq (.reg [⟨(some 60), .mv (.t 5), none⟩,
     ⟨(some 61), .mv (.t 11), none⟩,
     ⟨(some 62), .idxSl 2 (.t 60) (.t 61), none⟩,
     ⟨(some 63), .load (.ag 2) (.t 62), none⟩,
     ⟨(some 64), .call 9 [(.t 63)] none, none⟩,
     ⟨(some 59), .mv (.t 64), none⟩,
     ⟨(some 65), .extract (.t 59) 0, none⟩,
     ⟨(some 66), .extract (.t 59) 1, none⟩,
     ⟨(some 12), .mv (.t 65), none⟩,
     ⟨(some 13), .mv (.t 66), none⟩])
   (.seq (.seq (.reg [⟨(some 67), .mv (.t 13), none⟩,
     ⟨(some 68), .bin .neq (.t 67) (.k (.c (.d (.int .i64 0)))), none⟩])
   (.cond (.t 68) (.seq (.reg [⟨(some 4), .mv (.k (.c (.d (.bool false)))), none⟩])
    (.ret))
    (.skip)))
   (.reg [⟨(some 69), .mv (.t 10), none⟩,
     ⟨(some 70), .mv (.t 12), none⟩,
     ⟨(some 71), .bin .add (.t 69) (.t 70), none⟩,
     ⟨(some 10), .mv (.t 71), none⟩]))))
  (.reg [⟨(some 57), .mv (.t 11), none⟩,
    ⟨(some 58), .bin .add (.t 57) (.k (.c (.d (.int .i64 1)))), none⟩,
    ⟨(some 11), .mv (.t 58), none⟩]))
def sf_xrbk17 : SFn := ⟨2, 99,
  .seq (.reg [⟨(some 4), .mv (.k (.c (.d (.bool false)))), none⟩])
  (.seq (.seq (.reg [⟨(some 18), .mv (.t 1), none⟩,
    ⟨(some 19), .len (.t 18), none⟩,
    ⟨(some 20), .bin .gtr (.t 19) (.k (.c (.d (.int .i64 700)))), none⟩])
  (.cond (.t 20) (.seq (.reg [⟨(some 21), .call 8 [] none, none⟩,
     ⟨(some 4), .mv (.t 21), none⟩])
   (.ret))
   (.skip)))
  (.seq (.reg [⟨(some 22), .mv (.t 0), none⟩,
    ⟨(some 23), .call 23 [(.t 22)] none, none⟩,
    ⟨(some 5), .mv (.t 23), none⟩])
  (.seq (.reg [⟨(some 25), .mv (.t 5), none⟩,
    ⟨(some 26), .call 11 [(.t 25)] none, none⟩,
    ⟨(some 24), .mv (.t 26), none⟩,
    ⟨(some 27), .extract (.t 24) 0, none⟩,
    ⟨(some 28), .extract (.t 24) 1, none⟩,
    ⟨(some 6), .mv (.t 27), none⟩,
    ⟨(some 7), .mv (.t 28), none⟩])
  (.seq (.reg [⟨(some 30), .mv (.t 6), none⟩,
    ⟨(some 31), .call 13 [(.t 30)] none, none⟩,
    ⟨(some 29), .mv (.t 31), none⟩,
    ⟨(some 32), .extract (.t 29) 0, none⟩,
    ⟨(some 33), .extract (.t 29) 1, none⟩,
    ⟨(some 8), .mv (.t 32), none⟩,
    ⟨(some 9), .mv (.t 33), none⟩])
  (.seq (.seq (.reg [⟨(some 34), .mv (.t 7), none⟩,
    ⟨(some 35), .bin .neq (.t 34) (.k (.c (.d (.int .i64 0)))), none⟩,
    ⟨(some 36), .mv (.t 35), none⟩,
    ⟨(some 37), .mv (.t 9), (some (36, false))⟩,
    ⟨(some 38), .bin .neq (.t 37) (.k (.c (.d (.int .i64 0)))), (some (36, false))⟩,
    ⟨(some 39), .pick (.t 36) (.k (.c (.d (.bool true)))) (.t 38), none⟩,
    ⟨(some 40), .mv (.t 39), none⟩,
    ⟨(some 41), .mv (.t 8), (some (40, false))⟩,
    ⟨(some 42), .mv (.t 5), (some (40, false))⟩,
    ⟨(some 43), .call 24 [(.t 42)] none, (some (40, false))⟩,
    ⟨(some 44), .call 18 [(.t 41), (.t 43)] none, (some (40, false))⟩,
    ⟨(some 45), .un .not (.t 44), (some (40, false))⟩,
    ⟨(some 46), .pick (.t 40) (.k (.c (.d (.bool true)))) (.t 45), none⟩,
    ⟨(some 47), .mv (.t 46), none⟩,
    ⟨(some 48), .mv (.t 6), (some (47, false))⟩,
    ⟨(some 49), .len (.t 48), (some (47, false))⟩,
    ⟨(some 50), .bin .rem (.t 49) (.k (.c (.d (.int .i64 4)))), (some (47, false))⟩,
    ⟨(some 51), .bin .neq (.t 50) (.k (.c (.d (.int .i64 0)))), (some (47, false))⟩,
    ⟨(some 52), .pick (.t 47) (.k (.c (.d (.bool true)))) (.t 51), none⟩])
  (.cond (.t 52) (.seq (.reg [⟨(some 4), .mv (.k (.c (.d (.bool false)))), none⟩])
   (.ret))
   (.skip)))
  (.seq (.reg [⟨(some 10), .mv (.k (.c (.d (.int .i64 0)))), none⟩])
  (.seq (.seq (.reg [⟨(some 11), .mv (.k (.c (.d (.int .i64 0)))), none⟩])
  (.block 0 (.loop lp_xrbk17_0)))
  (.seq (.seq (.reg [⟨(some 72), .mv (.t 10), none⟩,
    ⟨(some 73), .mv (.t 6), none⟩,
    ⟨(some 74), .len (.t 73), none⟩,
    ⟨(some 75), .bin .neq (.t 72) (.t 74), none⟩])
  (.cond (.t 75) (.seq (.reg [⟨(some 4), .mv (.k (.c (.d (.bool false)))), none⟩])
   (.ret))
   (.skip)))
  (.seq (.reg [⟨(some 77), .mv (.t 1), none⟩,
    ⟨(some 78), .call 13 [(.t 77)] none, none⟩,
    ⟨(some 76), .mv (.t 78), none⟩,
    ⟨(some 79), .extract (.t 76) 0, none⟩,
    ⟨(some 80), .extract (.t 76) 1, none⟩,
    ⟨(some 14), .mv (.t 79), none⟩,
    ⟨(some 15), .mv (.t 80), none⟩])
  (.seq (.seq (.reg [⟨(some 81), .mv (.t 15), none⟩,
    ⟨(some 82), .bin .neq (.t 81) (.k (.c (.d (.int .i64 0)))), none⟩])
  (.cond (.t 82) (.seq (.reg [⟨(some 83), .call 8 [] none, none⟩,
     ⟨(some 4), .mv (.t 83), none⟩])
   (.ret))
   (.skip)))
  (.seq (.reg [⟨(some 85), .mv (.t 14), none⟩,
    ⟨(some 86), .call 11 [(.t 85)] none, none⟩,
    ⟨(some 84), .mv (.t 86), none⟩,
    ⟨(some 87), .extract (.t 84) 0, none⟩,
    ⟨(some 88), .extract (.t 84) 1, none⟩,
    ⟨(some 16), .mv (.t 87), none⟩,
    ⟨(some 17), .mv (.t 88), none⟩])
  (.seq (.reg [⟨(some 89), .call 8 [] none, none⟩,
    ⟨(some 90), .mv (.t 89), none⟩,
    ⟨(some 91), .mv (.t 17), (some (90, true))⟩,
    ⟨(some 92), .bin .eql (.t 91) (.k (.c (.d (.int .i64 0)))), (some (90, true))⟩,
    ⟨(some 93), .pick (.t 90) (.t 92) (.k (.c (.d (.bool false)))), none⟩,
    ⟨(some 94), .mv (.t 93), none⟩,
    ⟨(some 95), .mv (.t 16), (some (94, true))⟩,
    ⟨(some 96), .mv (.t 1), (some (94, true))⟩,
    ⟨(some 97), .call 17 [(.t 95), (.t 96)] none, (some (94, true))⟩,
    ⟨(some 98), .pick (.t 94) (.t 97) (.k (.c (.d (.bool false)))), none⟩,
    ⟨(some 4), .mv (.t 98), none⟩])
  (.ret))))))))))))),
  [(4, none)]⟩
theorem cf_xrbk17 : compFn Try.prog { own := [], comp := [], frz := [], nils := [] } Try.f4 = some sf_xrbk17 := by kernel_rfl
set_option maxHeartbeats 1600000 in
theorem xrbk17_c (G : Glob) (l : List Fd) (hl1 : l.length ≤ maxLen) (hl2 : ∀ f ∈ l, fdF f) (b : List UInt8) (hb : b.length ≤ maxLen)  : Den Try.prog G 4 [.sl (l.map fdD), .sl (b.map bD)] (.w (.c (.d (.bool true)))) := by
  refine den_walk Try.func4 cf_xrbk17 rfl rfl ?_
  have hmx : maxLen = 9223372036854775807 := rfl
  have ck := known17_c G
  by_cases h7 : 700 < b.length
  · have g1 : ((b.length : Int) > 700) = True := eq_true (by omega)
    simp only [sf_xrbk17, putAll, wx, wy, wz, stV, seval, IntWalk.iteOmega, IntWalk.toNatUp, reduceCtorEq, g1]
    refine st_call (ck) rfl (.inl rfl) ?_
    simp only [wx, wy, wz, stV, seval, IntWalk.iteOmega, IntWalk.toNatUp, reduceCtorEq]
    exact ret_d1 (by simp only [wx, wy, wz, stV, seval, IntWalk.iteOmega, IntWalk.toNatUp, reduceCtorEq])
  · have g1 : ((b.length : Int) > 700) = False := eq_false (by omega)
    have c0 := wfds_c G l hl1 (fun f hf => (hl2 f hf).2)
    have hle := wfL_le l
    have hmem := fun f (hf : f ∈ wfL l) => wfL_mem hf
    clear hl1 hl2 hb
    generalize wfL l = F at *
    obtain ⟨e1, e2, e3⟩ := xe_short (l := F) (fun f hf => ⟨(hmem f hf).1, (hmem f hf).2.2.1⟩) (by omega)
    obtain ⟨d1, d2, _⟩ := dec_enc e1
    have hx := xall_len F
    have hm := tot_mod F
    have hT := tot_76 (l := F) fun f hf => (hmem f hf).2.2.1
    have c1 := xenc_c G F (by omega) (fun f hf => by have := (hmem f hf).2.1; omega)
    rw [e1, e2] at c1
    have c2 := xdec_c G (xall F) (by omega)
    rw [d1, d2] at c2
    have c3 := wpds_c G F (by omega) (fun f hf => by have := (hmem f hf).2.1; omega)
    have c4 := rsmf_c G (F.map padF) (F.map padF) (by simp; omega)
    rw [decide_eq_true rfl] at c4
    have c5 := xdec_c G b (by omega)
    have hl5 := rfs_len b (eaN b)
    have tm := tmod4 (xall F).length
    rw [hx, hm] at tm
    have hF : ∀ i, i < F.length → xsE (F.getD i default) = 0 ∧ (F.getD i default).da.length ≤ 60 := fun i hi => ⟨(hmem _ (getF_mem hi)).1, (hmem _ (getF_mem hi)).2.1⟩
    clear hmem
    have ea : ∀ e, eaE b = e → e = 0 → xeE (xdL b) = 0 ∧ xeB (xdL b) = b := fun e h h0 => by
      subst h
      obtain ⟨p, q⟩ := enc_dec h0
      exact ⟨p, by unfold xeB; rw [if_pos p, q]⟩
    have c6 : eaE b = 0 → Den Try.prog G _ [.sl ((xdL b).map fdD)] (.tup [.c (.d (.sl (b.map bD))), .c (.d (.int .i64 0))]) := fun h => by
      obtain ⟨p, q⟩ := ea _ rfl h
      have c := xenc_c G (xdL b) (by unfold xdL; rw [if_pos h, hl5]; have := (eaN_le b).1; omega) (fun f hf => by
        unfold xdL at hf
        rw [if_pos h] at hf
        obtain ⟨i, _, rfl⟩ := List.mem_map.1 hf
        have : (rfd b i).da.length ≤ b.length := by unfold rfd cutN; simp; omega
        omega)
      rw [p, q] at c
      exact c
    have c7 := rsame_c G b b
    rw [beq_self_eq_true] at c7
    clear ea hl5
    have hX : ((xall F).length : Int) = (xtot F : Int) := by omega
    have hX4 : ((xall F).length : Int) ≤ 1000 := by omega
    have hst : ∀ i, xrbSt b F (xall F) i = ⟨ofL [(1, .w (.c (.d (.sl (b.map bD))))), (5, .w (.c (.d (.sl (F.map fdD))))), (6, .w (.c (.d (.sl ((xall F).map bD))))), (10, .w (.c (.d (.int .i64 (xtot (F.take i) : Int))))), (11, .w (.c (.d (.int .i64 (i : Int)))))], hL [], uL []⟩ := fun _ => rfl
    simp only [sf_xrbk17, putAll, wx, wy, wz, stV, seval, IntWalk.iteOmega, IntWalk.toNatUp, reduceCtorEq, g1]
    refine st_call (c0) rfl (.inl rfl) ?_
    simp only [wx, wy, wz, stV, seval, IntWalk.iteOmega, IntWalk.toNatUp, reduceCtorEq]
    refine st_call (c1) rfl (.inl rfl) ?_
    simp only [wx, wy, wz, stV, seval, IntWalk.iteOmega, IntWalk.toNatUp, reduceCtorEq]
    refine st_call (c2) rfl (.inl rfl) ?_
    simp only [wx, wy, wz, stV, seval, IntWalk.iteOmega, IntWalk.toNatUp, reduceCtorEq]
    refine st_call (c3) rfl (.inl rfl) ?_
    simp only [wx, wy, wz, stV, seval, IntWalk.iteOmega, IntWalk.toNatUp, reduceCtorEq]
    refine st_call (c4) rfl (.inl rfl) ?_
    simp only [hx, tm, wx, wy, wz, stV, seval, IntWalk.iteOmega, IntWalk.toNatUp, reduceCtorEq]
    refine loop_st (xrbSt b F (xall F)) (fun i => F.length - i) (fun i => i ≤ F.length) 0 (Nat.zero_le _) ?_ ?_
    · refine ent_l (fun i => 0) ?_ ?_ rfl rfl <;> simp only [wx, wex, wez, stV, seval, IntWalk.iteOmega, IntWalk.toNatUp, reduceCtorEq, xtot_nil]
    · intro i hi
      have hti := xtot_le F i
      by_cases hlt : i < F.length
      · have g := getF hlt
        obtain ⟨he, hd⟩ := hF i hlt
        have cs := xsiz_c G (F.getD i default) (by omega)
        obtain ⟨q1, q2, q3⟩ := xsE_0 he
        have eN : xsN (F.getD i default) = xsT (F.getD i default) := (xs_fit q1 q2 q3).2
        rw [he, eN] at cs
        have ht := xtot_take hlt
        rw [hst]
        clear hst c6 hF
        generalize F.getD i default = x at *
        generalize xsT x = T at *
        unfold fdD at cs
        simp only [lp_xrbk17_0, wx, wy, wz, stV, seval, IntWalk.iteOmega, IntWalk.toNatUp, reduceCtorEq, get_map, g, fdD]
        refine st_call (cs) rfl (.inl rfl) ?_
        simp only [wx, wy, wz, stV, seval, IntWalk.iteOmega, IntWalk.toNatUp, reduceCtorEq]
        refine lop_next (i + 1) (by omega) (by omega) (ent_l (fun _ => 0) ?_ ?_ rfl rfl) <;> simp only [wx, wex, wez, stV, seval, IntWalk.iteOmega, IntWalk.toNatUp, reduceCtorEq, ht]
      · have hil : F.take i = F := List.take_of_length_le (by omega)
        rw [hst, hil]
        clear hst hF
        by_cases hb0 : eaE b = 0
        · have c6 := c6 hb0
          rw [hb0] at c5
          generalize xall F = X at *
          generalize xtot F = T at *
          generalize xdL b = DB at *
          clear hx hm
          simp only [lp_xrbk17_0, wx, wy, wz, stV, seval, IntWalk.iteOmega, IntWalk.toNatUp, reduceCtorEq, hX]
          refine st_call (c5) rfl (.inl rfl) ?_
          simp only [wx, wy, wz, stV, seval, IntWalk.iteOmega, IntWalk.toNatUp, reduceCtorEq]
          refine st_call (c6) rfl (.inl rfl) ?_
          simp only [wx, wy, wz, stV, seval, IntWalk.iteOmega, IntWalk.toNatUp, reduceCtorEq]
          refine st_call (ck) rfl (.inl rfl) ?_
          simp only [wx, wy, wz, stV, seval, IntWalk.iteOmega, IntWalk.toNatUp, reduceCtorEq]
          refine st_call (c7) rfl (.inl rfl) ?_
          simp only [wx, wy, wz, stV, seval, IntWalk.iteOmega, IntWalk.toNatUp, reduceCtorEq]
          exact ret_d1 (by simp only [wx, wy, wz, stV, seval, IntWalk.iteOmega, IntWalk.toNatUp, reduceCtorEq])
        · have hb' : (eaE b = 0) = False := eq_false hb0
          clear c6
          generalize eaE b = EB at *
          generalize xall F = X at *
          generalize xtot F = T at *
          generalize xdL b = DB at *
          clear hx hm
          simp only [lp_xrbk17_0, wx, wy, wz, stV, seval, IntWalk.iteOmega, IntWalk.toNatUp, reduceCtorEq, hX]
          refine st_call (c5) rfl (.inl rfl) ?_
          simp only [hb', wx, wy, wz, stV, seval, IntWalk.iteOmega, IntWalk.toNatUp, reduceCtorEq]
          refine st_call (ck) rfl (.inl rfl) ?_
          simp only [wx, wy, wz, stV, seval, IntWalk.iteOmega, IntWalk.toNatUp, reduceCtorEq]
          exact ret_d1 (by simp only [wx, wy, wz, stV, seval, IntWalk.iteOmega, IntWalk.toNatUp, reduceCtorEq])
end Go.Proofs.Ytldcgjhfaledfaa
