/- Layer 17 on data: the program: Find, Same. Own work. -/
import Derived.Test.YtldcgjhfaledfaaPf1
set_option linter.unusedVariables false
set_option linter.unusedSimpArgs false
namespace Go.Proofs.Ytldcgjhfaledfaa
open Go.RowKit

/-! ### The fields of a type -/
def fnN (l : List Fd) (k : Int) : Nat → List Int
  | 0 => []
  | n + 1 => fnN l k n ++ (if (l.getD n default).ty = k then [(n : Int)] else [])
def fnL (l : List Fd) (k : Int) : List Int := fnN l k l.length
theorem fnN_len (l : List Fd) (k : Int) : ∀ n, (fnN l k n).length ≤ n
  | 0 => Nat.le_refl _
  | n + 1 => by
    have := fnN_len l k n
    rw [fnN, List.length_append]
    split <;> simp <;> omega
theorem fnN_t {l : List Fd} {k : Int} {n : Nat} (h : (l.getD n default).ty = k) : fnN l k (n + 1) = fnN l k n ++ [(n : Int)] := by rw [fnN, if_pos h]
theorem fnN_f {l : List Fd} {k : Int} {n : Nat} (h : (l.getD n default).ty ≠ k) : fnN l k (n + 1) = fnN l k n := by rw [fnN, if_neg h, List.append_nil]
def xfnSt (l : List Fd) (k : Int) (i : Nat) : St := ⟨ofL [(1, .w (.c (.d (.int .i64 k)))), (5, .w (.c (.own 1 1 0 (fnN l k i).length))), (8, .w (.c (.d (.sl (l.map fdD))))), (9, .w (.c (.d (.int .i64 (l.length : Int))))), (10, .w (.c (.d (.int .i64 (i : Int)))))], hL [(1, .row 1 ((fnN l k i).map zD))], uL [1]⟩
def lp_xfnd_0 : SCode :=
  .seq (.reg [⟨(some 11), .bin .lss (.t 10) (.t 9), none⟩])
  (.seq (.cond (.t 11) (.skip)
   (.exit 0))
  (.seq (.block 1 (.seq (.reg [⟨(some 12), .mv (.t 10), none⟩,
     ⟨(some 13), .idxSl 2 (.t 8) (.t 10), none⟩,
     ⟨(some 14), .load (.ag 2) (.t 13), none⟩,
     ⟨(some 7), .alloc [(.d (.int .i64 0)), .nil], none⟩,
     ⟨(some 6), .mv (.t 12), none⟩,
     ⟨none, .store (.ag 2) (.t 7) (.t 14), none⟩])
   (.seq (.reg [⟨(some 15), .fieldAddr 0 (.t 7), none⟩,
     ⟨(some 16), .load .sc (.t 15), none⟩,
     ⟨(some 17), .mv (.t 1), none⟩,
     ⟨(some 18), .bin .eql (.t 16) (.t 17), none⟩])
   (.cond (.t 18) (.reg [⟨(some 19), .mv (.t 5), none⟩,
      ⟨(some 20), .mv (.t 6), none⟩,
      ⟨(some 21), .bldSl false 1 1 (.int .i64 0) [(0, (.t 20))], none⟩,
      ⟨(some 22), .app false 1 8 (.t 19) (.t 21), none⟩,
      ⟨(some 5), .mv (.t 22), none⟩])
    (.skip)))))
  (.reg [⟨(some 23), .bin .add (.t 10) (.k (.c (.d (.int .i64 1)))), none⟩,
    ⟨(some 10), .mv (.t 23), none⟩])))
def sf_xfnd : SFn := ⟨2, 25,
  .seq (.reg [⟨(some 4), .mv (.k (.c .nil)), none⟩])
  (.seq (.reg [⟨(some 5), .nilOwn 1, none⟩])
  (.seq (.seq (.reg [⟨(some 8), .mv (.t 0), none⟩,
    ⟨(some 9), .len (.t 8), none⟩,
    ⟨(some 10), .mv (.k (.c (.d (.int .i64 0)))), none⟩])
  (.block 0 (.loop lp_xfnd_0)))
  (.seq (.reg [⟨(some 24), .mv (.t 5), none⟩,
    ⟨(some 4), .mv (.t 24), none⟩])
  (.ret)))),
  [(4, none)]⟩
theorem cf_xfnd : compFn Try.prog { own := [5], comp := [], frz := [], nils := [] } Try.f20 = some sf_xfnd := by kernel_rfl
set_option maxHeartbeats 1600000 in
theorem xfnd_c (G : Glob) (l : List Fd) (k : Int) (hl : l.length ≤ 1000000) : Den Try.prog G 20 [.sl (l.map fdD), .int .i64 k] (.w (.c (.d (.sl ((fnL l k).map zD))))) := by
  refine den_walk Try.func20 cf_xfnd rfl rfl ?_
  have e0 : fnN l k 0 = [] := rfl
  simp only [sf_xfnd, putAll, wx, wy, wz, stV, seval, IntWalk.iteOmega, IntWalk.toNatUp, reduceCtorEq]
  refine loop_st (xfnSt l k) (fun i => l.length - i) (fun i => i ≤ l.length) 0 (Nat.zero_le _) ?_ ?_
  · refine ent_l (fun i => 40) ?_ ?_ rfl rfl <;> simp only [wx, wex, wez, stV, seval, IntWalk.iteOmega, IntWalk.toNatUp, reduceCtorEq, e0]
  · intro i hi
    have hb := fnN_len l k i
    have az := allSz_zs (fnN l k i)
    by_cases hlt : i < l.length
    · have g := getF hlt
      by_cases hk : (l.getD i default).ty = k
      · have hs := fnN_t hk
        have hk' : ((l.getD i default).ty = k) = True := eq_true hk
        generalize l.getD i default = x at *
        simp only [lp_xfnd_0, xfnSt, wx, wy, wz, stV, seval, IntWalk.iteOmega, IntWalk.toNatUp, reduceCtorEq, get_map, g, fdD, hk', srcV]
        refine lop_next (i + 1) (by omega) (by omega) (ent_l (fun _ => 176) ?_ ?_ rfl rfl) <;> simp only [hs, List.map_append, zD, wx, wex, wez, stV, seval, IntWalk.iteOmega, IntWalk.toNatUp, reduceCtorEq]
      · have hs := fnN_f hk
        have hk' : ((l.getD i default).ty = k) = False := eq_false hk
        generalize l.getD i default = x at *
        simp only [lp_xfnd_0, xfnSt, wx, wy, wz, stV, seval, IntWalk.iteOmega, IntWalk.toNatUp, reduceCtorEq, get_map, g, fdD, hk', srcV]
        refine lop_next (i + 1) (by omega) (by omega) (ent_l (fun i => i) ?_ ?_ rfl rfl) <;> simp only [hs, wx, wex, wez, stV, seval, IntWalk.iteOmega, IntWalk.toNatUp, reduceCtorEq]
    · have hil : i = l.length := by omega
      have e1 : fnN l k i = fnL l k := by rw [hil]; rfl
      simp only [lp_xfnd_0, xfnSt, wx, wy, wz, stV, seval, IntWalk.iteOmega, IntWalk.toNatUp, reduceCtorEq, e1]
      exact ret_d1 (by simp only [wx, wy, wz, stV, seval, IntWalk.iteOmega, IntWalk.toNatUp, reduceCtorEq])
/-! ### Lists of fields that are the same -/
def xsmSt (a b : List Fd) (i : Nat) : St := ⟨ofL [(1, .w (.c (.d (.sl (b.map fdD))))), (12, .w (.c (.d (.sl (a.map fdD))))), (13, .w (.c (.d (.int .i64 (a.length : Int))))), (14, .w (.c (.d (.int .i64 (i : Int)))))], hL [], uL []⟩
theorem same_step {a b : List Fd} {i : Nat} (h1 : i < a.length) (h2 : i < b.length) (h : a.take i = b.take i) (e1 : (a.getD i default).ty = (b.getD i default).ty) (e2 : (a.getD i default).da = (b.getD i default).da) : a.take (i + 1) = b.take (i + 1) := by
  rw [take_snoc h1, take_snoc h2, h]
  congr 2
  cases ha : a.getD i default
  cases hb : b.getD i default
  rw [ha, hb] at e1 e2
  simp at e1 e2
  rw [e1, e2]
theorem same_ne {a b : List Fd} {i : Nat} (h : (a.getD i default).ty ≠ (b.getD i default).ty ∨ (a.getD i default).da ≠ (b.getD i default).da) : decide (a = b) = false := by
  rw [decide_eq_false_iff_not]
  rintro rfl
  rcases h with h | h <;> exact h rfl
def lp_xsam_0 : SCode :=
  .seq (.reg [⟨(some 15), .bin .lss (.t 14) (.t 13), none⟩])
  (.seq (.cond (.t 15) (.skip)
   (.exit 0))
  (.seq (.block 1 (.seq (.reg [⟨(some 16), .mv (.t 14), none⟩,
     ⟨(some 17), .idxSl 2 (.t 12) (.t 14), none⟩,
     ⟨(some 18), .load (.ag 2) (.t 17), none⟩,
     ⟨(some 6), .alloc [(.d (.int .i64 0)), .nil], none⟩,
     ⟨(some 5), .mv (.t 16), none⟩,
     ⟨none, .store (.ag 2) (.t 6) (.t 18), none⟩])
   (.seq (.reg [⟨(some 19), .fieldAddr 0 (.t 6), none⟩,
     ⟨(some 20), .load .sc (.t 19), none⟩,
     ⟨(some 21), .mv (.t 1), none⟩,
     ⟨(some 22), .mv (.t 5), none⟩,
     ⟨(some 23), .idxSl 2 (.t 21) (.t 22), none⟩,
     ⟨(some 24), .fieldAddr 0 (.t 23), none⟩,
     ⟨(some 25), .load .sc (.t 24), none⟩,
     ⟨(some 26), .bin .neq (.t 20) (.t 25), none⟩,
     ⟨(some 27), .mv (.t 26), none⟩,
     ⟨(some 28), .fieldAddr 1 (.t 6), (some (27, false))⟩,
     ⟨(some 29), .load .sc (.t 28), (some (27, false))⟩,
     ⟨(some 30), .mv (.t 1), (some (27, false))⟩,
     ⟨(some 31), .mv (.t 5), (some (27, false))⟩,
     ⟨(some 32), .idxSl 2 (.t 30) (.t 31), (some (27, false))⟩,
     ⟨(some 33), .fieldAddr 1 (.t 32), (some (27, false))⟩,
     ⟨(some 34), .load .sc (.t 33), (some (27, false))⟩,
     ⟨(some 35), .call 37 [(.t 29), (.t 34)] none, (some (27, false))⟩,
     ⟨(some 36), .un .not (.t 35), (some (27, false))⟩,
     ⟨(some 37), .pick (.t 27) (.k (.c (.d (.bool true)))) (.t 36), none⟩])
   (.cond (.t 37) (.seq (.reg [⟨(some 4), .mv (.k (.c (.d (.bool false)))), none⟩])
    (.ret))
    (.skip)))))
  (.reg [⟨(some 38), .bin .add (.t 14) (.k (.c (.d (.int .i64 1)))), none⟩,
    ⟨(some 14), .mv (.t 38), none⟩])))
def sf_xsam : SFn := ⟨2, 39,
  .seq (.reg [⟨(some 4), .mv (.k (.c (.d (.bool false)))), none⟩])
  (.seq (.seq (.reg [⟨(some 7), .mv (.t 0), none⟩,
    ⟨(some 8), .len (.t 7), none⟩,
    ⟨(some 9), .mv (.t 1), none⟩,
    ⟨(some 10), .len (.t 9), none⟩,
    ⟨(some 11), .bin .neq (.t 8) (.t 10), none⟩])
  (.cond (.t 11) (.seq (.reg [⟨(some 4), .mv (.k (.c (.d (.bool false)))), none⟩])
   (.ret))
   (.skip)))
  (.seq (.seq (.reg [⟨(some 12), .mv (.t 0), none⟩,
    ⟨(some 13), .len (.t 12), none⟩,
    ⟨(some 14), .mv (.k (.c (.d (.int .i64 0)))), none⟩])
  (.block 0 (.loop lp_xsam_0)))
  (.seq (.reg [⟨(some 4), .mv (.k (.c (.d (.bool true)))), none⟩])
  (.ret)))),
  [(4, none)]⟩
theorem cf_xsam : compFn Try.prog { own := [], comp := [], frz := [], nils := [] } Try.f22 = some sf_xsam := by kernel_rfl
set_option maxHeartbeats 1600000 in
theorem xsam_c (G : Glob) (a b : List Fd) (ha : a.length ≤ 9000000000000000000) : Den Try.prog G 22 [.sl (a.map fdD), .sl (b.map fdD)] (.w (.c (.d (.bool (decide (a = b)))))) := by
  refine den_walk Try.func22 cf_xsam rfl rfl ?_
  by_cases hlen : a.length = b.length
  · have hl' : ((a.length : Int) = (b.length : Int)) = True := eq_true (by omega)
    simp only [sf_xsam, putAll, wx, wy, wz, stV, seval, IntWalk.iteOmega, IntWalk.toNatUp, reduceCtorEq, hl']
    refine loop_st (xsmSt a b) (fun i => a.length - i) (fun i => i ≤ a.length ∧ a.take i = b.take i) 0 ⟨Nat.zero_le _, rfl⟩ ?_ ?_
    · refine ent_l (fun i => 0) ?_ ?_ rfl rfl <;> simp only [wx, wex, wez, stV, seval, IntWalk.iteOmega, IntWalk.toNatUp, reduceCtorEq]
    · rintro i ⟨hi, hpre⟩
      by_cases hlt : i < a.length
      · have hlb : i < b.length := by omega
        have g1 := getF hlt
        have g2 := getF hlb
        have st := same_step hlt hlb hpre
        have sn := same_ne (a := a) (b := b) (i := i)
        have c := same_c G (a.getD i default).da (b.getD i default).da
        clear hpre
        generalize a.getD i default = x at *
        generalize b.getD i default = y at *
        by_cases ht : x.ty = y.ty
        · have ht' : (x.ty = y.ty) = True := eq_true ht
          cases hxy : x.da == y.da
          · have hne := sn (.inr (by simpa using hxy))
            rw [hne]
            rw [hxy] at c
            clear sn st
            simp only [lp_xsam_0, xsmSt, wx, wy, wz, stV, seval, IntWalk.iteOmega, IntWalk.toNatUp, reduceCtorEq, get_map, g1, g2, fdD, ht']
            refine st_call (c) rfl (.inl rfl) ?_
            simp only [wx, wy, wz, stV, seval, IntWalk.iteOmega, IntWalk.toNatUp, reduceCtorEq]
            exact ret_d1 (by simp only [wx, wy, wz, stV, seval, IntWalk.iteOmega, IntWalk.toNatUp, reduceCtorEq])
          · have hst := st ht (by simpa using hxy)
            rw [hxy] at c
            clear sn st
            simp only [lp_xsam_0, xsmSt, wx, wy, wz, stV, seval, IntWalk.iteOmega, IntWalk.toNatUp, reduceCtorEq, get_map, g1, g2, fdD, ht']
            refine st_call (c) rfl (.inl rfl) ?_
            simp only [wx, wy, wz, stV, seval, IntWalk.iteOmega, IntWalk.toNatUp, reduceCtorEq]
            refine lop_next (i + 1) (by omega) ⟨by omega, hst⟩ (ent_l (fun _ => 0) ?_ ?_ rfl rfl) <;> simp only [wx, wex, wez, stV, seval, IntWalk.iteOmega, IntWalk.toNatUp, reduceCtorEq]
        · have ht' : (x.ty = y.ty) = False := eq_false ht
          have hne := sn (.inl ht)
          rw [hne]
          clear sn st
          simp only [lp_xsam_0, xsmSt, wx, wy, wz, stV, seval, IntWalk.iteOmega, IntWalk.toNatUp, reduceCtorEq, get_map, g1, g2, fdD, ht']
          exact ret_d1 (by simp only [wx, wy, wz, stV, seval, IntWalk.iteOmega, IntWalk.toNatUp, reduceCtorEq])
      · have e : a = b := by
          rw [List.take_of_length_le (by omega), List.take_of_length_le (by omega)] at hpre
          exact hpre
        rw [decide_eq_true e]
        simp only [lp_xsam_0, xsmSt, wx, wy, wz, stV, seval, IntWalk.iteOmega, IntWalk.toNatUp, reduceCtorEq]
        exact ret_d1 (by simp only [wx, wy, wz, stV, seval, IntWalk.iteOmega, IntWalk.toNatUp, reduceCtorEq])
  · have hl' : ((a.length : Int) = (b.length : Int)) = False := eq_false (by omega)
    have hne : decide (a = b) = false := by
      rw [decide_eq_false_iff_not]; rintro rfl; exact hlen rfl
    rw [hne]
    simp only [sf_xsam, putAll, wx, wy, wz, stV, seval, IntWalk.iteOmega, IntWalk.toNatUp, reduceCtorEq, hl']
    exact ret_d1 (by simp only [wx, wy, wz, stV, seval, IntWalk.iteOmega, IntWalk.toNatUp, reduceCtorEq])
end Go.Proofs.Ytldcgjhfaledfaa
