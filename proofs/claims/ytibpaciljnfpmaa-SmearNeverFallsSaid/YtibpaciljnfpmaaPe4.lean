/- Layer 13 on data: the program: what the clock shows; when it does. Own work. -/
import Derived.Test.YtibpaciljnfpmaaPe3
set_option linter.unusedVariables false
set_option linter.unusedSimpArgs false
namespace Go.Proofs.Ytibpaciljnfpmaa
open Go.RowKit

theorem ofL_unE {l : List (Nat × V)} {ts : List Nat} (h : ts.all (fun t => !(l.map (·.1)).contains t) = true) : ∀ t ∈ ts, ofL l t = .undef := by
  intro t ht
  have h1 := List.all_eq_true.1 h t ht
  have h2 : t ∉ l.map (·.1) := by simpa using h1
  clear h h1 ht
  induction l with
  | nil => rfl
  | cons p l ih =>
    simp only [List.map_cons, List.mem_cons, not_or] at h2
    show upd (ofL l) p.1 p.2 t = _
    unfold upd
    rw [if_neg h2.1]
    exact ih h2.2
theorem round_false (a b : Int) : roundI a b false = a / b := by unfold roundI; rw [if_neg (by intro k; cases k.1)]
/-- A window's numbers. -/
theorem win_nums {f : Int} {l : List Lp} (h : okB f l = true) {i : Nat} (hi : i < l.length) :
    winA (lastO f l i) (lpG l i) = frA (lpG l i) + lastO f l i * 1048576 ∧ winB (lpG l i) = frB (lpG l i) + (lpG l i).2 * 1048576 ∧ frB (lpG l i) = frA (lpG l i) + 90596966400 ∧
    45298483200 ≤ frA (lpG l i) ∧ frA (lpG l i) ≤ 144115188075855872 ∧ -64 ≤ lastO f l i ∧ lastO f l i ≤ 164 ∧ ((lpG l i).2 = lastO f l i + 1 ∨ (lpG l i).2 = lastO f l i - 1) := by
  have b := ok_el h hi
  have c := (okE_e ((okB_iff.1 h).2 i hi)).2.2.2.2
  unfold winA winB frA frB
  omega
/-- Behind k elements from the last one on: the instant is ahead of the window of the last one of these. -/
def shJ (f : Int) (l : List Lp) (t : Int) (k : Nat) : Prop := ∀ j, j + k = l.length → 0 < k → t < winA (lastO f l j) (lpG l j)
def shL (f : Int) (l : List Lp) (t : Int) : List (Nat × V) := [(2, .w (.c (.rp [.int .i64 f, .sl (l.map spD)]))), (3, .w (.c (.rp [.int .i64 t]))), (4, .w (.c (.ptr 1 1 0 0)))]
def shF (f : Int) (l : List Lp) (t : Int) : Nat → V := ofL (shL f l t)
def shH (_ : Nat) : Heap × (Nat → Bool) := (hL [(1, .box [.d (.int .i64 0)])], uL [1])
theorem bkL_in {l : List Lp} {k : Nat} {r : List D} (h : (bkL l)[k]? = some r) : ∃ I, I + 1 + k = l.length ∧ r = [.int .i64 (I : Int), spD (lpG l I)] := by
  have hk : k < l.length := by
    rcases Nat.lt_or_ge k l.length with h' | h'
    · exact h'
    · rw [List.getElem?_eq_none (by rw [bkL_len]; exact h')] at h; cases h
  rw [bkL_get hk] at h
  refine ⟨l.length - 1 - k, by omega, (Option.some.inj h).symm⟩
theorem bkL_two {l : List Lp} {r : List D} (h : r ∈ bkL l) : r.length = 2 := by
  unfold bkL at h
  obtain ⟨k, _, rfl⟩ := List.mem_map.1 h
  rfl
def lp_eshw_0 : SCode :=
  .seq (.reg [⟨(some 5), .mv (.t 12), none⟩])
  (.reg [⟨(some 6), .alloc [(.d (.int .i64 0)), (.d (.int .i64 0))], none⟩,
    ⟨none, .store (.ag 2) (.t 6) (.t 13), none⟩])
def lp_eshw_1 : SCode :=
  .block 1 (.seq (.reg [⟨(some 15), .load (.ag 2) (.t 2), none⟩,
     ⟨(some 16), .mv (.t 5), none⟩,
     ⟨(some 17), .call 23 [(.t 15), (.t 16)] none, none⟩,
     ⟨(some 14), .mv (.t 17), none⟩,
     ⟨(some 18), .extract (.t 14) 0, none⟩,
     ⟨(some 19), .extract (.t 14) 1, none⟩,
     ⟨(some 7), .alloc [(.d (.int .i64 0)), (.d (.int .i64 0))], none⟩,
     ⟨(some 8), .alloc [(.d (.int .i64 0)), (.d (.int .i64 0))], none⟩,
     ⟨none, .store (.ag 2) (.t 7) (.t 18), none⟩,
     ⟨none, .store (.ag 2) (.t 8) (.t 19), none⟩])
   (.block 2 (.seq (.reg [⟨(some 21), .load .sc (.t 3), none⟩,
      ⟨(some 22), .fieldAddr 1 (.t 8), none⟩,
      ⟨(some 23), .load .sc (.t 22), none⟩,
      ⟨(some 24), .bin .geq (.t 21) (.t 23), none⟩,
      ⟨(some 20), .mv (.t 24), none⟩])
    (.cond (.t 20) (.seq (.reg [⟨(some 25), .load .sc (.t 3), none⟩,
       ⟨(some 26), .fieldAddr 1 (.t 6), none⟩,
       ⟨(some 27), .load .sc (.t 26), none⟩,
       ⟨(some 28), .bin .shl (.t 27) (.k (.c (.d (.int .u64 20)))), none⟩,
       ⟨(some 29), .bin .sub (.t 25) (.t 28), none⟩,
       ⟨none, .store .sc (.t 4) (.t 29), none⟩])
     (.ret))
     (.seq (.reg [⟨(some 31), .load .sc (.t 3), none⟩,
       ⟨(some 32), .fieldAddr 0 (.t 8), none⟩,
       ⟨(some 33), .load .sc (.t 32), none⟩,
       ⟨(some 34), .bin .geq (.t 31) (.t 33), none⟩,
       ⟨(some 30), .mv (.t 34), none⟩])
     (.cond (.t 30) (.seq (.reg [⟨(some 35), .fieldAddr 0 (.t 7), none⟩,
        ⟨(some 36), .load .sc (.t 35), none⟩,
        ⟨(some 37), .load .sc (.t 3), none⟩,
        ⟨(some 38), .fieldAddr 0 (.t 8), none⟩,
        ⟨(some 39), .load .sc (.t 38), none⟩,
        ⟨(some 40), .bin .sub (.t 37) (.t 39), none⟩,
        ⟨(some 41), .load (.ag 2) (.t 8), none⟩,
        ⟨(some 42), .call 38 [(.t 41)] none, none⟩,
        ⟨(some 43), .call 37 [(.t 40), (.k (.c (.d (.int .i64 86400)))), (.t 42), (.k (.c (.d (.bool false))))] none, none⟩,
        ⟨(some 44), .bin .add (.t 36) (.t 43), none⟩,
        ⟨none, .store .sc (.t 4) (.t 44), none⟩])
      (.ret))
      (.skip)))))))
def sf_eshw : SFn := ⟨2, 50,
  .seq (.reg [⟨(some 2), .box .roBox (.t 0), none⟩,
    ⟨(some 3), .box .roBox (.t 1), none⟩,
    ⟨(some 4), .alloc [(.d (.int .i64 0))], none⟩])
  (.seq (.seq (.reg [⟨(some 9), .fieldAddr 1 (.t 2), none⟩,
    ⟨(some 10), .load .sc (.t 9), none⟩,
    ⟨(some 11), .call 36 [(.t 10)] none, none⟩])
  (.block 0 (.rangeF (.t 11) [12, 13] lp_eshw_0 lp_eshw_1)))
  (.seq (.reg [⟨(some 45), .load .sc (.t 3), none⟩,
    ⟨(some 46), .fieldAddr 0 (.t 2), none⟩,
    ⟨(some 47), .load .sc (.t 46), none⟩,
    ⟨(some 48), .bin .shl (.t 47) (.k (.c (.d (.int .u64 20)))), none⟩,
    ⟨(some 49), .bin .sub (.t 45) (.t 48), none⟩,
    ⟨none, .store .sc (.t 4) (.t 49), none⟩])
  (.ret))),
  [(4, (some .sc))]⟩
theorem cf_eshw : compFn Try.prog { own := [], comp := [], frz := [], nils := [] } Try.f25 = some sf_eshw := by kernel_rfl
set_option maxHeartbeats 1600000 in
theorem eshw_c (G : Glob) (f : Int) (l : List Lp) (t : Int) (hl : l.length ≤ 9223372036854775807) (h : okB f l = true) (h1 : -1152921504606846976 ≤ t) (h2 : t ≤ 1152921504606846976) : Den Try.prog G 25 [lpD f l, .int .i64 t] (.w (.c (.d (.int .i64 (smN f l t))))) := by
  refine den_walk Try.func25 cf_eshw rfl rfl ?_
  have hlen := (okB_iff.1 h).1
  unfold lpD
  simp only [sf_eshw, putAll, wx, wy, wz, stV, seval, IntWalk.iteOmega, IntWalk.toNatUp, reduceCtorEq]
  refine st_call (bkw_c G l) rfl (.inl rfl) ?_
  simp only [wx, wy, wz, stV, seval, IntWalk.iteOmega, IntWalk.toNatUp, reduceCtorEq]
  refine range_sj (shF f l t) (f1 := ofL (shL f l t)) rfl shH (shJ f l t) rfl (bki_seq G l (by omega)) (fun r hr => bkL_two hr) ?_ ?_ ?_ ?_ ?_
  · refine ent_l (fun i => if i = 1 then 32 else i) ?_ ?_ rfl rfl <;> simp only [shL, wx, wex, wez, stV, seval, IntWalk.iteOmega, IntWalk.toNatUp, reduceCtorEq]
  · exact ofL_unE (by rfl)
  · intro j _ h0; omega
  · intro k r hr hJ
    obtain ⟨I, hI, rfl⟩ := bkL_in hr
    have hi : I < l.length := by omega
    obtain ⟨n1, n2, n3, n4, n5, n6, n7, n8⟩ := win_nums h hi
    have w1 := sm_at1 (okB_leap h) (t := t) hi
    have w2 := sm_at2 (okB_leap h) (t := t) hi
    have hn : I + 1 < l.length → t < winA (lpG l I).2 (lpG l (I + 1)) := fun hlt => hJ (I + 1) (by omega) (by omega)
    have cw := ewn_c G f l I hl hi h
    have nx : t < winA (lastO f l I) (lpG l I) → shJ f l t (k + 1) := fun hlt j hj _ => by
      obtain rfl : j = I := by omega
      exact hlt
    have ez : spD (lpG l I) = .agg [.int .i64 (lpG l I).1, .int .i64 (lpG l I).2] := rfl
    rw [ez]
    unfold lpD wnV spV at cw
    generalize smN f l t = R at *
    generalize frA (lpG l I) = a at *
    generalize frB (lpG l I) = b at *
    generalize winA (lastO f l I) (lpG l I) = A at *
    generalize winB (lpG l I) = B at *
    generalize lastO f l I = o at *
    generalize lpG l I = X at *
    obtain ⟨p, q⟩ := X
    simp only at n1 n2 n3 n4 n5 n6 n7 n8 w1 w2 hn
    by_cases c1 : t ≥ B
    · rw [w1 c1 hn]
      simp only [lp_eshw_0, lp_eshw_1, shH, shL, parsL, wx, wy, wz, stV, seval, IntWalk.iteOmega, IntWalk.toNatUp, reduceCtorEq]
      refine st_call (cw) rfl (.inl rfl) ?_
      simp only [eq_true c1, bI64, wx, wy, wz, stV, seval, IntWalk.iteOmega, IntWalk.toNatUp, reduceCtorEq]
      refine rng_ret (f1 := ofL (shL f l t)) rfl (hL [(1, .box [.d (.int .i64 (t - q * 1048576))])]) (uL [1]) ?_ ?_
      · refine ent_l (fun i => i) ?_ ?_ rfl rfl <;> simp only [shL, wx, wex, wez, stV, seval, IntWalk.iteOmega, IntWalk.toNatUp, reduceCtorEq]
      · simp only [shL, wx, wy, wz, stV, seval, IntWalk.iteOmega, IntWalk.toNatUp, reduceCtorEq]
        exact ret_d1 (by simp only [wx, wy, wz, stV, seval, IntWalk.iteOmega, IntWalk.toNatUp, reduceCtorEq])
    · by_cases c2 : t ≥ A
      · have cs := esec_c G A B (by omega) (by omega) (by omega) (by omega)
        have es : (B - A) / 1048576 = 86400 + q - o := by omega
        have cc := esca_c G (t - A) 86400 (86400 + q - o) false (by omega) (by omega) (by omega)
        rw [round_false] at cc
        unfold spV at cs
        rw [es] at cs
        have wr := w2 c2 (by omega)
        have wb : 0 ≤ (t - A) * 86400 / (86400 + q - o) ∧ (t - A) * 86400 / (86400 + q - o) ≤ 90596966400 := by
          rcases n8 with e | e <;> subst e
          · rw [show 86400 + (o + 1) - o = 86401 by omega]; omega
          · rw [show 86400 + (o - 1) - o = 86399 by omega]; omega
        rw [wr]
        generalize (t - A) * 86400 / (86400 + q - o) = Z at *
        simp only [lp_eshw_0, lp_eshw_1, shH, shL, parsL, wx, wy, wz, stV, seval, IntWalk.iteOmega, IntWalk.toNatUp, reduceCtorEq]
        refine st_call (cw) rfl (.inl rfl) ?_
        simp only [eq_false c1, eq_true c2, bI64, wx, wy, wz, stV, seval, IntWalk.iteOmega, IntWalk.toNatUp, reduceCtorEq]
        refine st_call (cs) rfl (.inl rfl) ?_
        simp only [wx, wy, wz, stV, seval, IntWalk.iteOmega, IntWalk.toNatUp, reduceCtorEq]
        refine st_call (cc) rfl (.inl rfl) ?_
        simp only [wx, wy, wz, stV, seval, IntWalk.iteOmega, IntWalk.toNatUp, reduceCtorEq]
        refine rng_ret (f1 := ofL (shL f l t)) rfl (hL [(1, .box [.d (.int .i64 (a + Z))])]) (uL [1]) ?_ ?_
        · refine ent_l (fun i => i) ?_ ?_ rfl rfl <;> simp only [shL, wx, wex, wez, stV, seval, IntWalk.iteOmega, IntWalk.toNatUp, reduceCtorEq]
        · simp only [shL, wx, wy, wz, stV, seval, IntWalk.iteOmega, IntWalk.toNatUp, reduceCtorEq]
          exact ret_d1 (by simp only [wx, wy, wz, stV, seval, IntWalk.iteOmega, IntWalk.toNatUp, reduceCtorEq])
      · simp only [lp_eshw_0, lp_eshw_1, shH, shL, parsL, wx, wy, wz, stV, seval, IntWalk.iteOmega, IntWalk.toNatUp, reduceCtorEq]
        refine st_call (cw) rfl (.inl rfl) ?_
        simp only [eq_false c1, eq_false c2, bI64, wx, wy, wz, stV, seval, IntWalk.iteOmega, IntWalk.toNatUp, reduceCtorEq]
        refine rng_nextJ (f1 := ofL (shL f l t)) rfl (nx (by omega)) ?_
        refine ent_l (fun i => i) ?_ ?_ rfl rfl <;> simp only [shL, wx, wex, wez, stV, seval, IntWalk.iteOmega, IntWalk.toNatUp, reduceCtorEq]
  · intro hJ
    have e := sm_at3 (l := l) (f := f) (t := t) fun h0 => hJ 0 (by rw [bkL_len]; omega) (by rw [bkL_len]; omega)
    rw [e]
    simp only [shH, shL, wx, wy, wz, stV, seval, IntWalk.iteOmega, IntWalk.toNatUp, reduceCtorEq, bI64]
    exact ret_d1 (by simp only [wx, wy, wz, stV, seval, IntWalk.iteOmega, IntWalk.toNatUp, reduceCtorEq])
/-! ### When the clock shows so much -/
def isJ (l : List Lp) (s : Int) (k : Nat) : Prop := ∀ j, j + k = l.length → 0 < k → s < frA (lpG l j)
def isH (_ : Nat) : Heap × (Nat → Bool) := (hL [(1, .box [.d (.int .i64 0), .d (.int .i64 0)])], uL [1])
theorem up_in {a : Int} (h : 0 ≤ a) : 0 ≤ roundI a 86400 true ∧ roundI a 86400 true ≤ a + 1 := by
  have k := round_enclose a (b := 86400) (by decide)
  rw [round_false] at k
  omega
def lp_eist_0 : SCode :=
  .seq (.reg [⟨(some 5), .mv (.t 14), none⟩])
  (.reg [⟨(some 6), .alloc [(.d (.int .i64 0)), (.d (.int .i64 0))], none⟩,
    ⟨none, .store (.ag 2) (.t 6) (.t 15), none⟩])
def lp_eist_1 : SCode :=
  .block 1 (.seq (.reg [⟨(some 17), .load (.ag 2) (.t 2), none⟩,
     ⟨(some 18), .mv (.t 5), none⟩,
     ⟨(some 19), .call 23 [(.t 17), (.t 18)] none, none⟩,
     ⟨(some 16), .mv (.t 19), none⟩,
     ⟨(some 20), .extract (.t 16) 0, none⟩,
     ⟨(some 21), .extract (.t 16) 1, none⟩,
     ⟨(some 7), .alloc [(.d (.int .i64 0)), (.d (.int .i64 0))], none⟩,
     ⟨(some 8), .alloc [(.d (.int .i64 0)), (.d (.int .i64 0))], none⟩,
     ⟨none, .store (.ag 2) (.t 7) (.t 20), none⟩,
     ⟨none, .store (.ag 2) (.t 8) (.t 21), none⟩])
   (.block 2 (.seq (.reg [⟨(some 23), .load .sc (.t 3), none⟩,
      ⟨(some 24), .fieldAddr 1 (.t 7), none⟩,
      ⟨(some 25), .load .sc (.t 24), none⟩,
      ⟨(some 26), .bin .geq (.t 23) (.t 25), none⟩,
      ⟨(some 22), .mv (.t 26), none⟩])
    (.cond (.t 22) (.seq (.reg [⟨(some 27), .load .sc (.t 3), none⟩,
       ⟨(some 28), .fieldAddr 1 (.t 6), none⟩,
       ⟨(some 29), .load .sc (.t 28), none⟩,
       ⟨(some 30), .bin .shl (.t 29) (.k (.c (.d (.int .u64 20)))), none⟩,
       ⟨(some 31), .bin .add (.t 27) (.t 30), none⟩,
       ⟨(some 32), .call 40 [(.t 31)] none, none⟩,
       ⟨none, .store (.ag 2) (.t 4) (.t 32), none⟩])
     (.ret))
     (.seq (.reg [⟨(some 34), .load .sc (.t 3), none⟩,
       ⟨(some 35), .fieldAddr 0 (.t 7), none⟩,
       ⟨(some 36), .load .sc (.t 35), none⟩,
       ⟨(some 37), .bin .geq (.t 34) (.t 36), none⟩,
       ⟨(some 33), .mv (.t 37), none⟩])
     (.cond (.t 33) (.seq (.reg [⟨(some 38), .load .sc (.t 3), none⟩,
        ⟨(some 39), .fieldAddr 0 (.t 7), none⟩,
        ⟨(some 40), .load .sc (.t 39), none⟩,
        ⟨(some 41), .bin .sub (.t 38) (.t 40), none⟩,
        ⟨(some 42), .load (.ag 2) (.t 8), none⟩,
        ⟨(some 43), .call 38 [(.t 42)] none, none⟩,
        ⟨(some 9), .mv (.t 41), none⟩,
        ⟨(some 10), .mv (.t 43), none⟩])
      (.seq (.reg [⟨(some 44), .fieldAddr 0 (.t 8), none⟩,
        ⟨(some 45), .load .sc (.t 44), none⟩,
        ⟨(some 46), .mv (.t 9), none⟩,
        ⟨(some 47), .mv (.t 10), none⟩,
        ⟨(some 48), .call 37 [(.t 46), (.t 47), (.k (.c (.d (.int .i64 86400)))), (.k (.c (.d (.bool true))))] none, none⟩,
        ⟨(some 49), .bin .add (.t 45) (.t 48), none⟩,
        ⟨(some 50), .fieldAddr 0 (.t 8), none⟩,
        ⟨(some 51), .load .sc (.t 50), none⟩,
        ⟨(some 52), .mv (.t 9), none⟩,
        ⟨(some 53), .bin .add (.t 52) (.k (.c (.d (.int .i64 1)))), none⟩,
        ⟨(some 54), .mv (.t 10), none⟩,
        ⟨(some 55), .call 37 [(.t 53), (.t 54), (.k (.c (.d (.int .i64 86400)))), (.k (.c (.d (.bool true))))] none, none⟩,
        ⟨(some 56), .bin .add (.t 51) (.t 55), none⟩,
        ⟨(some 57), .bin .sub (.t 56) (.k (.c (.d (.int .i64 1)))), none⟩,
        ⟨(some 58), .build [(.d (.int .i64 0)), (.d (.int .i64 0))] [(0, 1, (.t 49)), (1, 1, (.t 57))], none⟩,
        ⟨none, .store (.ag 2) (.t 4) (.t 58), none⟩])
      (.ret)))
      (.skip)))))))
def sf_eist : SFn := ⟨2, 65,
  .seq (.reg [⟨(some 2), .box .roBox (.t 0), none⟩,
    ⟨(some 3), .box .roBox (.t 1), none⟩,
    ⟨(some 4), .alloc [(.d (.int .i64 0)), (.d (.int .i64 0))], none⟩])
  (.seq (.seq (.reg [⟨(some 11), .fieldAddr 1 (.t 2), none⟩,
    ⟨(some 12), .load .sc (.t 11), none⟩,
    ⟨(some 13), .call 36 [(.t 12)] none, none⟩])
  (.block 0 (.rangeF (.t 13) [14, 15] lp_eist_0 lp_eist_1)))
  (.seq (.reg [⟨(some 59), .load .sc (.t 3), none⟩,
    ⟨(some 60), .fieldAddr 0 (.t 2), none⟩,
    ⟨(some 61), .load .sc (.t 60), none⟩,
    ⟨(some 62), .bin .shl (.t 61) (.k (.c (.d (.int .u64 20)))), none⟩,
    ⟨(some 63), .bin .add (.t 59) (.t 62), none⟩,
    ⟨(some 64), .call 40 [(.t 63)] none, none⟩,
    ⟨none, .store (.ag 2) (.t 4) (.t 64), none⟩])
  (.ret))),
  [(4, (some (.ag 2)))]⟩
theorem cf_eist : compFn Try.prog { own := [], comp := [], frz := [], nils := [] } Try.f27 = some sf_eist := by kernel_rfl
set_option maxHeartbeats 1600000 in
theorem eist_c (G : Glob) (f : Int) (l : List Lp) (s : Int) (hl : l.length ≤ 9223372036854775807) (h : okB f l = true) (h1 : -576460752303423488 ≤ s) (h2 : s ≤ 576460752303423488) : Den Try.prog G 27 [lpD f l, .int .i64 s] (.w (.c (.d (spV (lsN f l s) (lsN f l (s + 1) - 1))))) := by
  refine den_walk Try.func27 cf_eist rfl rfl ?_
  have hlen := (okB_iff.1 h).1
  unfold lpD
  simp only [sf_eist, putAll, wx, wy, wz, stV, seval, IntWalk.iteOmega, IntWalk.toNatUp, reduceCtorEq]
  refine st_call (bkw_c G l) rfl (.inl rfl) ?_
  simp only [wx, wy, wz, stV, seval, IntWalk.iteOmega, IntWalk.toNatUp, reduceCtorEq]
  refine range_sj (shF f l s) (f1 := ofL (shL f l s)) rfl isH (isJ l s) rfl (bki_seq G l (by omega)) (fun r hr => bkL_two hr) ?_ ?_ ?_ ?_ ?_
  · refine ent_l (fun i => if i = 1 then 32 else i) ?_ ?_ rfl rfl <;> simp only [shL, wx, wex, wez, stV, seval, IntWalk.iteOmega, IntWalk.toNatUp, reduceCtorEq]
  · exact ofL_unE (by rfl)
  · intro j _ h0; omega
  · intro k r hr hJ
    obtain ⟨I, hI, rfl⟩ := bkL_in hr
    have hi : I < l.length := by omega
    obtain ⟨n1, n2, n3, n4, n5, n6, n7, n8⟩ := win_nums h hi
    have w1 := fun s' => ls_at1 (okB_leap h) (s := s') hi
    have w2 := fun s' => ls_at2 (okB_leap h) (s := s') hi
    have hn : I + 1 < l.length → s < frA (lpG l (I + 1)) := fun hlt => hJ (I + 1) (by omega) (by omega)
    have cw := ewn_c G f l I hl hi h
    have nx : s < frA (lpG l I) → isJ l s (k + 1) := fun hlt j hj _ => by
      obtain rfl : j = I := by omega
      exact hlt
    have ez : spD (lpG l I) = .agg [.int .i64 (lpG l I).1, .int .i64 (lpG l I).2] := rfl
    rw [ez]
    unfold lpD wnV spV at cw
    have w1' := w1 s
    have w1'' := w1 (s + 1)
    have w2' := w2 s
    have w2'' := w2 (s + 1)
    clear w1 w2
    unfold spV
    generalize lsN f l s = R at *
    generalize lsN f l (s + 1) = R' at *
    generalize frA (lpG l I) = a at *
    generalize frB (lpG l I) = b at *
    generalize winA (lastO f l I) (lpG l I) = A at *
    generalize winB (lpG l I) = B at *
    generalize lastO f l I = o at *
    generalize lpG l I = X at *
    obtain ⟨p, q⟩ := X
    simp only at n1 n2 n3 n4 n5 n6 n7 n8 w1' w1'' w2' w2'' hn
    by_cases c1 : s ≥ b
    · have e1 := w1' c1 (fun hlt => by have := hn hlt; omega)
      have e2 := w1'' (by omega) (fun hlt => by have := hn hlt; omega)
      have e3 : R' - 1 = s + q * 1048576 := by omega
      have cs := esin_c G (s + q * 1048576)
      unfold spV at cs
      rw [e1, e3]
      simp only [lp_eist_0, lp_eist_1, isH, shL, parsL, wx, wy, wz, stV, seval, IntWalk.iteOmega, IntWalk.toNatUp, reduceCtorEq]
      refine st_call (cw) rfl (.inl rfl) ?_
      simp only [eq_true c1, bI64, wx, wy, wz, stV, seval, IntWalk.iteOmega, IntWalk.toNatUp, reduceCtorEq]
      refine st_call (cs) rfl (.inl rfl) ?_
      simp only [wx, wy, wz, stV, seval, IntWalk.iteOmega, IntWalk.toNatUp, reduceCtorEq]
      refine rng_ret (f1 := ofL (shL f l s)) rfl (hL [(1, .box [.d (.int .i64 (s + q * 1048576)), .d (.int .i64 (s + q * 1048576))])]) (uL [1]) ?_ ?_
      · refine ent_l (fun i => i) ?_ ?_ rfl rfl <;> simp only [shL, wx, wex, wez, stV, seval, IntWalk.iteOmega, IntWalk.toNatUp, reduceCtorEq]
      · simp only [shL, wx, wy, wz, stV, seval, IntWalk.iteOmega, IntWalk.toNatUp, reduceCtorEq]
        exact ret_d1 (by simp only [wx, wy, wz, stV, seval, IntWalk.iteOmega, IntWalk.toNatUp, reduceCtorEq])
    · by_cases c2 : s ≥ a
      · have cs := esec_c G A B (by omega) (by omega) (by omega) (by omega)
        have es : (B - A) / 1048576 = 86400 + q - o := by omega
        unfold spV at cs
        rw [es] at cs
        have e1 := w2' (by omega) (by omega)
        have e2 := w2'' (by omega) (by omega)
        have m1 : 0 ≤ (s - a) * (86400 + q - o) ∧ (s - a) * (86400 + q - o) ≤ 7827668493926400 := by
          rcases n8 with e | e <;> subst e
          · rw [show 86400 + (o + 1) - o = 86401 by omega]; omega
          · rw [show 86400 + (o - 1) - o = 86399 by omega]; omega
        have m2 : 0 ≤ (s - a + 1) * (86400 + q - o) ∧ (s - a + 1) * (86400 + q - o) ≤ 7827668494012801 := by
          rcases n8 with e | e <;> subst e
          · rw [show 86400 + (o + 1) - o = 86401 by omega]; omega
          · rw [show 86400 + (o - 1) - o = 86399 by omega]; omega
        rw [show s + 1 - a = s - a + 1 by omega] at e2
        have cc := esca_c G (s - a) (86400 + q - o) 86400 true (by omega) (by omega) (by omega)
        have cd := esca_c G (s - a + 1) (86400 + q - o) 86400 true (by omega) (by omega) (by omega)
        have u1 := up_in m1.1
        have u2 := up_in m2.1
        rw [e1, e2]
        generalize hY : roundI ((s - a) * (86400 + q - o)) 86400 true = Y at *
        generalize hZ : roundI ((s - a + 1) * (86400 + q - o)) 86400 true = Z at *
        generalize hM1 : (s - a) * (86400 + q - o) = M1 at *
        generalize hM2 : (s - a + 1) * (86400 + q - o) = M2 at *
        generalize 86400 + q - o = L at *
        simp only [lp_eist_0, lp_eist_1, isH, shL, parsL, wx, wy, wz, stV, seval, IntWalk.iteOmega, IntWalk.toNatUp, reduceCtorEq]
        refine st_call (cw) rfl (.inl rfl) ?_
        simp only [eq_false c1, eq_true c2, bI64, wx, wy, wz, stV, seval, IntWalk.iteOmega, IntWalk.toNatUp, reduceCtorEq]
        refine st_call (cs) rfl (.inl rfl) ?_
        simp only [wx, wy, wz, stV, seval, IntWalk.iteOmega, IntWalk.toNatUp, reduceCtorEq]
        refine st_call (cc) rfl (.inl rfl) ?_
        simp only [wx, wy, wz, stV, seval, IntWalk.iteOmega, IntWalk.toNatUp, reduceCtorEq]
        refine st_call (cd) rfl (.inl rfl) ?_
        simp only [wx, wy, wz, stV, seval, IntWalk.iteOmega, IntWalk.toNatUp, reduceCtorEq]
        refine rng_ret (f1 := ofL (shL f l s)) rfl (hL [(1, .box [.d (.int .i64 (A + Y)), .d (.int .i64 (A + Z - 1))])]) (uL [1]) ?_ ?_
        · refine ent_l (fun i => i) ?_ ?_ rfl rfl <;> simp only [shL, wx, wex, wez, stV, seval, IntWalk.iteOmega, IntWalk.toNatUp, reduceCtorEq]
        · simp only [shL, wx, wy, wz, stV, seval, IntWalk.iteOmega, IntWalk.toNatUp, reduceCtorEq]
          exact ret_d1 (by simp only [wx, wy, wz, stV, seval, IntWalk.iteOmega, IntWalk.toNatUp, reduceCtorEq])
      · simp only [lp_eist_0, lp_eist_1, isH, shL, parsL, wx, wy, wz, stV, seval, IntWalk.iteOmega, IntWalk.toNatUp, reduceCtorEq]
        refine st_call (cw) rfl (.inl rfl) ?_
        simp only [eq_false c1, eq_false c2, bI64, wx, wy, wz, stV, seval, IntWalk.iteOmega, IntWalk.toNatUp, reduceCtorEq]
        refine rng_nextJ (f1 := ofL (shL f l s)) rfl (nx (by omega)) ?_
        refine ent_l (fun i => i) ?_ ?_ rfl rfl <;> simp only [shL, wx, wex, wez, stV, seval, IntWalk.iteOmega, IntWalk.toNatUp, reduceCtorEq]
  · intro hJ
    have hj : 0 < l.length → s < frA (lpG l 0) := fun h0 => hJ 0 (by rw [bkL_len]; omega) (by rw [bkL_len]; omega)
    have e1 := ls_at3 (okB_leap h) (s := s) fun h0 => by have := hj h0; omega
    have e2 := ls_at3 (okB_leap h) (s := s + 1) fun h0 => by have := hj h0; omega
    have e3 : lsN f l (s + 1) - 1 = s + f * 1048576 := by omega
    have cs := esin_c G (s + f * 1048576)
    unfold spV at cs ⊢
    rw [e1, e3]
    simp only [isH, shL, wx, wy, wz, stV, seval, IntWalk.iteOmega, IntWalk.toNatUp, reduceCtorEq, bI64]
    refine st_call (cs) rfl (.inl rfl) ?_
    simp only [wx, wy, wz, stV, seval, IntWalk.iteOmega, IntWalk.toNatUp, reduceCtorEq]
    exact ret_d1 (by simp only [wx, wy, wz, stV, seval, IntWalk.iteOmega, IntWalk.toNatUp, reduceCtorEq])
/-! ### Smear, Clear, Error, Window -/
theorem smv_e {f : Int} {l : List Lp} {t : Int} : erfE f l t 134217728 288230376151711744 = smvE f l t := rfl
def sf_esme : SFn := ⟨2, 16,
  .seq (.reg [⟨(some 2), .box .roBox (.t 0), none⟩,
    ⟨(some 4), .mv (.k (.c (.d (.int .i64 0)))), none⟩,
    ⟨(some 5), .mv (.k (.c (.d (.int .i64 0)))), none⟩])
  (.seq (.seq (.reg [⟨(some 7), .load (.ag 2) (.t 2), none⟩,
    ⟨(some 8), .mv (.t 1), none⟩,
    ⟨(some 9), .call 22 [(.t 7), (.t 8), (.k (.c (.d (.int .i64 134217728)))), (.k (.c (.d (.int .i64 288230376151711744))))] none, none⟩,
    ⟨(some 6), .mv (.t 9), none⟩])
  (.seq (.reg [⟨(some 10), .mv (.t 6), none⟩,
    ⟨(some 11), .bin .neq (.t 10) (.k (.c (.d (.int .i64 0)))), none⟩])
  (.cond (.t 11) (.seq (.reg [⟨(some 12), .mv (.t 6), none⟩,
     ⟨(some 4), .mv (.k (.c (.d (.int .i64 0)))), none⟩,
     ⟨(some 5), .mv (.t 12), none⟩])
   (.ret))
   (.skip))))
  (.seq (.reg [⟨(some 13), .load (.ag 2) (.t 2), none⟩,
    ⟨(some 14), .mv (.t 1), none⟩,
    ⟨(some 15), .call 25 [(.t 13), (.t 14)] none, none⟩,
    ⟨(some 4), .mv (.t 15), none⟩,
    ⟨(some 5), .mv (.k (.c (.d (.int .i64 0)))), none⟩])
  (.ret))),
  [(4, none), (5, none)]⟩
theorem cf_esme : compFn Try.prog { own := [], comp := [], frz := [], nils := [] } Try.f11 = some sf_esme := by kernel_rfl
theorem esme_c (G : Glob) (f : Int) (l : List Lp) (t : Int) (hl : l.length ≤ 9223372036854775807) : Den Try.prog G 11 [lpD f l, .int .i64 t] (.tup [.c (.d (.int .i64 (smvV f l t))), .c (.d (.int .i64 (smvE f l t)))]) := by
  refine den_walk Try.func11 cf_esme rfl rfl ?_
  have c1 := eerr_c G f l t 134217728 288230376151711744 hl
  unfold erfE at c1
  unfold smvV smvB smvE
  unfold lpD at c1 ⊢
  cases h1 : okB f l
  · rw [h1] at c1
    simp only [Bool.false_eq_true, if_false] at c1
    simp only [sf_esme, putAll, wx, wy, wz, stV, seval, IntWalk.iteOmega, IntWalk.toNatUp, reduceCtorEq]
    refine st_call (c1) rfl (.inl rfl) ?_
    simp only [wx, wy, wz, stV, seval, IntWalk.iteOmega, IntWalk.toNatUp, reduceCtorEq]
    exact ret_d2 (by simp only [wx, wy, wz, stV, seval, IntWalk.iteOmega, IntWalk.toNatUp, reduceCtorEq]) (by simp only [wx, wy, wz, stV, seval, IntWalk.iteOmega, IntWalk.toNatUp, reduceCtorEq])
  · rw [h1] at c1
    by_cases k : 134217728 ≤ t ∧ t ≤ 288230376151711744
    · have c2 := eshw_c G f l t hl h1 (by omega) (by omega)
      unfold lpD at c2
      rw [if_pos rfl, if_pos k] at c1
      rw [decide_eq_true k, if_pos k]
      generalize smN f l t = R at *
      simp only [sf_esme, putAll, wx, wy, wz, stV, seval, IntWalk.iteOmega, IntWalk.toNatUp, reduceCtorEq]
      refine st_call (c1) rfl (.inl rfl) ?_
      simp only [wx, wy, wz, stV, seval, IntWalk.iteOmega, IntWalk.toNatUp, reduceCtorEq]
      refine st_call (c2) rfl (.inl rfl) ?_
      simp only [wx, wy, wz, stV, seval, IntWalk.iteOmega, IntWalk.toNatUp, reduceCtorEq]
      exact ret_d2 (by simp only [wx, wy, wz, stV, seval, IntWalk.iteOmega, IntWalk.toNatUp, reduceCtorEq]) (by simp only [wx, wy, wz, stV, seval, IntWalk.iteOmega, IntWalk.toNatUp, reduceCtorEq])
    · rw [if_pos rfl, if_neg k] at c1
      rw [decide_eq_false k, if_neg k]
      simp only [sf_esme, putAll, wx, wy, wz, stV, seval, IntWalk.iteOmega, IntWalk.toNatUp, reduceCtorEq]
      refine st_call (c1) rfl (.inl rfl) ?_
      simp only [wx, wy, wz, stV, seval, IntWalk.iteOmega, IntWalk.toNatUp, reduceCtorEq]
      exact ret_d2 (by simp only [wx, wy, wz, stV, seval, IntWalk.iteOmega, IntWalk.toNatUp, reduceCtorEq]) (by simp only [wx, wy, wz, stV, seval, IntWalk.iteOmega, IntWalk.toNatUp, reduceCtorEq])
theorem clr_eq {f : Int} {l : List Lp} (h : okB f l = true) (s : Int) : lsN f l s ≤ lsN f l (s + 1) := ls_mono (okB_leap h) (by omega)
def sf_eclr : SFn := ⟨2, 25,
  .seq (.reg [⟨(some 2), .box .roBox (.t 0), none⟩,
    ⟨(some 4), .alloc [(.d (.int .i64 0)), (.d (.int .i64 0))], none⟩,
    ⟨(some 5), .mv (.k (.c (.d (.int .i64 0)))), none⟩])
  (.seq (.seq (.reg [⟨(some 8), .load (.ag 2) (.t 2), none⟩,
    ⟨(some 9), .mv (.t 1), none⟩,
    ⟨(some 10), .call 22 [(.t 8), (.t 9), (.k (.c (.d (.int .i64 268435456)))), (.k (.c (.d (.int .i64 144115188075855872))))] none, none⟩,
    ⟨(some 6), .mv (.t 10), none⟩])
  (.seq (.reg [⟨(some 11), .mv (.t 6), none⟩,
    ⟨(some 12), .bin .neq (.t 11) (.k (.c (.d (.int .i64 0)))), none⟩])
  (.cond (.t 12) (.seq (.reg [⟨(some 13), .build [(.d (.int .i64 0)), (.d (.int .i64 0))] [], none⟩,
     ⟨(some 14), .mv (.t 6), none⟩,
     ⟨none, .store (.ag 2) (.t 4) (.t 13), none⟩,
     ⟨(some 5), .mv (.t 14), none⟩])
   (.ret))
   (.skip))))
  (.seq (.reg [⟨(some 15), .load (.ag 2) (.t 2), none⟩,
    ⟨(some 16), .mv (.t 1), none⟩,
    ⟨(some 17), .call 27 [(.t 15), (.t 16)] none, none⟩,
    ⟨(some 7), .alloc [(.d (.int .i64 0)), (.d (.int .i64 0))], none⟩,
    ⟨none, .store (.ag 2) (.t 7) (.t 17), none⟩])
  (.seq (.seq (.reg [⟨(some 18), .fieldAddr 0 (.t 7), none⟩,
    ⟨(some 19), .load .sc (.t 18), none⟩,
    ⟨(some 20), .fieldAddr 1 (.t 7), none⟩,
    ⟨(some 21), .load .sc (.t 20), none⟩,
    ⟨(some 22), .bin .gtr (.t 19) (.t 21), none⟩])
  (.cond (.t 22) (.seq (.reg [⟨(some 23), .build [(.d (.int .i64 0)), (.d (.int .i64 0))] [], none⟩,
     ⟨none, .store (.ag 2) (.t 4) (.t 23), none⟩,
     ⟨(some 5), .mv (.k (.c (.d (.int .i64 10)))), none⟩])
   (.ret))
   (.skip)))
  (.seq (.reg [⟨(some 24), .load (.ag 2) (.t 7), none⟩,
    ⟨none, .store (.ag 2) (.t 4) (.t 24), none⟩,
    ⟨(some 5), .mv (.k (.c (.d (.int .i64 0)))), none⟩])
  (.ret))))),
  [(4, (some (.ag 2))), (5, none)]⟩
theorem cf_eclr : compFn Try.prog { own := [], comp := [], frz := [], nils := [] } Try.f13 = some sf_eclr := by kernel_rfl
theorem eclr_c (G : Glob) (f : Int) (l : List Lp) (s : Int) (hl : l.length ≤ 9223372036854775807) : Den Try.prog G 13 [lpD f l, .int .i64 s] (.tup [.c (.d (spV (clrLo f l s) (clrHi f l s))), .c (.d (.int .i64 (clrE f l s)))]) := by
  refine den_walk Try.func13 cf_eclr rfl rfl ?_
  have c1 := eerr_c G f l s 268435456 144115188075855872 hl
  unfold erfE at c1
  unfold spV clrLo clrHi clrB clrR clrE
  unfold lpD at c1 ⊢
  cases h1 : okB f l
  · rw [h1] at c1
    simp only [Bool.false_eq_true, if_false] at c1
    simp only [sf_eclr, putAll, wx, wy, wz, stV, seval, IntWalk.iteOmega, IntWalk.toNatUp, reduceCtorEq]
    refine st_call (c1) rfl (.inl rfl) ?_
    simp only [wx, wy, wz, stV, seval, IntWalk.iteOmega, IntWalk.toNatUp, reduceCtorEq]
    exact ret_d2 (by simp only [wx, wy, wz, stV, seval, IntWalk.iteOmega, IntWalk.toNatUp, reduceCtorEq]) (by simp only [wx, wy, wz, stV, seval, IntWalk.iteOmega, IntWalk.toNatUp, reduceCtorEq])
  · rw [h1] at c1
    by_cases k : 268435456 ≤ s ∧ s ≤ 144115188075855872
    · have c2 := eist_c G f l s hl h1 (by omega) (by omega)
      have hm := clr_eq h1 s
      have r1 := ls_range h1 s
      have r2 := ls_range h1 (s + 1)
      unfold lpD spV at c2
      rw [if_pos rfl, if_pos k] at c1
      rw [decide_eq_true k, if_pos k]
      unfold clrN
      generalize lsN f l s = R at *
      generalize lsN f l (s + 1) = R' at *
      by_cases he : R = R'
      · rw [decide_eq_true he]
        have hg : (R > R' - 1) = True := eq_true (by omega)
        simp only [sf_eclr, putAll, wx, wy, wz, stV, seval, IntWalk.iteOmega, IntWalk.toNatUp, reduceCtorEq]
        refine st_call (c1) rfl (.inl rfl) ?_
        simp only [wx, wy, wz, stV, seval, IntWalk.iteOmega, IntWalk.toNatUp, reduceCtorEq]
        refine st_call (c2) rfl (.inl rfl) ?_
        simp only [hg, wx, wy, wz, stV, seval, IntWalk.iteOmega, IntWalk.toNatUp, reduceCtorEq]
        exact ret_d2 (by simp only [wx, wy, wz, stV, seval, IntWalk.iteOmega, IntWalk.toNatUp, reduceCtorEq]) (by simp only [wx, wy, wz, stV, seval, IntWalk.iteOmega, IntWalk.toNatUp, reduceCtorEq])
      · rw [decide_eq_false he]
        have hg : (R > R' - 1) = False := eq_false (by omega)
        simp only [sf_eclr, putAll, wx, wy, wz, stV, seval, IntWalk.iteOmega, IntWalk.toNatUp, reduceCtorEq]
        refine st_call (c1) rfl (.inl rfl) ?_
        simp only [wx, wy, wz, stV, seval, IntWalk.iteOmega, IntWalk.toNatUp, reduceCtorEq]
        refine st_call (c2) rfl (.inl rfl) ?_
        simp only [hg, wx, wy, wz, stV, seval, IntWalk.iteOmega, IntWalk.toNatUp, reduceCtorEq]
        exact ret_d2 (by simp only [wx, wy, wz, stV, seval, IntWalk.iteOmega, IntWalk.toNatUp, reduceCtorEq]) (by simp only [wx, wy, wz, stV, seval, IntWalk.iteOmega, IntWalk.toNatUp, reduceCtorEq])
    · rw [if_pos rfl, if_neg k] at c1
      rw [decide_eq_false k, if_neg k]
      simp only [sf_eclr, putAll, wx, wy, wz, stV, seval, IntWalk.iteOmega, IntWalk.toNatUp, reduceCtorEq]
      refine st_call (c1) rfl (.inl rfl) ?_
      simp only [wx, wy, wz, stV, seval, IntWalk.iteOmega, IntWalk.toNatUp, reduceCtorEq]
      exact ret_d2 (by simp only [wx, wy, wz, stV, seval, IntWalk.iteOmega, IntWalk.toNatUp, reduceCtorEq]) (by simp only [wx, wy, wz, stV, seval, IntWalk.iteOmega, IntWalk.toNatUp, reduceCtorEq])
def sf_ewin : SFn := ⟨2, 30,
  .seq (.reg [⟨(some 2), .box .roBox (.t 0), none⟩,
    ⟨(some 4), .alloc [(.d (.int .i64 0)), (.d (.int .i64 0))], none⟩,
    ⟨(some 5), .alloc [(.d (.int .i64 0)), (.d (.int .i64 0))], none⟩,
    ⟨(some 6), .mv (.k (.c (.d (.int .i64 0)))), none⟩])
  (.seq (.seq (.reg [⟨(some 10), .load (.ag 2) (.t 2), none⟩,
    ⟨(some 11), .mv (.t 1), none⟩,
    ⟨(some 12), .fieldAddr 1 (.t 2), none⟩,
    ⟨(some 13), .load .sc (.t 12), none⟩,
    ⟨(some 14), .len (.t 13), none⟩,
    ⟨(some 15), .bin .sub (.t 14) (.k (.c (.d (.int .i64 1)))), none⟩,
    ⟨(some 16), .call 22 [(.t 10), (.t 11), (.k (.c (.d (.int .i64 0)))), (.t 15)] none, none⟩,
    ⟨(some 7), .mv (.t 16), none⟩])
  (.seq (.reg [⟨(some 17), .mv (.t 7), none⟩,
    ⟨(some 18), .bin .neq (.t 17) (.k (.c (.d (.int .i64 0)))), none⟩])
  (.cond (.t 18) (.seq (.reg [⟨(some 19), .build [(.d (.int .i64 0)), (.d (.int .i64 0))] [], none⟩,
     ⟨(some 20), .build [(.d (.int .i64 0)), (.d (.int .i64 0))] [], none⟩,
     ⟨(some 21), .mv (.t 7), none⟩,
     ⟨none, .store (.ag 2) (.t 4) (.t 19), none⟩,
     ⟨none, .store (.ag 2) (.t 5) (.t 20), none⟩,
     ⟨(some 6), .mv (.t 21), none⟩])
   (.ret))
   (.skip))))
  (.seq (.reg [⟨(some 23), .load (.ag 2) (.t 2), none⟩,
    ⟨(some 24), .mv (.t 1), none⟩,
    ⟨(some 25), .call 23 [(.t 23), (.t 24)] none, none⟩,
    ⟨(some 22), .mv (.t 25), none⟩,
    ⟨(some 26), .extract (.t 22) 0, none⟩,
    ⟨(some 27), .extract (.t 22) 1, none⟩,
    ⟨(some 8), .alloc [(.d (.int .i64 0)), (.d (.int .i64 0))], none⟩,
    ⟨(some 9), .alloc [(.d (.int .i64 0)), (.d (.int .i64 0))], none⟩,
    ⟨none, .store (.ag 2) (.t 8) (.t 26), none⟩,
    ⟨none, .store (.ag 2) (.t 9) (.t 27), none⟩])
  (.seq (.reg [⟨(some 28), .loadX (.ag 2) (.t 8) [(.t 4), (.t 5)], none⟩,
    ⟨(some 29), .loadX (.ag 2) (.t 9) [(.t 4), (.t 5)], none⟩,
    ⟨none, .store (.ag 2) (.t 4) (.t 28), none⟩,
    ⟨none, .store (.ag 2) (.t 5) (.t 29), none⟩,
    ⟨(some 6), .mv (.k (.c (.d (.int .i64 0)))), none⟩])
  (.ret)))),
  [(4, (some (.ag 2))), (5, (some (.ag 2))), (6, none)]⟩
theorem cf_ewin : compFn Try.prog { own := [], comp := [], frz := [], nils := [], lx := [(28, [4, 5]), (29, [4, 5])] } Try.f9 = some sf_ewin := by kernel_rfl
theorem ewin_c (G : Glob) (f : Int) (l : List Lp) (i : Int) (hl : l.length ≤ 9223372036854775807) : Den Try.prog G 9 [lpD f l, .int .i64 i] (.tup [.c (.d (spV (wdwV f l i (frA (lpG l i.toNat))) (wdwV f l i (frB (lpG l i.toNat))))), .c (.d (spV (wdwV f l i (winA (lastO f l i.toNat) (lpG l i.toNat))) (wdwV f l i (winB (lpG l i.toNat))))), .c (.d (.int .i64 (wdwE f l i)))]) := by
  refine den_walk Try.func9 cf_ewin rfl rfl ?_
  have c1 := eerr_c G f l i 0 ((l.length : Int) - 1) hl
  unfold erfE at c1
  unfold spV wdwV wdwB wdwE
  unfold lpD at c1 ⊢
  cases h1 : okB f l
  · rw [h1] at c1
    simp only [Bool.false_eq_true, if_false] at c1
    simp only [sf_ewin, putAll, wx, wy, wz, stV, seval, IntWalk.iteOmega, IntWalk.toNatUp, reduceCtorEq]
    refine st_call (c1) rfl (.inl rfl) ?_
    simp only [wx, wy, wz, stV, seval, IntWalk.iteOmega, IntWalk.toNatUp, reduceCtorEq]
    exact ret_d3 (by simp only [wx, wy, wz, stV, seval, IntWalk.iteOmega, IntWalk.toNatUp, reduceCtorEq, Bool.false_eq_true]) (by simp only [wx, wy, wz, stV, seval, IntWalk.iteOmega, IntWalk.toNatUp, reduceCtorEq, Bool.false_eq_true]) (by simp only [wx, wy, wz, stV, seval, IntWalk.iteOmega, IntWalk.toNatUp, reduceCtorEq])
  · rw [h1] at c1
    by_cases k : 0 ≤ i ∧ i < (l.length : Int)
    · rw [if_pos rfl, if_pos (by omega)] at c1
      rw [decide_eq_true k, if_pos k]
      obtain ⟨j, rfl⟩ := Int.eq_ofNat_of_zero_le k.1
      have c2 := ewn_c G f l j hl (by omega) h1
      unfold lpD wnV spV at c2
      rw [Int.toNat_natCast]
      generalize frA (lpG l j) = a at *
      generalize frB (lpG l j) = b at *
      generalize winA (lastO f l j) (lpG l j) = A at *
      generalize winB (lpG l j) = B at *
      simp only [sf_ewin, putAll, wx, wy, wz, stV, seval, IntWalk.iteOmega, IntWalk.toNatUp, reduceCtorEq]
      refine st_call (c1) rfl (.inl rfl) ?_
      simp only [wx, wy, wz, stV, seval, IntWalk.iteOmega, IntWalk.toNatUp, reduceCtorEq]
      refine st_call (c2) rfl (.inl rfl) ?_
      simp only [wx, wy, wz, stV, seval, IntWalk.iteOmega, IntWalk.toNatUp, reduceCtorEq]
      exact ret_d3 (by simp only [wx, wy, wz, stV, seval, IntWalk.iteOmega, IntWalk.toNatUp, reduceCtorEq]) (by simp only [wx, wy, wz, stV, seval, IntWalk.iteOmega, IntWalk.toNatUp, reduceCtorEq]) (by simp only [wx, wy, wz, stV, seval, IntWalk.iteOmega, IntWalk.toNatUp, reduceCtorEq])
    · rw [if_pos rfl, if_neg (by omega)] at c1
      rw [decide_eq_false k, if_neg k]
      simp only [sf_ewin, putAll, wx, wy, wz, stV, seval, IntWalk.iteOmega, IntWalk.toNatUp, reduceCtorEq]
      refine st_call (c1) rfl (.inl rfl) ?_
      simp only [wx, wy, wz, stV, seval, IntWalk.iteOmega, IntWalk.toNatUp, reduceCtorEq]
      exact ret_d3 (by simp only [wx, wy, wz, stV, seval, IntWalk.iteOmega, IntWalk.toNatUp, reduceCtorEq, Bool.false_eq_true]) (by simp only [wx, wy, wz, stV, seval, IntWalk.iteOmega, IntWalk.toNatUp, reduceCtorEq, Bool.false_eq_true]) (by simp only [wx, wy, wz, stV, seval, IntWalk.iteOmega, IntWalk.toNatUp, reduceCtorEq])
/-- What UTC shows, on the scale of ticks. -/
theorem utc_b {f : Int} {l : List Lp} {t : Int} (h : okB f l = true) : utcE f l t = if utcB f l t = true then 0 else 9 := by
  unfold utcE utcB
  rw [h, if_pos rfl, Bool.true_and]
def sf_eero : SFn := ⟨2, 41,
  .seq (.reg [⟨(some 2), .box .roBox (.t 0), none⟩,
    ⟨(some 4), .mv (.k (.c (.d (.int .i64 0)))), none⟩,
    ⟨(some 5), .mv (.k (.c (.d (.int .i64 0)))), none⟩])
  (.seq (.reg [⟨(some 11), .load (.ag 2) (.t 2), none⟩,
    ⟨(some 12), .mv (.t 1), none⟩,
    ⟨(some 13), .call 11 [(.t 11), (.t 12)] none, none⟩,
    ⟨(some 10), .mv (.t 13), none⟩,
    ⟨(some 14), .extract (.t 10) 0, none⟩,
    ⟨(some 15), .extract (.t 10) 1, none⟩,
    ⟨(some 6), .mv (.t 14), none⟩,
    ⟨(some 7), .mv (.t 15), none⟩])
  (.seq (.seq (.reg [⟨(some 16), .mv (.t 7), none⟩,
    ⟨(some 17), .bin .neq (.t 16) (.k (.c (.d (.int .i64 0)))), none⟩])
  (.cond (.t 17) (.seq (.reg [⟨(some 18), .mv (.t 7), none⟩,
     ⟨(some 4), .mv (.k (.c (.d (.int .i64 0)))), none⟩,
     ⟨(some 5), .mv (.t 18), none⟩])
   (.ret))
   (.skip)))
  (.seq (.reg [⟨(some 20), .load (.ag 2) (.t 2), none⟩,
    ⟨(some 21), .mv (.t 1), none⟩,
    ⟨(some 22), .call 20 [(.t 20), (.t 21)] none, none⟩,
    ⟨(some 19), .mv (.t 22), none⟩,
    ⟨(some 23), .extract (.t 19) 0, none⟩,
    ⟨(some 24), .extract (.t 19) 1, none⟩,
    ⟨(some 8), .alloc [(.d (.int .i64 0)), (.d (.bool false)), (.d (.int .i64 0))], none⟩,
    ⟨none, .store (.ag 3) (.t 8) (.t 23), none⟩,
    ⟨(some 7), .mv (.t 24), none⟩])
  (.seq (.seq (.reg [⟨(some 25), .mv (.t 7), none⟩,
    ⟨(some 26), .bin .neq (.t 25) (.k (.c (.d (.int .i64 0)))), none⟩])
  (.cond (.t 26) (.seq (.reg [⟨(some 27), .mv (.t 7), none⟩,
     ⟨(some 4), .mv (.k (.c (.d (.int .i64 0)))), none⟩,
     ⟨(some 5), .mv (.t 27), none⟩])
   (.ret))
   (.skip)))
  (.seq (.reg [⟨(some 28), .fieldAddr 0 (.t 8), none⟩,
    ⟨(some 29), .load .sc (.t 28), none⟩,
    ⟨(some 9), .mv (.t 29), none⟩])
  (.seq (.seq (.reg [⟨(some 30), .fieldAddr 1 (.t 8), none⟩,
    ⟨(some 31), .load .sc (.t 30), none⟩])
  (.cond (.t 31) (.reg [⟨(some 32), .mv (.t 9), none⟩,
     ⟨(some 33), .bin .add (.t 32) (.k (.c (.d (.int .i64 1)))), none⟩,
     ⟨(some 9), .mv (.t 33), none⟩])
   (.skip)))
  (.seq (.reg [⟨(some 34), .mv (.t 6), none⟩,
    ⟨(some 35), .mv (.t 9), none⟩,
    ⟨(some 36), .bin .shl (.t 35) (.k (.c (.d (.int .u64 20)))), none⟩,
    ⟨(some 37), .fieldAddr 2 (.t 8), none⟩,
    ⟨(some 38), .load .sc (.t 37), none⟩,
    ⟨(some 39), .bin .add (.t 36) (.t 38), none⟩,
    ⟨(some 40), .bin .sub (.t 34) (.t 39), none⟩,
    ⟨(some 4), .mv (.t 40), none⟩,
    ⟨(some 5), .mv (.k (.c (.d (.int .i64 0)))), none⟩])
  (.ret)))))))),
  [(4, none), (5, none)]⟩
theorem cf_eero : compFn Try.prog { own := [], comp := [], frz := [], nils := [] } Try.f15 = some sf_eero := by kernel_rfl
set_option maxHeartbeats 800000 in
theorem eero_c (G : Glob) (f : Int) (l : List Lp) (t : Int) (hl : l.length ≤ 9223372036854775807) (h1 : -9223372036854775808 ≤ t) (h2 : t ≤ 9223372036854775807) : Den Try.prog G 15 [lpD f l, .int .i64 t] (.tup [.c (.d (.int .i64 (errV f l t))), .c (.d (.int .i64 (errE f l t)))]) := by
  refine den_walk Try.func15 cf_eero rfl rfl ?_
  have c1 := esme_c G f l t hl
  have c2 := lutc_c G f l t hl h1 h2
  unfold errV errB errE
  unfold smvV at c1
  unfold lpD at c1 c2 ⊢
  cases hb : smvB f l t
  · have he : smvE f l t ≠ 0 := by
      unfold smvB at hb; unfold smvE
      cases ho : okB f l
      · simp
      · rw [ho, Bool.true_and] at hb
        have := of_decide_eq_false hb
        rw [if_pos rfl, if_neg this]; decide
    rw [hb] at c1
    simp only [Bool.false_eq_true, if_false] at c1
    rw [if_neg he]
    generalize smvE f l t = E at *
    simp only [sf_eero, putAll, wx, wy, wz, stV, seval, IntWalk.iteOmega, IntWalk.toNatUp, reduceCtorEq]
    refine st_call (c1) rfl (.inl rfl) ?_
    simp only [he, wx, wy, wz, stV, seval, IntWalk.iteOmega, IntWalk.toNatUp, reduceCtorEq]
    exact ret_d2 (by simp only [wx, wy, wz, stV, seval, IntWalk.iteOmega, IntWalk.toNatUp, reduceCtorEq]) (by simp only [wx, wy, wz, stV, seval, IntWalk.iteOmega, IntWalk.toNatUp, reduceCtorEq])
  · have hb' := hb
    unfold smvB at hb'
    rw [Bool.and_eq_true] at hb'
    obtain ⟨ho, ht⟩ := hb'
    have ht := of_decide_eq_true ht
    have he : smvE f l t = 0 := by unfold smvE; rw [if_pos ho, if_pos ht]
    have sr := sm_range ho t
    rw [hb, he, if_pos rfl] at c1
    rw [he, if_pos rfl]
    rw [utc_b ho] at c2
    unfold utcS utcL utcK at c2
    cases hu : utcB f l t
    · rw [hu] at c2
      simp only [Bool.false_and, Bool.false_eq_true, if_false] at c2
      simp only [sf_eero, putAll, wx, wy, wz, stV, seval, IntWalk.iteOmega, IntWalk.toNatUp, reduceCtorEq]
      refine st_call (c1) rfl (.inl rfl) ?_
      simp only [wx, wy, wz, stV, seval, IntWalk.iteOmega, IntWalk.toNatUp, reduceCtorEq]
      refine st_call (c2) rfl (.inl rfl) ?_
      simp only [wx, wy, wz, stV, seval, IntWalk.iteOmega, IntWalk.toNatUp, reduceCtorEq]
      exact ret_d2 (by simp only [wx, wy, wz, stV, seval, IntWalk.iteOmega, IntWalk.toNatUp, reduceCtorEq]) (by simp only [wx, wy, wz, stV, seval, IntWalk.iteOmega, IntWalk.toNatUp, reduceCtorEq])
    · have hs := hu
      unfold utcB at hs
      rw [Bool.and_eq_true] at hs
      have hs := sec_i hs.2
      rw [hu, if_pos rfl, if_pos rfl, if_pos rfl, Bool.true_and] at c2
      generalize shwN f l (t / 1048576) = W at *
      obtain ⟨S, b⟩ := W
      simp only at hs c2 ⊢
      generalize smN f l t = R at *
      generalize hK : t % 1048576 = K at *
      unfold bI
      cases b
      · simp only [sf_eero, putAll, wx, wy, wz, stV, seval, IntWalk.iteOmega, IntWalk.toNatUp, reduceCtorEq]
        refine st_call (c1) rfl (.inl rfl) ?_
        simp only [wx, wy, wz, stV, seval, IntWalk.iteOmega, IntWalk.toNatUp, reduceCtorEq]
        refine st_call (c2) rfl (.inl rfl) ?_
        simp only [bI64, wx, wy, wz, stV, seval, IntWalk.iteOmega, IntWalk.toNatUp, reduceCtorEq]
        exact ret_d2 (by simp only [wx, wy, wz, stV, seval, IntWalk.iteOmega, IntWalk.toNatUp, reduceCtorEq, Bool.false_eq_true, Int.add_zero]) (by simp only [wx, wy, wz, stV, seval, IntWalk.iteOmega, IntWalk.toNatUp, reduceCtorEq])
      · simp only [sf_eero, putAll, wx, wy, wz, stV, seval, IntWalk.iteOmega, IntWalk.toNatUp, reduceCtorEq]
        refine st_call (c1) rfl (.inl rfl) ?_
        simp only [wx, wy, wz, stV, seval, IntWalk.iteOmega, IntWalk.toNatUp, reduceCtorEq]
        refine st_call (c2) rfl (.inl rfl) ?_
        simp only [bI64, wx, wy, wz, stV, seval, IntWalk.iteOmega, IntWalk.toNatUp, reduceCtorEq]
        exact ret_d2 (by simp only [wx, wy, wz, stV, seval, IntWalk.iteOmega, IntWalk.toNatUp, reduceCtorEq]) (by simp only [wx, wy, wz, stV, seval, IntWalk.iteOmega, IntWalk.toNatUp, reduceCtorEq])
end Go.Proofs.Ytibpaciljnfpmaa
