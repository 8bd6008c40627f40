/- Layer 12 on data: the reference: what UTC shows. Own work. -/
import Derived.Test.YtibpaciljnfpmaaPl5
set_option linter.unusedVariables false
set_option linter.unusedSimpArgs false
namespace Go.Proofs.Ytibpaciljnfpmaa
open Go.RowKit

theorem cand_ok {f : Int} {l : List Lp} (h : okB f l = true) {t s : Int} {b : Bool} : (taiE f l s b (t % 1048576) = 0 ∧ taiV f l s b (t % 1048576) = t) ↔ IsR f l (t / 1048576) s b := by
  have hk : tikIn (t % 1048576) = true := decide_eq_true (by omega)
  constructor
  · rintro ⟨h1, h2⟩
    unfold taiE at h1
    unfold taiV taiB at h2
    rw [h, hk] at h1 h2
    cases a2 : secIn s <;> rw [a2] at h1 h2
    · simp at h1
    · cases a3 : noneB f l s b <;> rw [a3] at h1 h2
      · refine ⟨a2, a3, ?_⟩
        simp at h2
        omega
      · simp at h1
  · intro k
    unfold taiE taiV taiB
    rw [h, hk, k.sec, k.some, k.tai]
    simp
    omega
theorem utc_of {f : Int} {l : List Lp} (h : okB f l = true) {t s : Int} {b : Bool} (k : IsR f l (t / 1048576) s b) : utcS f l t = s ∧ utcL f l t = b ∧ utcK f l t = t % 1048576 ∧ utcE f l t = 0 := by
  have e := shw_is h k
  have eb : utcB f l t = true := by unfold utcB; rw [h, e]; exact k.sec
  unfold utcS utcL utcK utcE
  rw [eb, h, e]
  refine ⟨rfl, rfl, rfl, ?_⟩
  simp only [if_true]
  rw [if_pos k.sec]
theorem utc_no {f : Int} {l : List Lp} (h : okB f l = true) {t : Int} (k : ∀ s b, ¬ IsR f l (t / 1048576) s b) : utcS f l t = 0 ∧ utcL f l t = false ∧ utcK f l t = 0 ∧ utcE f l t = 9 := by
  have e : secIn (shwN f l (t / 1048576)).1 = false := by
    cases hs : secIn (shwN f l (t / 1048576)).1
    · rfl
    · exact absurd (shw_isR h hs) (k _ _)
  unfold utcS utcL utcK utcE utcB
  rw [h, e]
  exact ⟨rfl, rfl, rfl, rfl⟩
def boI : Bool → Nat | false => 0 | true => 1
def ruSt (f : Int) (l : List Lp) (t : Int) (i : Nat) : St := ⟨ofL [(1, .w (.c (.d (.int .i64 t)))), (2, .w (.c (.rp [.int .i64 f, .sl (l.map spD)]))), (4, .w (.c (.ptr 1 1 0 0))), (6, .w (.c (.d (.int .i64 (t / 1048576))))), (7, .w (.c (.d (.int .i64 (t % 1048576))))), (8, .w (.c (.d (.int .i64 (t / 1048576 - 170 + (i : Int))))))],
  hL [(1, .box [.d (.int .i64 0), .d (.bool false), .d (.int .i64 0)])], uL [1]⟩
def rwSt (f : Int) (l : List Lp) (t S : Int) (k : Nat) : St := ⟨ofL [(1, .w (.c (.d (.int .i64 t)))), (2, .w (.c (.rp [.int .i64 f, .sl (l.map spD)]))), (4, .w (.c (.ptr 1 1 0 0))), (6, .w (.c (.d (.int .i64 (t / 1048576))))), (7, .w (.c (.d (.int .i64 (t % 1048576))))), (8, .w (.c (.d (.int .i64 S)))), (9, .w (.c (.d (.int .i64 (k : Int)))))],
  hL [(1, .box [.d (.int .i64 0), .d (.bool false), .d (.int .i64 0)])], uL [1]⟩
def lp_rlutc_0 : SCode :=
  .seq (.seq (.reg [⟨(some 33), .mv (.t 9), none⟩,
    ⟨(some 34), .bin .lss (.t 33) (.k (.c (.d (.int .i64 2)))), none⟩])
  (.cond (.t 34) (.skip)
   (.exit 2)))
  (.seq (.block 3 (.seq (.reg [⟨(some 37), .mv (.t 8), none⟩,
     ⟨(some 38), .mv (.t 9), none⟩,
     ⟨(some 39), .bin .eql (.t 38) (.k (.c (.d (.int .i64 1)))), none⟩,
     ⟨(some 40), .mv (.t 7), none⟩,
     ⟨(some 41), .build [(.d (.int .i64 0)), (.d (.bool false)), (.d (.int .i64 0))] [(0, 1, (.t 37)), (1, 1, (.t 39)), (2, 1, (.t 40))], none⟩,
     ⟨(some 10), .alloc [(.d (.int .i64 0)), (.d (.bool false)), (.d (.int .i64 0))], none⟩,
     ⟨none, .store (.ag 3) (.t 10) (.t 41), none⟩])
   (.seq (.reg [⟨(some 43), .load (.ag 2) (.t 2), none⟩,
     ⟨(some 44), .load (.ag 3) (.t 10), none⟩,
     ⟨(some 45), .call 44 [(.t 43), (.t 44)] none, none⟩,
     ⟨(some 42), .mv (.t 45), none⟩,
     ⟨(some 46), .extract (.t 42) 0, none⟩,
     ⟨(some 47), .extract (.t 42) 1, none⟩,
     ⟨(some 11), .mv (.t 46), none⟩,
     ⟨(some 12), .mv (.t 47), none⟩])
   (.seq (.reg [⟨(some 48), .mv (.t 12), none⟩,
     ⟨(some 49), .bin .eql (.t 48) (.k (.c (.d (.int .i64 0)))), none⟩,
     ⟨(some 50), .mv (.t 49), none⟩,
     ⟨(some 51), .mv (.t 11), (some (50, true))⟩,
     ⟨(some 52), .mv (.t 1), (some (50, true))⟩,
     ⟨(some 53), .bin .eql (.t 51) (.t 52), (some (50, true))⟩,
     ⟨(some 54), .pick (.t 50) (.t 53) (.k (.c (.d (.bool false)))), none⟩])
   (.cond (.t 54) (.seq (.reg [⟨(some 55), .load (.ag 3) (.t 10), none⟩,
      ⟨none, .store (.ag 3) (.t 4) (.t 55), none⟩,
      ⟨(some 5), .mv (.k (.c (.d (.int .i64 0)))), none⟩])
    (.ret))
    (.skip))))))
  (.reg [⟨(some 35), .mv (.t 9), none⟩,
    ⟨(some 36), .bin .add (.t 35) (.k (.c (.d (.int .i64 1)))), none⟩,
    ⟨(some 9), .mv (.t 36), none⟩]))
def lp_rlutc_1 : SCode :=
  .seq (.seq (.reg [⟨(some 27), .mv (.t 8), none⟩,
    ⟨(some 28), .mv (.t 6), none⟩,
    ⟨(some 29), .bin .add (.t 28) (.k (.c (.d (.int .i64 70)))), none⟩,
    ⟨(some 30), .bin .leq (.t 27) (.t 29), none⟩])
  (.cond (.t 30) (.skip)
   (.exit 0)))
  (.seq (.block 1 (.seq (.reg [⟨(some 9), .mv (.k (.c (.d (.int .i64 0)))), none⟩])
   (.block 2 (.loop lp_rlutc_0))))
  (.reg [⟨(some 31), .mv (.t 8), none⟩,
    ⟨(some 32), .bin .add (.t 31) (.k (.c (.d (.int .i64 1)))), none⟩,
    ⟨(some 8), .mv (.t 32), none⟩]))
def sf_rlutc : SFn := ⟨2, 57,
  .seq (.reg [⟨(some 2), .box .roBox (.t 0), none⟩,
    ⟨(some 4), .alloc [(.d (.int .i64 0)), (.d (.bool false)), (.d (.int .i64 0))], none⟩,
    ⟨(some 5), .mv (.k (.c (.d (.int .i64 0)))), none⟩])
  (.seq (.seq (.reg [⟨(some 13), .load (.ag 2) (.t 2), none⟩,
    ⟨(some 14), .call 21 [(.t 13)] none, none⟩,
    ⟨(some 15), .un .not (.t 14), none⟩])
  (.cond (.t 15) (.seq (.reg [⟨(some 16), .build [(.d (.int .i64 0)), (.d (.bool false)), (.d (.int .i64 0))] [], none⟩,
     ⟨none, .store (.ag 3) (.t 4) (.t 16), none⟩,
     ⟨(some 5), .mv (.k (.c (.d (.int .i64 3)))), none⟩])
   (.ret))
   (.skip)))
  (.seq (.seq (.reg [⟨(some 17), .mv (.t 1), none⟩,
    ⟨(some 18), .call 41 [(.t 17)] none, none⟩,
    ⟨(some 19), .un .not (.t 18), none⟩])
  (.cond (.t 19) (.seq (.reg [⟨(some 20), .build [(.d (.int .i64 0)), (.d (.bool false)), (.d (.int .i64 0))] [], none⟩,
     ⟨none, .store (.ag 3) (.t 4) (.t 20), none⟩,
     ⟨(some 5), .mv (.k (.c (.d (.int .i64 9)))), none⟩])
   (.ret))
   (.skip)))
  (.seq (.reg [⟨(some 21), .mv (.t 1), none⟩,
    ⟨(some 22), .call 42 [(.t 21)] none, none⟩,
    ⟨(some 23), .mv (.t 1), none⟩,
    ⟨(some 24), .call 43 [(.t 23)] none, none⟩,
    ⟨(some 6), .mv (.t 22), none⟩,
    ⟨(some 7), .mv (.t 24), none⟩])
  (.seq (.seq (.reg [⟨(some 25), .mv (.t 6), none⟩,
    ⟨(some 26), .bin .sub (.t 25) (.k (.c (.d (.int .i64 170)))), none⟩,
    ⟨(some 8), .mv (.t 26), none⟩])
  (.block 0 (.loop lp_rlutc_1)))
  (.seq (.reg [⟨(some 56), .build [(.d (.int .i64 0)), (.d (.bool false)), (.d (.int .i64 0))] [], none⟩,
    ⟨none, .store (.ag 3) (.t 4) (.t 56), none⟩,
    ⟨(some 5), .mv (.k (.c (.d (.int .i64 9)))), none⟩])
  (.ret)))))),
  [(4, (some (.ag 3))), (5, none)]⟩
theorem cf_rlutc : compFn Try.prog { own := [], comp := [], frz := [], nils := [] } Try.f29 = some sf_rlutc := by kernel_rfl
set_option maxHeartbeats 1600000 in
theorem rlutc_c (G : Glob) (f : Int) (l : List Lp) (t : Int) (hl : l.length ≤ 9223372036854775807) (h1 : -9223372036854775808 ≤ t) (h2 : t ≤ 9223372036854775807) : Den Try.prog G 29 [lpD f l, .int .i64 t] (.tup [.c (.d (.agg [.int .i64 (utcS f l t), .bool (utcL f l t), .int .i64 (utcK f l t)])), .c (.d (.int .i64 (utcE f l t)))]) := by
  refine den_walk Try.func29 cf_rlutc rfl rfl ?_
  have c1 := rlv_c G f l hl
  have cT := fun s b => rltai_c G f l s b (t % 1048576) hl
  unfold lpD at c1 cT ⊢
  cases ho : okB f l
  · rw [ho] at c1
    have e : utcS f l t = 0 ∧ utcL f l t = false ∧ utcK f l t = 0 ∧ utcE f l t = 3 := by
      unfold utcS utcL utcK utcE utcB
      rw [ho]; exact ⟨rfl, rfl, rfl, rfl⟩
    rw [e.1, e.2.1, e.2.2.1, e.2.2.2]
    simp only [sf_rlutc, putAll, wx, wy, wz, stV, seval, IntWalk.iteOmega, IntWalk.toNatUp, reduceCtorEq]
    refine st_call (c1) rfl (.inl rfl) ?_
    simp only [wx, wy, wz, stV, seval, IntWalk.iteOmega, IntWalk.toNatUp, reduceCtorEq]
    exact ret_d2 (by simp only [wx, wy, wz, stV, seval, IntWalk.iteOmega, IntWalk.toNatUp, reduceCtorEq]) (by simp only [wx, wy, wz, stV, seval, IntWalk.iteOmega, IntWalk.toNatUp, reduceCtorEq])
  · rw [ho] at c1
    have c2 := rval_c G t
    cases hv : valT t <;> rw [hv] at c2
    · have hv' : ¬ (-1152921504606846976 ≤ t ∧ t ≤ 1152921504606846976) := of_decide_eq_false hv
      obtain ⟨e1, e2, e3, e4⟩ := utc_no (f := f) (l := l) (t := t) ho fun s b k => by
        have := isR_near ho k
        have := sec_i k.sec
        omega
      rw [e1, e2, e3, e4]
      simp only [sf_rlutc, putAll, wx, wy, wz, stV, seval, IntWalk.iteOmega, IntWalk.toNatUp, reduceCtorEq]
      refine st_call (c1) rfl (.inl rfl) ?_
      simp only [wx, wy, wz, stV, seval, IntWalk.iteOmega, IntWalk.toNatUp, reduceCtorEq]
      refine st_call (c2) rfl (.inl rfl) ?_
      simp only [wx, wy, wz, stV, seval, IntWalk.iteOmega, IntWalk.toNatUp, reduceCtorEq]
      exact ret_d2 (by simp only [wx, wy, wz, stV, seval, IntWalk.iteOmega, IntWalk.toNatUp, reduceCtorEq]) (by simp only [wx, wy, wz, stV, seval, IntWalk.iteOmega, IntWalk.toNatUp, reduceCtorEq])
    · have hv' : -1152921504606846976 ≤ t ∧ t ≤ 1152921504606846976 := of_decide_eq_true hv
      simp only [sf_rlutc, putAll, wx, wy, wz, stV, seval, IntWalk.iteOmega, IntWalk.toNatUp, reduceCtorEq]
      refine st_call (c1) rfl (.inl rfl) ?_
      simp only [wx, wy, wz, stV, seval, IntWalk.iteOmega, IntWalk.toNatUp, reduceCtorEq]
      refine st_call (c2) rfl (.inl rfl) ?_
      simp only [wx, wy, wz, stV, seval, IntWalk.iteOmega, IntWalk.toNatUp, reduceCtorEq]
      refine st_call (rsnd_c G t h1 h2) rfl (.inl rfl) ?_
      simp only [wx, wy, wz, stV, seval, IntWalk.iteOmega, IntWalk.toNatUp, reduceCtorEq]
      refine st_call (rprt_c G t h1 h2) rfl (.inl rfl) ?_
      simp only [wx, wy, wz, stV, seval, IntWalk.iteOmega, IntWalk.toNatUp, reduceCtorEq]
      refine loop_st (ruSt f l t) (fun i => 241 - i) (fun i => i ≤ 241 ∧ ∀ j, j < i → ∀ b, ¬ IsR f l (t / 1048576) (t / 1048576 - 170 + (j : Int)) b) 0 ⟨by omega, fun j hj => by omega⟩ ?_ ?_
      · have e0 : t / 1048576 - 170 + ((0 : Nat) : Int) = t / 1048576 - 170 := by omega
        refine ent_l (fun _ => 32) ?_ ?_ rfl rfl <;> simp only [wx, wex, wez, stV, seval, IntWalk.iteOmega, IntWalk.toNatUp, reduceCtorEq, Int.add_zero]
      · rintro i ⟨hi, hno⟩
        obtain ⟨S, hS⟩ : ∃ S, t / 1048576 - 170 + (i : Int) = S := ⟨_, rfl⟩
        by_cases hlt : i < 241
        · simp only [lp_rlutc_1, ruSt, wx, wy, wz, stV, seval, IntWalk.iteOmega, IntWalk.toNatUp, reduceCtorEq, hS]
          refine loop_st (rwSt f l t S) (fun k => 2 - k) (fun k => k ≤ 2 ∧ ∀ b, boI b < k → ¬ IsR f l (t / 1048576) S b) 0 ⟨by omega, fun b hb => by omega⟩ ?_ ?_
          · refine ent_l (fun i => i) ?_ ?_ rfl rfl <;> simp only [wx, wex, wez, stV, seval, IntWalk.iteOmega, IntWalk.toNatUp, reduceCtorEq]
          · rintro k ⟨hk, hnk⟩
            have go : ∀ b : Bool, ∀ {X E : Int}, taiV f l S b (t % 1048576) = X → taiE f l S b (t % 1048576) = E → (E = 0 ∧ X = t → IsR f l (t / 1048576) S b) ∧ (¬ (E = 0 ∧ X = t) → ¬ IsR f l (t / 1048576) S b) := by
              intro b X E hX hE
              subst hX; subst hE
              exact ⟨(cand_ok ho).1, fun h k => h ((cand_ok ho).2 k)⟩
            rcases k with _ | _ | k
            · have cc := cT S false
              have gg := go false rfl rfl
              generalize taiV f l S false (t % 1048576) = X at *
              generalize taiE f l S false (t % 1048576) = E at *
              by_cases hE : E = 0
              · by_cases hX : X = t
                · obtain ⟨e1, e2, e3, e4⟩ := utc_of ho (gg.1 ⟨hE, hX⟩)
                  rw [e1, e2, e3, e4]
                  simp only [lp_rlutc_0, rwSt, wx, wy, wz, stV, seval, IntWalk.iteOmega, IntWalk.toNatUp, reduceCtorEq]
                  refine st_call (cc) rfl (.inl rfl) ?_
                  simp only [hE, hX, wx, wy, wz, stV, seval, IntWalk.iteOmega, IntWalk.toNatUp, reduceCtorEq]
                  exact ret_d2 (by simp only [wx, wy, wz, stV, seval, IntWalk.iteOmega, IntWalk.toNatUp, reduceCtorEq]) (by simp only [wx, wy, wz, stV, seval, IntWalk.iteOmega, IntWalk.toNatUp, reduceCtorEq])
                · have hn := gg.2 (fun h => hX h.2)
                  simp only [lp_rlutc_0, rwSt, wx, wy, wz, stV, seval, IntWalk.iteOmega, IntWalk.toNatUp, reduceCtorEq]
                  refine st_call (cc) rfl (.inl rfl) ?_
                  simp only [hE, hX, wx, wy, wz, stV, seval, IntWalk.iteOmega, IntWalk.toNatUp, reduceCtorEq]
                  refine lop_next 1 (by omega) ⟨by omega, fun b hb => ?_⟩ (ent_l (fun i => i) ?_ ?_ rfl rfl)
                  · cases b
                    · exact hn
                    · exact absurd hb (by decide)
                  all_goals simp only [wx, wex, wez, stV, seval, IntWalk.iteOmega, IntWalk.toNatUp, reduceCtorEq]
              · have hn := gg.2 (fun h => hE h.1)
                simp only [lp_rlutc_0, rwSt, wx, wy, wz, stV, seval, IntWalk.iteOmega, IntWalk.toNatUp, reduceCtorEq]
                refine st_call (cc) rfl (.inl rfl) ?_
                simp only [hE, wx, wy, wz, stV, seval, IntWalk.iteOmega, IntWalk.toNatUp, reduceCtorEq]
                refine lop_next 1 (by omega) ⟨by omega, fun b hb => ?_⟩ (ent_l (fun i => i) ?_ ?_ rfl rfl)
                · cases b
                  · exact hn
                  · exact absurd hb (by decide)
                all_goals simp only [wx, wex, wez, stV, seval, IntWalk.iteOmega, IntWalk.toNatUp, reduceCtorEq]
            · have cc := cT S true
              have gg := go true rfl rfl
              generalize taiV f l S true (t % 1048576) = X at *
              generalize taiE f l S true (t % 1048576) = E at *
              by_cases hE : E = 0
              · by_cases hX : X = t
                · obtain ⟨e1, e2, e3, e4⟩ := utc_of ho (gg.1 ⟨hE, hX⟩)
                  rw [e1, e2, e3, e4]
                  simp only [lp_rlutc_0, rwSt, wx, wy, wz, stV, seval, IntWalk.iteOmega, IntWalk.toNatUp, reduceCtorEq]
                  refine st_call (cc) rfl (.inl rfl) ?_
                  simp only [hE, hX, wx, wy, wz, stV, seval, IntWalk.iteOmega, IntWalk.toNatUp, reduceCtorEq]
                  exact ret_d2 (by simp only [wx, wy, wz, stV, seval, IntWalk.iteOmega, IntWalk.toNatUp, reduceCtorEq]) (by simp only [wx, wy, wz, stV, seval, IntWalk.iteOmega, IntWalk.toNatUp, reduceCtorEq])
                · have hn := gg.2 (fun h => hX h.2)
                  simp only [lp_rlutc_0, rwSt, wx, wy, wz, stV, seval, IntWalk.iteOmega, IntWalk.toNatUp, reduceCtorEq]
                  refine st_call (cc) rfl (.inl rfl) ?_
                  simp only [hE, hX, wx, wy, wz, stV, seval, IntWalk.iteOmega, IntWalk.toNatUp, reduceCtorEq]
                  refine lop_next 2 (by omega) ⟨by omega, fun b hb => ?_⟩ (ent_l (fun i => i) ?_ ?_ rfl rfl)
                  · cases b
                    · exact hnk false (by decide)
                    · exact hn
                  all_goals simp only [wx, wex, wez, stV, seval, IntWalk.iteOmega, IntWalk.toNatUp, reduceCtorEq]
              · have hn := gg.2 (fun h => hE h.1)
                simp only [lp_rlutc_0, rwSt, wx, wy, wz, stV, seval, IntWalk.iteOmega, IntWalk.toNatUp, reduceCtorEq]
                refine st_call (cc) rfl (.inl rfl) ?_
                simp only [hE, wx, wy, wz, stV, seval, IntWalk.iteOmega, IntWalk.toNatUp, reduceCtorEq]
                refine lop_next 2 (by omega) ⟨by omega, fun b hb => ?_⟩ (ent_l (fun i => i) ?_ ?_ rfl rfl)
                · cases b
                  · exact hnk false (by decide)
                  · exact hn
                all_goals simp only [wx, wex, wez, stV, seval, IntWalk.iteOmega, IntWalk.toNatUp, reduceCtorEq]
            · have ek : k = 0 := by omega
              subst ek
              simp only [lp_rlutc_0, rwSt, wx, wy, wz, stV, seval, IntWalk.iteOmega, IntWalk.toNatUp, reduceCtorEq]
              have e1 : t / 1048576 - 170 + ((i : Int) + 1) = S + 1 := by omega
              refine lop_next (i + 1) (by omega) ⟨by omega, fun j hj b => ?_⟩ (ent_l (fun i => i) ?_ ?_ rfl rfl)
              · rcases Nat.lt_succ_iff_lt_or_eq.1 hj with hj | rfl
                · exact hno j hj b
                · rw [hS]; exact hnk b (by cases b <;> decide)
              all_goals simp only [wx, wex, wez, stV, seval, IntWalk.iteOmega, IntWalk.toNatUp, reduceCtorEq, e1]
        · obtain ⟨e1, e2, e3, e4⟩ := utc_no (f := f) (l := l) (t := t) ho fun s b k => by
            have hb := isR_near ho k
            refine hno (s - (t / 1048576 - 170)).toNat (by omega) b ?_
            have e : t / 1048576 - 170 + (((s - (t / 1048576 - 170)).toNat : Nat) : Int) = s := by omega
            rw [e]; exact k
          rw [e1, e2, e3, e4]
          simp only [lp_rlutc_1, ruSt, wx, wy, wz, stV, seval, IntWalk.iteOmega, IntWalk.toNatUp, reduceCtorEq, hS]
          exact ret_d2 (by simp only [wx, wy, wz, stV, seval, IntWalk.iteOmega, IntWalk.toNatUp, reduceCtorEq]) (by simp only [wx, wy, wz, stV, seval, IntWalk.iteOmega, IntWalk.toNatUp, reduceCtorEq])
end Go.Proofs.Ytibpaciljnfpmaa
