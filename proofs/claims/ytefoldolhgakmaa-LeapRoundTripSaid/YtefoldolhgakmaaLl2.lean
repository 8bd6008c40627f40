/- The laws of layer 12: there and back; numbers; offsets. Own work. -/
import Derived.Test.YtefoldolhgakmaaAlV
import Derived.Test.YtefoldolhgakmaaLl0
set_option linter.unusedVariables false
set_option linter.unusedSimpArgs false
namespace Go.Proofs.Ytefoldolhgakmaa
open Go.RowKit

theorem rd_ex {f : Int} {l : List Lp} (h : okB f l = true) {T : Int} (h1 : 512 ≤ T) (h2 : T ≤ 137438953472) : ∃ s b, IsR f l T s b ∧ 300 ≤ s ∧ s ≤ 137438953600 := by
  obtain ⟨s, b, h3, h4⟩ := isR_ex h T
  have o := off_in h s
  have t := h4
  unfold taiS taiN bI at t
  have hs : 300 ≤ s ∧ s ≤ 137438953600 := by cases b <;> simp at t <;> omega
  exact ⟨s, b, ⟨sec_t (by omega), h3, h4⟩, hs⟩
/-- The next second of TAI is shown later. -/
theorem rd_next {f : Int} {l : List Lp} (h : okB f l = true) {T s s' : Int} {b b' : Bool} (k : IsR f l T s b) (k' : IsR f l (T + 1) s' b') : s < s' ∨ (s' = s ∧ b = false ∧ b' = true) := by
  obtain ⟨a1, a2⟩ := isR_at h k
  obtain ⟨c1, c2⟩ := isR_at h k'
  rcases Int.lt_trichotomy s s' with e | e | e
  · exact .inl e
  · subst e
    right
    have t := k.tai
    have t' := k'.tai
    unfold taiS bI at t t'
    refine ⟨rfl, ?_⟩
    cases b <;> cases b' <;> simp at t t' ⊢ <;> omega
  · have := tai_mono (okB_leap h) (show s' + 1 ≤ s by omega); omega
theorem wl_el (tb : List Int) : elB (wlT tb) := by
  intro i hi
  have hk : wlK tb ≤ 4 := Nat.min_le_left _ _
  unfold wlT at hi ⊢
  rw [wlL_len] at hi
  rw [wlL_g tb _ i hi]
  have a := wlA_b tb (i + 1)
  have o := wlO_b tb (i + 1)
  simp only
  omega
theorem wl_len (tb : List Int) : (wlT tb).length ≤ 4 := by
  unfold wlT; rw [wlL_len]; exact Nat.min_le_left _ _
def sf_krt12 : SFn := ⟨2, 96,
  .seq (.reg [⟨(some 4), .mv (.k (.c (.d (.bool false)))), none⟩])
  (.seq (.reg [⟨(some 14), .mv (.t 0), none⟩,
    ⟨(some 15), .call 22 [(.t 14)] none, none⟩,
    ⟨(some 5), .alloc [(.d (.int .i64 0)), .nil], none⟩,
    ⟨none, .store (.ag 2) (.t 5) (.t 15), none⟩])
  (.seq (.reg [⟨(some 16), .load (.ag 2) (.t 5), none⟩,
    ⟨(some 17), .mv (.t 1), none⟩,
    ⟨(some 18), .call 23 [(.t 16), (.t 17)] none, none⟩,
    ⟨(some 6), .mv (.t 18), none⟩])
  (.seq (.reg [⟨(some 20), .load (.ag 2) (.t 5), none⟩,
    ⟨(some 21), .mv (.t 6), none⟩,
    ⟨(some 22), .call 14 [(.t 20), (.t 21)] none, none⟩,
    ⟨(some 19), .mv (.t 22), none⟩,
    ⟨(some 23), .extract (.t 19) 0, none⟩,
    ⟨(some 24), .extract (.t 19) 1, none⟩,
    ⟨(some 7), .alloc [(.d (.int .i64 0)), (.d (.bool false)), (.d (.int .i64 0))], none⟩,
    ⟨none, .store (.ag 3) (.t 7) (.t 23), none⟩,
    ⟨(some 8), .mv (.t 24), none⟩])
  (.seq (.reg [⟨(some 26), .load (.ag 2) (.t 5), none⟩,
    ⟨(some 27), .mv (.t 6), none⟩,
    ⟨(some 28), .bin .add (.t 27) (.k (.c (.d (.int .i64 1)))), none⟩,
    ⟨(some 29), .call 14 [(.t 26), (.t 28)] none, none⟩,
    ⟨(some 25), .mv (.t 29), none⟩,
    ⟨(some 30), .extract (.t 25) 0, none⟩,
    ⟨(some 31), .extract (.t 25) 1, none⟩,
    ⟨(some 9), .alloc [(.d (.int .i64 0)), (.d (.bool false)), (.d (.int .i64 0))], none⟩,
    ⟨none, .store (.ag 3) (.t 9) (.t 30), none⟩,
    ⟨(some 10), .mv (.t 31), none⟩])
  (.seq (.reg [⟨(some 33), .load (.ag 2) (.t 5), none⟩,
    ⟨(some 34), .load (.ag 3) (.t 7), none⟩,
    ⟨(some 35), .call 12 [(.t 33), (.t 34)] none, none⟩,
    ⟨(some 32), .mv (.t 35), none⟩,
    ⟨(some 36), .extract (.t 32) 0, none⟩,
    ⟨(some 37), .extract (.t 32) 1, none⟩,
    ⟨(some 11), .mv (.t 36), none⟩,
    ⟨(some 12), .mv (.t 37), none⟩])
  (.seq (.seq (.reg [⟨(some 38), .mv (.t 8), none⟩,
    ⟨(some 39), .bin .neq (.t 38) (.k (.c (.d (.int .i64 0)))), none⟩,
    ⟨(some 40), .mv (.t 39), none⟩,
    ⟨(some 41), .mv (.t 10), (some (40, false))⟩,
    ⟨(some 42), .bin .neq (.t 41) (.k (.c (.d (.int .i64 0)))), (some (40, false))⟩,
    ⟨(some 43), .pick (.t 40) (.k (.c (.d (.bool true)))) (.t 42), none⟩,
    ⟨(some 44), .mv (.t 43), none⟩,
    ⟨(some 45), .mv (.t 12), (some (44, false))⟩,
    ⟨(some 46), .bin .neq (.t 45) (.k (.c (.d (.int .i64 0)))), (some (44, false))⟩,
    ⟨(some 47), .pick (.t 44) (.k (.c (.d (.bool true)))) (.t 46), none⟩,
    ⟨(some 48), .mv (.t 47), none⟩,
    ⟨(some 49), .mv (.t 11), (some (48, false))⟩,
    ⟨(some 50), .mv (.t 6), (some (48, false))⟩,
    ⟨(some 51), .bin .neq (.t 49) (.t 50), (some (48, false))⟩,
    ⟨(some 52), .pick (.t 48) (.k (.c (.d (.bool true)))) (.t 51), none⟩])
  (.cond (.t 52) (.seq (.reg [⟨(some 4), .mv (.k (.c (.d (.bool false)))), none⟩])
   (.ret))
   (.skip)))
  (.seq (.reg [⟨(some 53), .fieldAddr 0 (.t 9), none⟩,
    ⟨(some 54), .load .sc (.t 53), none⟩,
    ⟨(some 55), .fieldAddr 0 (.t 7), none⟩,
    ⟨(some 56), .load .sc (.t 55), none⟩,
    ⟨(some 57), .bin .gtr (.t 54) (.t 56), none⟩,
    ⟨(some 58), .mv (.t 57), none⟩,
    ⟨(some 59), .fieldAddr 0 (.t 9), (some (58, false))⟩,
    ⟨(some 60), .load .sc (.t 59), (some (58, false))⟩,
    ⟨(some 61), .fieldAddr 0 (.t 7), (some (58, false))⟩,
    ⟨(some 62), .load .sc (.t 61), (some (58, false))⟩,
    ⟨(some 63), .bin .eql (.t 60) (.t 62), (some (58, false))⟩,
    ⟨(some 64), .mv (.t 63), (some (58, false))⟩,
    ⟨(some 65), .fieldAddr 1 (.t 9), (some (64, true))⟩,
    ⟨(some 66), .load .sc (.t 65), (some (64, true))⟩,
    ⟨(some 67), .mv (.t 66), (some (64, true))⟩,
    ⟨(some 68), .fieldAddr 1 (.t 7), (some (67, true))⟩,
    ⟨(some 69), .load .sc (.t 68), (some (67, true))⟩,
    ⟨(some 70), .un .not (.t 69), (some (67, true))⟩,
    ⟨(some 71), .pick (.t 67) (.t 70) (.k (.c (.d (.bool false)))), (some (64, true))⟩,
    ⟨(some 72), .mv (.t 71), (some (64, true))⟩,
    ⟨(some 73), .fieldAddr 1 (.t 9), (some (72, false))⟩,
    ⟨(some 74), .load .sc (.t 73), (some (72, false))⟩,
    ⟨(some 75), .fieldAddr 1 (.t 7), (some (72, false))⟩,
    ⟨(some 76), .load .sc (.t 75), (some (72, false))⟩,
    ⟨(some 77), .eqB false (.t 74) (.t 76), (some (72, false))⟩,
    ⟨(some 78), .mv (.t 77), (some (72, false))⟩,
    ⟨(some 79), .fieldAddr 2 (.t 9), (some (78, true))⟩,
    ⟨(some 80), .load .sc (.t 79), (some (78, true))⟩,
    ⟨(some 81), .fieldAddr 2 (.t 7), (some (78, true))⟩,
    ⟨(some 82), .load .sc (.t 81), (some (78, true))⟩,
    ⟨(some 83), .bin .gtr (.t 80) (.t 82), (some (78, true))⟩,
    ⟨(some 84), .pick (.t 78) (.t 83) (.k (.c (.d (.bool false)))), (some (72, false))⟩,
    ⟨(some 85), .pick (.t 72) (.k (.c (.d (.bool true)))) (.t 84), (some (64, true))⟩,
    ⟨(some 86), .pick (.t 64) (.t 85) (.k (.c (.d (.bool false)))), (some (58, false))⟩,
    ⟨(some 87), .pick (.t 58) (.k (.c (.d (.bool true)))) (.t 86), none⟩,
    ⟨(some 13), .mv (.t 87), none⟩])
  (.seq (.reg [⟨(some 88), .call 9 [] none, none⟩,
    ⟨(some 89), .mv (.t 88), none⟩,
    ⟨(some 90), .mv (.t 13), (some (89, true))⟩,
    ⟨(some 91), .pick (.t 89) (.t 90) (.k (.c (.d (.bool false)))), none⟩,
    ⟨(some 92), .mv (.t 91), none⟩,
    ⟨(some 93), .load (.ag 2) (.t 5), (some (92, true))⟩,
    ⟨(some 94), .call 20 [(.t 93)] none, (some (92, true))⟩,
    ⟨(some 95), .pick (.t 92) (.t 94) (.k (.c (.d (.bool false)))), none⟩,
    ⟨(some 4), .mv (.t 95), none⟩])
  (.ret))))))))),
  [(4, none)]⟩
theorem cf_krt12 : compFn Try.prog { own := [], comp := [], frz := [], nils := [] } Try.f4 = some sf_krt12 := by kernel_rfl
set_option maxHeartbeats 1600000 in
theorem krt12_c (G : Glob) (table : List Int) (htable1 : table.length ≤ maxLen) (htable2 : ∀ n ∈ table, fitI n) (v : Int) (hv1 : -9223372036854775808 ≤ v) (hv2 : v ≤ 9223372036854775807)  : Den Try.prog G 4 [.sl (table.map zD), .int .i64 v] (.w (.c (.d (.bool true)))) := by
  refine den_walk Try.func4 cf_krt12 rfl rfl ?_
  have hm : maxLen ≤ 9223372036854775807 := by decide
  have len := wl_len table
  have ok := wlT_ok table
  have eb := wl_el table
  have cw := wleap_c G table (by omega)
  have cn := wnear_c G 10 (wlT table) v (by omega) eb hv1 hv2
  have nb := nlN_in eb v
  generalize nlN (wlT table) v = t at *
  generalize wlT table = L at *
  have hL : L.length ≤ 9223372036854775807 := by omega
  have c1 := lutc_c G 10 L t hL (by omega) (by omega)
  have c2 := lutc_c G 10 L (t + 1) hL (by omega) (by omega)
  obtain ⟨s, b, r1, r2, r3⟩ := rd_ex ok (T := t / 1048576) (by omega) (by omega)
  obtain ⟨s', b', q1, q2, q3⟩ := rd_ex ok (T := (t + 1) / 1048576) (by omega) (by omega)
  obtain ⟨e1, e2, e3, e4⟩ := utc_of ok r1
  obtain ⟨f1, f2, f3, f4⟩ := utc_of ok q1
  rw [e1, e2, e3, e4] at c1
  rw [f1, f2, f3, f4] at c2
  have c3 := ltai_c G 10 L s b (t % 1048576) hL
  rw [((cand_ok ok).2 r1).1, ((cand_ok ok).2 r1).2] at c3
  have c4 := lvl_c G 10 L hL
  rw [ok] at c4
  unfold lpD at cw cn c1 c2 c3 c4
  by_cases hT : (t + 1) / 1048576 = t / 1048576
  · rw [hT] at q1
    obtain ⟨u1, u2⟩ := isR_uniq ok r1 q1
    subst u1; subst u2
    have g1 : (s > s) = False := eq_false (by omega)
    have g2 : ((t + 1) % 1048576 > t % 1048576) = True := eq_true (by omega)
    generalize (t + 1) % 1048576 = K' at *
    generalize t % 1048576 = K at *
    cases b
    · simp only [sf_krt12, putAll, wx, wy, wz, stV, seval, IntWalk.iteOmega, IntWalk.toNatUp, reduceCtorEq]
      refine st_call (cw) rfl (.inl rfl) ?_
      simp only [wx, wy, wz, stV, seval, IntWalk.iteOmega, IntWalk.toNatUp, reduceCtorEq]
      refine st_call (cn) rfl (.inl rfl) ?_
      simp only [wx, wy, wz, stV, seval, IntWalk.iteOmega, IntWalk.toNatUp, reduceCtorEq]
      refine st_call (c1) rfl (.inl rfl) ?_
      simp only [wx, wy, wz, stV, seval, IntWalk.iteOmega, IntWalk.toNatUp, reduceCtorEq]
      refine st_call (c2) rfl (.inl rfl) ?_
      simp only [wx, wy, wz, stV, seval, IntWalk.iteOmega, IntWalk.toNatUp, reduceCtorEq]
      refine st_call (c3) rfl (.inl rfl) ?_
      simp only [g1, g2, wx, wy, wz, stV, seval, IntWalk.iteOmega, IntWalk.toNatUp, reduceCtorEq]
      refine st_call (known12_c G) rfl (.inl rfl) ?_
      simp only [wx, wy, wz, stV, seval, IntWalk.iteOmega, IntWalk.toNatUp, reduceCtorEq]
      refine st_call (c4) rfl (.inl rfl) ?_
      simp only [wx, wy, wz, stV, seval, IntWalk.iteOmega, IntWalk.toNatUp, reduceCtorEq]
      exact ret_d1 (by simp only [wx, wy, wz, stV, seval, IntWalk.iteOmega, IntWalk.toNatUp, reduceCtorEq])
    · simp only [sf_krt12, putAll, wx, wy, wz, stV, seval, IntWalk.iteOmega, IntWalk.toNatUp, reduceCtorEq]
      refine st_call (cw) rfl (.inl rfl) ?_
      simp only [wx, wy, wz, stV, seval, IntWalk.iteOmega, IntWalk.toNatUp, reduceCtorEq]
      refine st_call (cn) rfl (.inl rfl) ?_
      simp only [wx, wy, wz, stV, seval, IntWalk.iteOmega, IntWalk.toNatUp, reduceCtorEq]
      refine st_call (c1) rfl (.inl rfl) ?_
      simp only [wx, wy, wz, stV, seval, IntWalk.iteOmega, IntWalk.toNatUp, reduceCtorEq]
      refine st_call (c2) rfl (.inl rfl) ?_
      simp only [wx, wy, wz, stV, seval, IntWalk.iteOmega, IntWalk.toNatUp, reduceCtorEq]
      refine st_call (c3) rfl (.inl rfl) ?_
      simp only [g1, g2, wx, wy, wz, stV, seval, IntWalk.iteOmega, IntWalk.toNatUp, reduceCtorEq]
      refine st_call (known12_c G) rfl (.inl rfl) ?_
      simp only [wx, wy, wz, stV, seval, IntWalk.iteOmega, IntWalk.toNatUp, reduceCtorEq]
      refine st_call (c4) rfl (.inl rfl) ?_
      simp only [wx, wy, wz, stV, seval, IntWalk.iteOmega, IntWalk.toNatUp, reduceCtorEq]
      exact ret_d1 (by simp only [wx, wy, wz, stV, seval, IntWalk.iteOmega, IntWalk.toNatUp, reduceCtorEq])
  · rw [show (t + 1) / 1048576 = t / 1048576 + 1 by omega] at q1
    rcases rd_next ok r1 q1 with hs | ⟨hs, hb, hb'⟩
    · have g1 : (s' > s) = True := eq_true (by omega)
      generalize (t + 1) % 1048576 = K' at *
      generalize t % 1048576 = K at *
      simp only [sf_krt12, putAll, wx, wy, wz, stV, seval, IntWalk.iteOmega, IntWalk.toNatUp, reduceCtorEq]
      refine st_call (cw) rfl (.inl rfl) ?_
      simp only [wx, wy, wz, stV, seval, IntWalk.iteOmega, IntWalk.toNatUp, reduceCtorEq]
      refine st_call (cn) rfl (.inl rfl) ?_
      simp only [wx, wy, wz, stV, seval, IntWalk.iteOmega, IntWalk.toNatUp, reduceCtorEq]
      refine st_call (c1) rfl (.inl rfl) ?_
      simp only [wx, wy, wz, stV, seval, IntWalk.iteOmega, IntWalk.toNatUp, reduceCtorEq]
      refine st_call (c2) rfl (.inl rfl) ?_
      simp only [wx, wy, wz, stV, seval, IntWalk.iteOmega, IntWalk.toNatUp, reduceCtorEq]
      refine st_call (c3) rfl (.inl rfl) ?_
      simp only [g1, wx, wy, wz, stV, seval, IntWalk.iteOmega, IntWalk.toNatUp, reduceCtorEq]
      refine st_call (known12_c G) rfl (.inl rfl) ?_
      simp only [wx, wy, wz, stV, seval, IntWalk.iteOmega, IntWalk.toNatUp, reduceCtorEq]
      refine st_call (c4) rfl (.inl rfl) ?_
      simp only [wx, wy, wz, stV, seval, IntWalk.iteOmega, IntWalk.toNatUp, reduceCtorEq]
      exact ret_d1 (by simp only [wx, wy, wz, stV, seval, IntWalk.iteOmega, IntWalk.toNatUp, reduceCtorEq])
    · subst hs; subst hb; subst hb'
      have g1 : (s' > s') = False := eq_false (by omega)
      generalize (t + 1) % 1048576 = K' at *
      generalize t % 1048576 = K at *
      simp only [sf_krt12, putAll, wx, wy, wz, stV, seval, IntWalk.iteOmega, IntWalk.toNatUp, reduceCtorEq]
      refine st_call (cw) rfl (.inl rfl) ?_
      simp only [wx, wy, wz, stV, seval, IntWalk.iteOmega, IntWalk.toNatUp, reduceCtorEq]
      refine st_call (cn) rfl (.inl rfl) ?_
      simp only [wx, wy, wz, stV, seval, IntWalk.iteOmega, IntWalk.toNatUp, reduceCtorEq]
      refine st_call (c1) rfl (.inl rfl) ?_
      simp only [wx, wy, wz, stV, seval, IntWalk.iteOmega, IntWalk.toNatUp, reduceCtorEq]
      refine st_call (c2) rfl (.inl rfl) ?_
      simp only [wx, wy, wz, stV, seval, IntWalk.iteOmega, IntWalk.toNatUp, reduceCtorEq]
      refine st_call (c3) rfl (.inl rfl) ?_
      simp only [g1, wx, wy, wz, stV, seval, IntWalk.iteOmega, IntWalk.toNatUp, reduceCtorEq]
      refine st_call (known12_c G) rfl (.inl rfl) ?_
      simp only [wx, wy, wz, stV, seval, IntWalk.iteOmega, IntWalk.toNatUp, reduceCtorEq]
      refine st_call (c4) rfl (.inl rfl) ?_
      simp only [wx, wy, wz, stV, seval, IntWalk.iteOmega, IntWalk.toNatUp, reduceCtorEq]
      exact ret_d1 (by simp only [wx, wy, wz, stV, seval, IntWalk.iteOmega, IntWalk.toNatUp, reduceCtorEq])
def sf_knu12 : SFn := ⟨2, 98,
  .seq (.reg [⟨(some 4), .mv (.k (.c (.d (.bool false)))), none⟩])
  (.seq (.reg [⟨(some 13), .mv (.t 0), none⟩,
    ⟨(some 14), .call 22 [(.t 13)] none, none⟩,
    ⟨(some 5), .alloc [(.d (.int .i64 0)), .nil], none⟩,
    ⟨none, .store (.ag 2) (.t 5) (.t 14), none⟩])
  (.seq (.reg [⟨(some 15), .load (.ag 2) (.t 5), none⟩,
    ⟨(some 16), .mv (.t 1), none⟩,
    ⟨(some 17), .call 23 [(.t 15), (.t 16)] none, none⟩,
    ⟨(some 6), .mv (.t 17), none⟩])
  (.seq (.reg [⟨(some 19), .load (.ag 2) (.t 5), none⟩,
    ⟨(some 20), .mv (.t 6), none⟩,
    ⟨(some 21), .call 14 [(.t 19), (.t 20)] none, none⟩,
    ⟨(some 18), .mv (.t 21), none⟩,
    ⟨(some 22), .extract (.t 18) 0, none⟩,
    ⟨(some 23), .extract (.t 18) 1, none⟩,
    ⟨(some 7), .alloc [(.d (.int .i64 0)), (.d (.bool false)), (.d (.int .i64 0))], none⟩,
    ⟨none, .store (.ag 3) (.t 7) (.t 22), none⟩,
    ⟨(some 8), .mv (.t 23), none⟩])
  (.seq (.seq (.reg [⟨(some 24), .mv (.t 8), none⟩,
    ⟨(some 25), .bin .neq (.t 24) (.k (.c (.d (.int .i64 0)))), none⟩])
  (.cond (.t 25) (.seq (.reg [⟨(some 4), .mv (.k (.c (.d (.bool false)))), none⟩])
   (.ret))
   (.skip)))
  (.seq (.reg [⟨(some 27), .load (.ag 2) (.t 5), none⟩,
    ⟨(some 28), .fieldAddr 0 (.t 7), none⟩,
    ⟨(some 29), .load .sc (.t 28), none⟩,
    ⟨(some 30), .fieldAddr 2 (.t 7), none⟩,
    ⟨(some 31), .load .sc (.t 30), none⟩,
    ⟨(some 32), .call 16 [(.t 27), (.t 29), (.t 31)] none, none⟩,
    ⟨(some 26), .mv (.t 32), none⟩,
    ⟨(some 33), .extract (.t 26) 0, none⟩,
    ⟨(some 34), .extract (.t 26) 1, none⟩,
    ⟨(some 9), .alloc [(.d (.int .i64 0)), (.d (.int .i64 0))], none⟩,
    ⟨none, .store (.ag 2) (.t 9) (.t 33), none⟩,
    ⟨(some 10), .mv (.t 34), none⟩])
  (.seq (.reg [⟨(some 36), .load (.ag 2) (.t 5), none⟩,
    ⟨(some 37), .fieldAddr 0 (.t 7), none⟩,
    ⟨(some 38), .load .sc (.t 37), none⟩,
    ⟨(some 39), .call 18 [(.t 36), (.t 38)] none, none⟩,
    ⟨(some 35), .mv (.t 39), none⟩,
    ⟨(some 40), .extract (.t 35) 0, none⟩,
    ⟨(some 41), .extract (.t 35) 1, none⟩,
    ⟨(some 11), .mv (.t 40), none⟩,
    ⟨(some 12), .mv (.t 41), none⟩])
  (.seq (.seq (.reg [⟨(some 42), .mv (.t 10), none⟩,
    ⟨(some 43), .bin .neq (.t 42) (.k (.c (.d (.int .i64 0)))), none⟩,
    ⟨(some 44), .mv (.t 43), none⟩,
    ⟨(some 45), .mv (.t 12), (some (44, false))⟩,
    ⟨(some 46), .bin .neq (.t 45) (.k (.c (.d (.int .i64 0)))), (some (44, false))⟩,
    ⟨(some 47), .pick (.t 44) (.k (.c (.d (.bool true)))) (.t 46), none⟩,
    ⟨(some 48), .mv (.t 47), none⟩,
    ⟨(some 49), .fieldAddr 0 (.t 9), (some (48, false))⟩,
    ⟨(some 50), .load .sc (.t 49), (some (48, false))⟩,
    ⟨(some 51), .mv (.t 6), (some (48, false))⟩,
    ⟨(some 52), .bin .gtr (.t 50) (.t 51), (some (48, false))⟩,
    ⟨(some 53), .pick (.t 48) (.k (.c (.d (.bool true)))) (.t 52), none⟩,
    ⟨(some 54), .mv (.t 53), none⟩,
    ⟨(some 55), .mv (.t 6), (some (54, false))⟩,
    ⟨(some 56), .fieldAddr 1 (.t 9), (some (54, false))⟩,
    ⟨(some 57), .load .sc (.t 56), (some (54, false))⟩,
    ⟨(some 58), .bin .gtr (.t 55) (.t 57), (some (54, false))⟩,
    ⟨(some 59), .pick (.t 54) (.k (.c (.d (.bool true)))) (.t 58), none⟩])
  (.cond (.t 59) (.seq (.reg [⟨(some 4), .mv (.k (.c (.d (.bool false)))), none⟩])
   (.ret))
   (.skip)))
  (.seq (.seq (.reg [⟨(some 60), .mv (.t 11), none⟩,
    ⟨(some 61), .bin .eql (.t 60) (.k (.c (.d (.int .i64 1)))), none⟩])
  (.cond (.t 61) (.seq (.reg [⟨(some 62), .call 9 [] none, none⟩,
     ⟨(some 63), .mv (.t 62), none⟩,
     ⟨(some 64), .fieldAddr 1 (.t 9), (some (63, true))⟩,
     ⟨(some 65), .load .sc (.t 64), (some (63, true))⟩,
     ⟨(some 66), .fieldAddr 0 (.t 9), (some (63, true))⟩,
     ⟨(some 67), .load .sc (.t 66), (some (63, true))⟩,
     ⟨(some 68), .bin .sub (.t 65) (.t 67), (some (63, true))⟩,
     ⟨(some 69), .bin .eql (.t 68) (.k (.c (.d (.int .i64 1048576)))), (some (63, true))⟩,
     ⟨(some 70), .pick (.t 63) (.t 69) (.k (.c (.d (.bool false)))), none⟩,
     ⟨(some 71), .mv (.t 70), none⟩,
     ⟨(some 72), .mv (.t 6), (some (71, true))⟩,
     ⟨(some 73), .fieldAddr 1 (.t 9), (some (71, true))⟩,
     ⟨(some 74), .load .sc (.t 73), (some (71, true))⟩,
     ⟨(some 75), .bin .eql (.t 72) (.t 74), (some (71, true))⟩,
     ⟨(some 76), .fieldAddr 1 (.t 7), (some (71, true))⟩,
     ⟨(some 77), .load .sc (.t 76), (some (71, true))⟩,
     ⟨(some 78), .eqB false (.t 75) (.t 77), (some (71, true))⟩,
     ⟨(some 79), .pick (.t 71) (.t 78) (.k (.c (.d (.bool false)))), none⟩,
     ⟨(some 4), .mv (.t 79), none⟩])
   (.ret))
   (.skip)))
  (.seq (.reg [⟨(some 80), .call 9 [] none, none⟩,
    ⟨(some 81), .mv (.t 80), none⟩,
    ⟨(some 82), .fieldAddr 0 (.t 9), (some (81, true))⟩,
    ⟨(some 83), .load .sc (.t 82), (some (81, true))⟩,
    ⟨(some 84), .mv (.t 6), (some (81, true))⟩,
    ⟨(some 85), .bin .eql (.t 83) (.t 84), (some (81, true))⟩,
    ⟨(some 86), .pick (.t 81) (.t 85) (.k (.c (.d (.bool false)))), none⟩,
    ⟨(some 87), .mv (.t 86), none⟩,
    ⟨(some 88), .fieldAddr 1 (.t 9), (some (87, true))⟩,
    ⟨(some 89), .load .sc (.t 88), (some (87, true))⟩,
    ⟨(some 90), .mv (.t 6), (some (87, true))⟩,
    ⟨(some 91), .bin .eql (.t 89) (.t 90), (some (87, true))⟩,
    ⟨(some 92), .pick (.t 87) (.t 91) (.k (.c (.d (.bool false)))), none⟩,
    ⟨(some 93), .mv (.t 92), none⟩,
    ⟨(some 94), .fieldAddr 1 (.t 7), (some (93, true))⟩,
    ⟨(some 95), .load .sc (.t 94), (some (93, true))⟩,
    ⟨(some 96), .un .not (.t 95), (some (93, true))⟩,
    ⟨(some 97), .pick (.t 93) (.t 96) (.k (.c (.d (.bool false)))), none⟩,
    ⟨(some 4), .mv (.t 97), none⟩])
  (.ret)))))))))),
  [(4, none)]⟩
theorem cf_knu12 : compFn Try.prog { own := [], comp := [], frz := [], nils := [] } Try.f6 = some sf_knu12 := by kernel_rfl
set_option maxHeartbeats 1600000 in
theorem knu12_c (G : Glob) (table : List Int) (htable1 : table.length ≤ maxLen) (htable2 : ∀ n ∈ table, fitI n) (v : Int) (hv1 : -9223372036854775808 ≤ v) (hv2 : v ≤ 9223372036854775807)  : Den Try.prog G 6 [.sl (table.map zD), .int .i64 v] (.w (.c (.d (.bool true)))) := by
  refine den_walk Try.func6 cf_knu12 rfl rfl ?_
  have hm : maxLen ≤ 9223372036854775807 := by decide
  have len := wl_len table
  have ok := wlT_ok table
  have eb := wl_el table
  have cw := wleap_c G table (by omega)
  have cn := wnear_c G 10 (wlT table) v (by omega) eb hv1 hv2
  have nb := nlN_in eb v
  generalize nlN (wlT table) v = t at *
  generalize wlT table = L at *
  have hL : L.length ≤ 9223372036854775807 := by omega
  have c1 := lutc_c G 10 L t hL (by omega) (by omega)
  obtain ⟨s, b, r1, r2, r3⟩ := rd_ex ok (T := t / 1048576) (by omega) (by omega)
  obtain ⟨e1, e2, e3, e4⟩ := utc_of ok r1
  rw [e1, e2, e3, e4] at c1
  have tk : tikIn (t % 1048576) = true := decide_eq_true (by omega)
  obtain ⟨n1, n2⟩ := none_ff r1.some
  have nf : noneB 10 L s false = false := none_f (fun h => nomatch h) n2
  have tb : taiB 10 L s false (t % 1048576) = true := by unfold taiB; rw [ok, r1.sec, tk, nf]; rfl
  have te : taiE 10 L s false (t % 1048576) = 0 := by unfold taiE; rw [ok, r1.sec, tk, nf]; rfl
  have c2 := lnum_c G 10 L s (t % 1048576) hL
  have tv : taiV 10 L s false (t % 1048576) = taiN 10 L s * 1048576 + t % 1048576 := by unfold taiV taiS bI; rw [tb]; simp
  have th : numHi 10 L s (t % 1048576) = (taiN 10 L s + (if stpN 10 L s = 1 then 1 else 0)) * 1048576 + t % 1048576 := by unfold numHi; rw [tb]; rfl
  rw [te, tv, th] at c2
  have c3 := lsts_c G 10 L s hL
  rw [show stpV 10 L s = stpN 10 L s by unfold stpV; rw [ok, r1.sec]; rfl, show secE 10 L s = 0 by unfold secE; rw [ok, r1.sec]; rfl] at c3
  have hT := r1.tai
  unfold taiS at hT
  have tb2 : -64 ≤ taiN 10 L s ∧ taiN 10 L s ≤ 137438953800 := by have := off_in ok s; unfold taiN; omega
  unfold lpD at cw cn c1 c2 c3
  generalize taiN 10 L s = T at *
  generalize stpN 10 L s = P at *
  generalize hK : t % 1048576 = K at *
  have kb : 0 ≤ K ∧ K < 1048576 := by omega
  by_cases hP : P = 1
  · subst hP
    rw [if_pos rfl] at c2
    cases b
    · have hb : bI false = 0 := rfl
      rw [hb] at hT
      have g0 : T * 1048576 + K = t := by omega
      have g1 : (t > t) = False := eq_false (by omega)
      have g2 : (t > (T + 1) * 1048576 + K) = False := eq_false (by omega)
      have g3 : (T + 1) * 1048576 + K - t = 1048576 := by omega
      have g4 : ¬ t = (T + 1) * 1048576 + K := by omega
      rw [g0] at c2
      generalize (T + 1) * 1048576 + K = H at *
      simp only [sf_knu12, putAll, wx, wy, wz, stV, seval, IntWalk.iteOmega, IntWalk.toNatUp, reduceCtorEq]
      refine st_call (cw) rfl (.inl rfl) ?_
      simp only [wx, wy, wz, stV, seval, IntWalk.iteOmega, IntWalk.toNatUp, reduceCtorEq]
      refine st_call (cn) rfl (.inl rfl) ?_
      simp only [wx, wy, wz, stV, seval, IntWalk.iteOmega, IntWalk.toNatUp, reduceCtorEq]
      refine st_call (c1) rfl (.inl rfl) ?_
      simp only [wx, wy, wz, stV, seval, IntWalk.iteOmega, IntWalk.toNatUp, reduceCtorEq]
      refine st_call (c2) rfl (.inl rfl) ?_
      simp only [wx, wy, wz, stV, seval, IntWalk.iteOmega, IntWalk.toNatUp, reduceCtorEq]
      refine st_call (c3) rfl (.inl rfl) ?_
      simp only [g1, g2, wx, wy, wz, stV, seval, IntWalk.iteOmega, IntWalk.toNatUp, reduceCtorEq]
      refine st_call (known12_c G) rfl (.inl rfl) ?_
      simp only [g3, g4, wx, wy, wz, stV, seval, IntWalk.iteOmega, IntWalk.toNatUp, reduceCtorEq]
      exact ret_d1 (by simp only [wx, wy, wz, stV, seval, IntWalk.iteOmega, IntWalk.toNatUp, reduceCtorEq])
    · have hb : bI true = 1 := rfl
      rw [hb] at hT
      have g0 : (T + 1) * 1048576 + K = t := by omega
      have g1 : (T * 1048576 + K > t) = False := eq_false (by omega)
      have g2 : (t > t) = False := eq_false (by omega)
      have g3 : t - (T * 1048576 + K) = 1048576 := by omega
      rw [g0] at c2
      generalize T * 1048576 + K = H at *
      simp only [sf_knu12, putAll, wx, wy, wz, stV, seval, IntWalk.iteOmega, IntWalk.toNatUp, reduceCtorEq]
      refine st_call (cw) rfl (.inl rfl) ?_
      simp only [wx, wy, wz, stV, seval, IntWalk.iteOmega, IntWalk.toNatUp, reduceCtorEq]
      refine st_call (cn) rfl (.inl rfl) ?_
      simp only [wx, wy, wz, stV, seval, IntWalk.iteOmega, IntWalk.toNatUp, reduceCtorEq]
      refine st_call (c1) rfl (.inl rfl) ?_
      simp only [wx, wy, wz, stV, seval, IntWalk.iteOmega, IntWalk.toNatUp, reduceCtorEq]
      refine st_call (c2) rfl (.inl rfl) ?_
      simp only [wx, wy, wz, stV, seval, IntWalk.iteOmega, IntWalk.toNatUp, reduceCtorEq]
      refine st_call (c3) rfl (.inl rfl) ?_
      simp only [g1, g2, wx, wy, wz, stV, seval, IntWalk.iteOmega, IntWalk.toNatUp, reduceCtorEq]
      refine st_call (known12_c G) rfl (.inl rfl) ?_
      simp only [g3, wx, wy, wz, stV, seval, IntWalk.iteOmega, IntWalk.toNatUp, reduceCtorEq]
      exact ret_d1 (by simp only [wx, wy, wz, stV, seval, IntWalk.iteOmega, IntWalk.toNatUp, reduceCtorEq])
  · rw [if_neg hP] at c2
    have hb0 : b = false := by
      cases b
      · rfl
      · exact absurd (n1 rfl) hP
    subst hb0
    have hb : bI false = 0 := rfl
    rw [hb] at hT
    have g0 : T * 1048576 + K = t := by omega
    have g1 : (t > t) = False := eq_false (by omega)
    rw [show (T + 0) * 1048576 + K = t by omega, g0] at c2
    simp only [sf_knu12, putAll, wx, wy, wz, stV, seval, IntWalk.iteOmega, IntWalk.toNatUp, reduceCtorEq]
    refine st_call (cw) rfl (.inl rfl) ?_
    simp only [wx, wy, wz, stV, seval, IntWalk.iteOmega, IntWalk.toNatUp, reduceCtorEq]
    refine st_call (cn) rfl (.inl rfl) ?_
    simp only [wx, wy, wz, stV, seval, IntWalk.iteOmega, IntWalk.toNatUp, reduceCtorEq]
    refine st_call (c1) rfl (.inl rfl) ?_
    simp only [wx, wy, wz, stV, seval, IntWalk.iteOmega, IntWalk.toNatUp, reduceCtorEq]
    refine st_call (c2) rfl (.inl rfl) ?_
    simp only [wx, wy, wz, stV, seval, IntWalk.iteOmega, IntWalk.toNatUp, reduceCtorEq]
    refine st_call (c3) rfl (.inl rfl) ?_
    simp only [g1, hP, wx, wy, wz, stV, seval, IntWalk.iteOmega, IntWalk.toNatUp, reduceCtorEq]
    refine st_call (known12_c G) rfl (.inl rfl) ?_
    simp only [wx, wy, wz, stV, seval, IntWalk.iteOmega, IntWalk.toNatUp, reduceCtorEq]
    exact ret_d1 (by simp only [wx, wy, wz, stV, seval, IntWalk.iteOmega, IntWalk.toNatUp, reduceCtorEq])
def sf_kof12 : SFn := ⟨3, 128,
  .seq (.reg [⟨(some 6), .mv (.k (.c (.d (.bool false)))), none⟩])
  (.seq (.reg [⟨(some 22), .mv (.t 0), none⟩,
    ⟨(some 23), .call 22 [(.t 22)] none, none⟩,
    ⟨(some 7), .alloc [(.d (.int .i64 0)), .nil], none⟩,
    ⟨none, .store (.ag 2) (.t 7) (.t 23), none⟩])
  (.seq (.reg [⟨(some 24), .load (.ag 2) (.t 7), none⟩,
    ⟨(some 25), .mv (.t 1), none⟩,
    ⟨(some 26), .call 23 [(.t 24), (.t 25)] none, none⟩,
    ⟨(some 27), .load (.ag 2) (.t 7), none⟩,
    ⟨(some 28), .mv (.t 2), none⟩,
    ⟨(some 29), .call 23 [(.t 27), (.t 28)] none, none⟩,
    ⟨(some 8), .mv (.t 26), none⟩,
    ⟨(some 9), .mv (.t 29), none⟩])
  (.seq (.reg [⟨(some 31), .load (.ag 2) (.t 7), none⟩,
    ⟨(some 32), .mv (.t 8), none⟩,
    ⟨(some 33), .call 14 [(.t 31), (.t 32)] none, none⟩,
    ⟨(some 30), .mv (.t 33), none⟩,
    ⟨(some 34), .extract (.t 30) 0, none⟩,
    ⟨(some 35), .extract (.t 30) 1, none⟩,
    ⟨(some 10), .alloc [(.d (.int .i64 0)), (.d (.bool false)), (.d (.int .i64 0))], none⟩,
    ⟨none, .store (.ag 3) (.t 10) (.t 34), none⟩,
    ⟨(some 11), .mv (.t 35), none⟩])
  (.seq (.reg [⟨(some 37), .load (.ag 2) (.t 7), none⟩,
    ⟨(some 38), .mv (.t 9), none⟩,
    ⟨(some 39), .call 14 [(.t 37), (.t 38)] none, none⟩,
    ⟨(some 36), .mv (.t 39), none⟩,
    ⟨(some 40), .extract (.t 36) 0, none⟩,
    ⟨(some 41), .extract (.t 36) 1, none⟩,
    ⟨(some 12), .alloc [(.d (.int .i64 0)), (.d (.bool false)), (.d (.int .i64 0))], none⟩,
    ⟨none, .store (.ag 3) (.t 12) (.t 40), none⟩,
    ⟨(some 13), .mv (.t 41), none⟩])
  (.seq (.seq (.reg [⟨(some 42), .mv (.t 11), none⟩,
    ⟨(some 43), .bin .neq (.t 42) (.k (.c (.d (.int .i64 0)))), none⟩,
    ⟨(some 44), .mv (.t 43), none⟩,
    ⟨(some 45), .mv (.t 13), (some (44, false))⟩,
    ⟨(some 46), .bin .neq (.t 45) (.k (.c (.d (.int .i64 0)))), (some (44, false))⟩,
    ⟨(some 47), .pick (.t 44) (.k (.c (.d (.bool true)))) (.t 46), none⟩])
  (.cond (.t 47) (.seq (.reg [⟨(some 6), .mv (.k (.c (.d (.bool false)))), none⟩])
   (.ret))
   (.skip)))
  (.seq (.reg [⟨(some 49), .load (.ag 2) (.t 7), none⟩,
    ⟨(some 50), .fieldAddr 0 (.t 10), none⟩,
    ⟨(some 51), .load .sc (.t 50), none⟩,
    ⟨(some 52), .call 10 [(.t 49), (.t 51)] none, none⟩,
    ⟨(some 48), .mv (.t 52), none⟩,
    ⟨(some 53), .extract (.t 48) 0, none⟩,
    ⟨(some 54), .extract (.t 48) 1, none⟩,
    ⟨(some 14), .mv (.t 53), none⟩,
    ⟨(some 15), .mv (.t 54), none⟩])
  (.seq (.reg [⟨(some 56), .load (.ag 2) (.t 7), none⟩,
    ⟨(some 57), .fieldAddr 0 (.t 12), none⟩,
    ⟨(some 58), .load .sc (.t 57), none⟩,
    ⟨(some 59), .call 10 [(.t 56), (.t 58)] none, none⟩,
    ⟨(some 55), .mv (.t 59), none⟩,
    ⟨(some 60), .extract (.t 55) 0, none⟩,
    ⟨(some 61), .extract (.t 55) 1, none⟩,
    ⟨(some 16), .mv (.t 60), none⟩,
    ⟨(some 17), .mv (.t 61), none⟩])
  (.seq (.reg [⟨(some 63), .load (.ag 2) (.t 7), none⟩,
    ⟨(some 64), .fieldAddr 0 (.t 10), none⟩,
    ⟨(some 65), .load .sc (.t 64), none⟩,
    ⟨(some 66), .bin .add (.t 65) (.k (.c (.d (.int .i64 1)))), none⟩,
    ⟨(some 67), .call 10 [(.t 63), (.t 66)] none, none⟩,
    ⟨(some 62), .mv (.t 67), none⟩,
    ⟨(some 68), .extract (.t 62) 0, none⟩,
    ⟨(some 69), .extract (.t 62) 1, none⟩,
    ⟨(some 18), .mv (.t 68), none⟩,
    ⟨(some 19), .mv (.t 69), none⟩])
  (.seq (.reg [⟨(some 71), .load (.ag 2) (.t 7), none⟩,
    ⟨(some 72), .fieldAddr 0 (.t 10), none⟩,
    ⟨(some 73), .load .sc (.t 72), none⟩,
    ⟨(some 74), .call 18 [(.t 71), (.t 73)] none, none⟩,
    ⟨(some 70), .mv (.t 74), none⟩,
    ⟨(some 75), .extract (.t 70) 0, none⟩,
    ⟨(some 76), .extract (.t 70) 1, none⟩,
    ⟨(some 20), .mv (.t 75), none⟩,
    ⟨(some 21), .mv (.t 76), none⟩])
  (.seq (.seq (.reg [⟨(some 77), .mv (.t 15), none⟩,
    ⟨(some 78), .bin .neq (.t 77) (.k (.c (.d (.int .i64 0)))), none⟩,
    ⟨(some 79), .mv (.t 78), none⟩,
    ⟨(some 80), .mv (.t 17), (some (79, false))⟩,
    ⟨(some 81), .bin .neq (.t 80) (.k (.c (.d (.int .i64 0)))), (some (79, false))⟩,
    ⟨(some 82), .pick (.t 79) (.k (.c (.d (.bool true)))) (.t 81), none⟩,
    ⟨(some 83), .mv (.t 82), none⟩,
    ⟨(some 84), .mv (.t 19), (some (83, false))⟩,
    ⟨(some 85), .bin .neq (.t 84) (.k (.c (.d (.int .i64 0)))), (some (83, false))⟩,
    ⟨(some 86), .pick (.t 83) (.k (.c (.d (.bool true)))) (.t 85), none⟩,
    ⟨(some 87), .mv (.t 86), none⟩,
    ⟨(some 88), .mv (.t 21), (some (87, false))⟩,
    ⟨(some 89), .bin .neq (.t 88) (.k (.c (.d (.int .i64 0)))), (some (87, false))⟩,
    ⟨(some 90), .pick (.t 87) (.k (.c (.d (.bool true)))) (.t 89), none⟩,
    ⟨(some 91), .mv (.t 90), none⟩,
    ⟨(some 92), .mv (.t 18), (some (91, false))⟩,
    ⟨(some 93), .mv (.t 14), (some (91, false))⟩,
    ⟨(some 94), .bin .sub (.t 92) (.t 93), (some (91, false))⟩,
    ⟨(some 95), .mv (.t 20), (some (91, false))⟩,
    ⟨(some 96), .bin .neq (.t 94) (.t 95), (some (91, false))⟩,
    ⟨(some 97), .pick (.t 91) (.k (.c (.d (.bool true)))) (.t 96), none⟩])
  (.cond (.t 97) (.seq (.reg [⟨(some 6), .mv (.k (.c (.d (.bool false)))), none⟩])
   (.ret))
   (.skip)))
  (.seq (.seq (.reg [⟨(some 98), .fieldAddr 1 (.t 10), none⟩,
    ⟨(some 99), .load .sc (.t 98), none⟩,
    ⟨(some 100), .mv (.t 99), none⟩,
    ⟨(some 101), .fieldAddr 1 (.t 12), (some (100, false))⟩,
    ⟨(some 102), .load .sc (.t 101), (some (100, false))⟩,
    ⟨(some 103), .pick (.t 100) (.k (.c (.d (.bool true)))) (.t 102), none⟩])
  (.cond (.t 103) (.seq (.reg [⟨(some 104), .call 9 [] none, none⟩,
     ⟨(some 6), .mv (.t 104), none⟩])
   (.ret))
   (.skip)))
  (.seq (.reg [⟨(some 105), .call 9 [] none, none⟩,
    ⟨(some 106), .mv (.t 105), none⟩,
    ⟨(some 107), .mv (.t 8), (some (106, true))⟩,
    ⟨(some 108), .mv (.t 9), (some (106, true))⟩,
    ⟨(some 109), .bin .sub (.t 107) (.t 108), (some (106, true))⟩,
    ⟨(some 110), .fieldAddr 0 (.t 10), (some (106, true))⟩,
    ⟨(some 111), .load .sc (.t 110), (some (106, true))⟩,
    ⟨(some 112), .fieldAddr 0 (.t 12), (some (106, true))⟩,
    ⟨(some 113), .load .sc (.t 112), (some (106, true))⟩,
    ⟨(some 114), .bin .sub (.t 111) (.t 113), (some (106, true))⟩,
    ⟨(some 115), .mv (.t 14), (some (106, true))⟩,
    ⟨(some 116), .bin .add (.t 114) (.t 115), (some (106, true))⟩,
    ⟨(some 117), .mv (.t 16), (some (106, true))⟩,
    ⟨(some 118), .bin .sub (.t 116) (.t 117), (some (106, true))⟩,
    ⟨(some 119), .bin .shl (.t 118) (.k (.c (.d (.int .u64 20)))), (some (106, true))⟩,
    ⟨(some 120), .fieldAddr 2 (.t 10), (some (106, true))⟩,
    ⟨(some 121), .load .sc (.t 120), (some (106, true))⟩,
    ⟨(some 122), .bin .add (.t 119) (.t 121), (some (106, true))⟩,
    ⟨(some 123), .fieldAddr 2 (.t 12), (some (106, true))⟩,
    ⟨(some 124), .load .sc (.t 123), (some (106, true))⟩,
    ⟨(some 125), .bin .sub (.t 122) (.t 124), (some (106, true))⟩,
    ⟨(some 126), .bin .eql (.t 109) (.t 125), (some (106, true))⟩,
    ⟨(some 127), .pick (.t 106) (.t 126) (.k (.c (.d (.bool false)))), none⟩,
    ⟨(some 6), .mv (.t 127), none⟩])
  (.ret))))))))))))),
  [(6, none)]⟩
theorem cf_kof12 : compFn Try.prog { own := [], comp := [], frz := [], nils := [] } Try.f7 = some sf_kof12 := by kernel_rfl
set_option maxHeartbeats 1600000 in
theorem kof12_c (G : Glob) (table : List Int) (htable1 : table.length ≤ maxLen) (htable2 : ∀ n ∈ table, fitI n) (a : Int) (ha1 : -9223372036854775808 ≤ a) (ha2 : a ≤ 9223372036854775807) (b : Int) (hb1 : -9223372036854775808 ≤ b) (hb2 : b ≤ 9223372036854775807)  : Den Try.prog G 7 [.sl (table.map zD), .int .i64 a, .int .i64 b] (.w (.c (.d (.bool true)))) := by
  refine den_walk Try.func7 cf_kof12 rfl rfl ?_
  have hm : maxLen ≤ 9223372036854775807 := by decide
  have len := wl_len table
  have ok := wlT_ok table
  have eb := wl_el table
  have cw := wleap_c G table (by omega)
  have cn := wnear_c G 10 (wlT table) a (by omega) eb ha1 ha2
  have nb := nlN_in eb a
  have cm := wnear_c G 10 (wlT table) b (by omega) eb hb1 hb2
  have mb := nlN_in eb b
  generalize nlN (wlT table) a = t at *
  generalize nlN (wlT table) b = w at *
  generalize wlT table = L at *
  have hL : L.length ≤ 9223372036854775807 := by omega
  have c1 := lutc_c G 10 L t hL (by omega) (by omega)
  have c2 := lutc_c G 10 L w hL (by omega) (by omega)
  obtain ⟨s, x, r1, r2, r3⟩ := rd_ex ok (T := t / 1048576) (by omega) (by omega)
  obtain ⟨s', y, q1, q2, q3⟩ := rd_ex ok (T := w / 1048576) (by omega) (by omega)
  obtain ⟨e1, e2, e3, e4⟩ := utc_of ok r1
  obtain ⟨f1, f2, f3, f4⟩ := utc_of ok q1
  rw [e1, e2, e3, e4] at c1
  rw [f1, f2, f3, f4] at c2
  have of : ∀ s : Int, secIn s = true → offV 10 L s = offN 10 L s ∧ secE 10 L s = 0 ∧ stpV 10 L s = stpN 10 L s := fun s h => by
    unfold offV secE stpV; rw [ok, h]; exact ⟨rfl, rfl, rfl⟩
  have s1 : secIn (s + 1) = true := sec_t (by omega)
  have c3 := lofs_c G 10 L s hL
  rw [(of s r1.sec).1, (of s r1.sec).2.1] at c3
  have c4 := lofs_c G 10 L s' hL
  rw [(of s' q1.sec).1, (of s' q1.sec).2.1] at c4
  have c5 := lofs_c G 10 L (s + 1) hL
  rw [(of _ s1).1, (of _ s1).2.1] at c5
  have c6 := lsts_c G 10 L s hL
  rw [(of s r1.sec).2.2, (of s r1.sec).2.1] at c6
  unfold stpN at c6
  have o1 := off_in ok s
  have o2 := off_in ok s'
  have o3 := off_in ok (s + 1)
  have t1 := r1.tai
  have t2 := q1.tai
  unfold taiS taiN at t1 t2
  unfold lpD at cw cn cm c1 c2 c3 c4 c5 c6
  generalize offN 10 L (s + 1) = N at *
  generalize offN 10 L s = P at *
  generalize offN 10 L s' = Q at *
  generalize hK : t % 1048576 = K at *
  generalize hK' : w % 1048576 = K' at *
  cases x
  · cases y
    · have hb : bI false = 0 := rfl
      rw [hb] at t1 t2
      have g1 : t - w = (s - s' + P - Q) * 1048576 + K - K' := by omega
      simp only [sf_kof12, putAll, wx, wy, wz, stV, seval, IntWalk.iteOmega, IntWalk.toNatUp, reduceCtorEq]
      refine st_call (cw) rfl (.inl rfl) ?_
      simp only [wx, wy, wz, stV, seval, IntWalk.iteOmega, IntWalk.toNatUp, reduceCtorEq]
      refine st_call (cn) rfl (.inl rfl) ?_
      simp only [wx, wy, wz, stV, seval, IntWalk.iteOmega, IntWalk.toNatUp, reduceCtorEq]
      refine st_call (cm) rfl (.inl rfl) ?_
      simp only [wx, wy, wz, stV, seval, IntWalk.iteOmega, IntWalk.toNatUp, reduceCtorEq]
      refine st_call (c1) rfl (.inl rfl) ?_
      simp only [wx, wy, wz, stV, seval, IntWalk.iteOmega, IntWalk.toNatUp, reduceCtorEq]
      refine st_call (c2) rfl (.inl rfl) ?_
      simp only [wx, wy, wz, stV, seval, IntWalk.iteOmega, IntWalk.toNatUp, reduceCtorEq]
      refine st_call (c3) rfl (.inl rfl) ?_
      simp only [wx, wy, wz, stV, seval, IntWalk.iteOmega, IntWalk.toNatUp, reduceCtorEq]
      refine st_call (c4) rfl (.inl rfl) ?_
      simp only [wx, wy, wz, stV, seval, IntWalk.iteOmega, IntWalk.toNatUp, reduceCtorEq]
      refine st_call (c5) rfl (.inl rfl) ?_
      simp only [wx, wy, wz, stV, seval, IntWalk.iteOmega, IntWalk.toNatUp, reduceCtorEq]
      refine st_call (c6) rfl (.inl rfl) ?_
      simp only [wx, wy, wz, stV, seval, IntWalk.iteOmega, IntWalk.toNatUp, reduceCtorEq]
      refine st_call (known12_c G) rfl (.inl rfl) ?_
      simp only [bI64, g1, wx, wy, wz, stV, seval, IntWalk.iteOmega, IntWalk.toNatUp, reduceCtorEq]
      exact ret_d1 (by simp only [wx, wy, wz, stV, seval, IntWalk.iteOmega, IntWalk.toNatUp, reduceCtorEq])
    · simp only [sf_kof12, putAll, wx, wy, wz, stV, seval, IntWalk.iteOmega, IntWalk.toNatUp, reduceCtorEq]
      refine st_call (cw) rfl (.inl rfl) ?_
      simp only [wx, wy, wz, stV, seval, IntWalk.iteOmega, IntWalk.toNatUp, reduceCtorEq]
      refine st_call (cn) rfl (.inl rfl) ?_
      simp only [wx, wy, wz, stV, seval, IntWalk.iteOmega, IntWalk.toNatUp, reduceCtorEq]
      refine st_call (cm) rfl (.inl rfl) ?_
      simp only [wx, wy, wz, stV, seval, IntWalk.iteOmega, IntWalk.toNatUp, reduceCtorEq]
      refine st_call (c1) rfl (.inl rfl) ?_
      simp only [wx, wy, wz, stV, seval, IntWalk.iteOmega, IntWalk.toNatUp, reduceCtorEq]
      refine st_call (c2) rfl (.inl rfl) ?_
      simp only [wx, wy, wz, stV, seval, IntWalk.iteOmega, IntWalk.toNatUp, reduceCtorEq]
      refine st_call (c3) rfl (.inl rfl) ?_
      simp only [wx, wy, wz, stV, seval, IntWalk.iteOmega, IntWalk.toNatUp, reduceCtorEq]
      refine st_call (c4) rfl (.inl rfl) ?_
      simp only [wx, wy, wz, stV, seval, IntWalk.iteOmega, IntWalk.toNatUp, reduceCtorEq]
      refine st_call (c5) rfl (.inl rfl) ?_
      simp only [wx, wy, wz, stV, seval, IntWalk.iteOmega, IntWalk.toNatUp, reduceCtorEq]
      refine st_call (c6) rfl (.inl rfl) ?_
      simp only [wx, wy, wz, stV, seval, IntWalk.iteOmega, IntWalk.toNatUp, reduceCtorEq]
      refine st_call (known12_c G) rfl (.inl rfl) ?_
      simp only [wx, wy, wz, stV, seval, IntWalk.iteOmega, IntWalk.toNatUp, reduceCtorEq]
      exact ret_d1 (by simp only [wx, wy, wz, stV, seval, IntWalk.iteOmega, IntWalk.toNatUp, reduceCtorEq])
  · simp only [sf_kof12, putAll, wx, wy, wz, stV, seval, IntWalk.iteOmega, IntWalk.toNatUp, reduceCtorEq]
    refine st_call (cw) rfl (.inl rfl) ?_
    simp only [wx, wy, wz, stV, seval, IntWalk.iteOmega, IntWalk.toNatUp, reduceCtorEq]
    refine st_call (cn) rfl (.inl rfl) ?_
    simp only [wx, wy, wz, stV, seval, IntWalk.iteOmega, IntWalk.toNatUp, reduceCtorEq]
    refine st_call (cm) rfl (.inl rfl) ?_
    simp only [wx, wy, wz, stV, seval, IntWalk.iteOmega, IntWalk.toNatUp, reduceCtorEq]
    refine st_call (c1) rfl (.inl rfl) ?_
    simp only [wx, wy, wz, stV, seval, IntWalk.iteOmega, IntWalk.toNatUp, reduceCtorEq]
    refine st_call (c2) rfl (.inl rfl) ?_
    simp only [wx, wy, wz, stV, seval, IntWalk.iteOmega, IntWalk.toNatUp, reduceCtorEq]
    refine st_call (c3) rfl (.inl rfl) ?_
    simp only [wx, wy, wz, stV, seval, IntWalk.iteOmega, IntWalk.toNatUp, reduceCtorEq]
    refine st_call (c4) rfl (.inl rfl) ?_
    simp only [wx, wy, wz, stV, seval, IntWalk.iteOmega, IntWalk.toNatUp, reduceCtorEq]
    refine st_call (c5) rfl (.inl rfl) ?_
    simp only [wx, wy, wz, stV, seval, IntWalk.iteOmega, IntWalk.toNatUp, reduceCtorEq]
    refine st_call (c6) rfl (.inl rfl) ?_
    simp only [wx, wy, wz, stV, seval, IntWalk.iteOmega, IntWalk.toNatUp, reduceCtorEq]
    refine st_call (known12_c G) rfl (.inl rfl) ?_
    simp only [wx, wy, wz, stV, seval, IntWalk.iteOmega, IntWalk.toNatUp, reduceCtorEq]
    exact ret_d1 (by simp only [wx, wy, wz, stV, seval, IntWalk.iteOmega, IntWalk.toNatUp, reduceCtorEq])
end Go.Proofs.Ytefoldolhgakmaa
