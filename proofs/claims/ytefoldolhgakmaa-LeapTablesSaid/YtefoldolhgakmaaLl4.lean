/- The laws of layer 12: a further element of a table. Own work. -/
import Derived.Test.YtefoldolhgakmaaLl3
set_option linter.unusedVariables false
set_option linter.unusedSimpArgs false
namespace Go.Proofs.Ytefoldolhgakmaa
open Go.RowKit

theorem wlA_mono (tb : List Int) : ∀ (n i : Nat), i ≤ n → wlA tb i ≤ wlA tb n
  | 0, i, h => by obtain rfl : i = 0 := by omega
                  exact Int.le_refl _
  | n + 1, i, h => by
    rcases Nat.lt_or_ge i (n + 1) with k | k
    · have ih := wlA_mono tb n i (by omega)
      have := withinN_range (tb.getD (2 * n) 0) 300 (by decide)
      rw [wlA_s]; omega
    · obtain rfl : i = n + 1 := by omega
      exact Int.le_refl _
/-- Behind the last element. -/
theorem off_end (tb : List Int) (n : Nat) (s : Int) (h : wlA tb n ≤ s) : offN 10 (wlL tb n) s = wlO tb n := by
  rw [off_at (wlL tb n) 10 s n (by rw [wlL_len]; exact Nat.le_refl _) (fun j hj => ?_) (fun h => by rw [wlL_len] at h; omega), wlL_last tb n n (Nat.le_refl _)]
  rw [wlL_g tb n j hj]
  exact Int.le_trans (wlA_mono tb n (j + 1) (by omega)) h
theorem lpG_app {l : List Lp} {p : Lp} {i : Nat} (h : i < l.length) : lpG (l ++ [p]) i = lpG l i := by
  unfold lpG
  rw [List.getD_eq_getElem?_getD, List.getElem?_append_left h, ← List.getD_eq_getElem?_getD]
theorem lpG_end {l : List Lp} {p : Lp} : lpG (l ++ [p]) l.length = p := by
  unfold lpG
  rw [List.getD_eq_getElem?_getD, List.getElem?_append_right (Nat.le_refl _), Nat.sub_self]; rfl
theorem lastO_app {f : Int} {l : List Lp} {p : Lp} {i : Nat} (h : i ≤ l.length) : lastO f (l ++ [p]) i = lastO f l i := by
  cases i with
  | zero => rfl
  | succ i => rw [lastO_s, lastO_s, lpG_app (by omega)]
/-- A further element. -/
theorem ok_snoc {f : Int} {l : List Lp} {p : Lp} (h : okB f l = true) (hl : l.length < 64) (h1 : 86400 ≤ p.1 ∧ p.1 ≤ 137438953472 ∧ p.1 % 86400 = 0) (h2 : 0 < l.length → (lpG l (l.length - 1)).1 + 172800 ≤ p.1) (h3 : p.2 = lastO f l l.length + 1) : okB f (l ++ [p]) = true := by
  obtain ⟨a, b⟩ := okB_iff.1 h
  refine okB_iff.2 ⟨⟨a.1, a.2.1, by rw [List.length_append]; simp only [List.length_cons, List.length_nil]; omega⟩, fun i hi => ?_⟩
  rw [List.length_append] at hi
  simp only [List.length_cons, List.length_nil] at hi
  rcases Nat.lt_or_ge i l.length with k | k
  · have := b i k
    unfold okE at this ⊢
    rw [lpG_app k, lastO_app (by omega)]
    rcases i with _ | i
    · simpa using this
    · rw [Nat.add_sub_cancel] at this ⊢
      rw [lpG_app (by omega)]
      exact this
  · obtain rfl : i = l.length := by omega
    refine decide_eq_true ?_
    rw [lpG_end, lastO_app (Nat.le_refl _)]
    refine ⟨h1.1, h1.2.1, h1.2.2, fun k => ?_, .inl h3⟩
    rw [lpG_app (by omega)]
    exact h2 k
theorem wl_snoc (tb : List Int) (n : Nat) (hn : n ≤ 4) (c : Int) (hc : 2 ≤ c ∧ c ≤ 202) : okB 10 (wlL tb n ++ [(wlA tb n + 86400 * c, wlO tb n + 1)]) = true ∧ elB (wlL tb n ++ [(wlA tb n + 86400 * c, wlO tb n + 1)]) := by
  have a := wlA_b tb n
  have o := wlO_b tb n
  have md : ∀ j, wlA tb j % 86400 = 0 := by
    intro j
    induction j with
    | zero => rfl
    | succ j ih => rw [wlA_s]; omega
  have ml := md n
  refine ⟨ok_snoc (wlL_ok tb n hn) (by rw [wlL_len]; omega) ⟨by simp only; omega, by simp only; omega, by simp only; omega⟩ (fun h => ?_) ?_, fun i hi => ?_⟩
  · rw [wlL_len] at h ⊢
    rw [wlL_g tb n (n - 1) (by omega), show n - 1 + 1 = n by omega]
    simp only; omega
  · rw [wlL_len, wlL_last tb n n (Nat.le_refl _)]
  · rw [List.length_append, wlL_len] at hi
    simp only [List.length_cons, List.length_nil] at hi
    rcases Nat.lt_or_ge i n with k | k
    · rw [lpG_app (by rw [wlL_len]; exact k), wlL_g tb n i k]
      have a := wlA_b tb (i + 1)
      have o := wlO_b tb (i + 1)
      simp only; omega
    · obtain rfl : i = (wlL tb n).length := by rw [wlL_len]; omega
      rw [lpG_end]
      simp only; omega
/-- Readings in a table and in one with a further element. -/
theorem rd_snoc {l : List Lp} {A O T : Int} (h : okB 10 l = true) (h' : okB 10 (l ++ [(A, O + 1)]) = true) (he : ∀ s, A - 172800 ≤ s → offN 10 l s = O) (hA : 172800 ≤ A ∧ A ≤ 200000000) {s s' : Int} {b b' : Bool} (k : IsR 10 l T s b) (k' : IsR 10 (l ++ [(A, O + 1)]) T s' b') :
    (T < A + O → s' = s ∧ b' = b) ∧ (T = A + O → s = A ∧ s' = A - 1 ∧ b' = true) ∧ (A + O < T → s = s' + 1 ∧ b' = false) := by
  have sn : ∀ s, offN 10 (l ++ [(A, O + 1)]) s = if A ≤ s then O + 1 else offN 10 l s := fun s => off_snoc (A, O + 1) (okB_leap h') s
  have st : ∀ s, A - 172800 ≤ s → stpN 10 l s = 0 := fun s hs => by unfold stpN; rw [he s hs, he (s + 1) (by omega)]; omega
  have ob := off_in h s
  have ob' := off_in h' s'
  refine ⟨fun hT => ?_, fun hT => ?_, fun hT => ?_⟩
  · have hs : s < A := by
      rcases Int.lt_or_le s A with e | e
      · exact e
      · have a1 := (isR_at h k).1
        have := tai_mono (okB_leap h) e
        have e2 : taiN 10 l A = A + O := by unfold taiN; rw [he A (by omega)]
        omega
    have o1 : offN 10 (l ++ [(A, O + 1)]) s = offN 10 l s := by rw [sn, if_neg (by omega)]
    have r : IsR 10 (l ++ [(A, O + 1)]) T s b := by
      obtain ⟨n1, n2⟩ := none_ff k.some
      by_cases e : s + 1 < A
      · have sp : stpN 10 (l ++ [(A, O + 1)]) s = stpN 10 l s := by
          unfold stpN; rw [o1, sn, if_neg (by omega)]
        refine ⟨k.sec, none_f (fun hb => by rw [sp]; exact n1 hb) (by rw [sp]; exact n2), ?_⟩
        have t := k.tai
        unfold taiS taiN at t ⊢
        rw [o1]; exact t
      · have z := st s (by omega)
        have hb : b = false := by
          cases b
          · rfl
          · have := n1 rfl; omega
        subst hb
        have sp : stpN 10 (l ++ [(A, O + 1)]) s = 1 := by
          unfold stpN; rw [o1, sn, if_pos (by omega), he s (by omega)]; omega
        refine ⟨k.sec, none_f (fun hb => nomatch hb) (by omega), ?_⟩
        have t := k.tai
        unfold taiS taiN at t ⊢
        rw [o1]; exact t
    have := isR_uniq h' k' r
    exact this
  · have r : IsR 10 l T A false := by
      refine ⟨sec_t (by omega), none_f (fun hb => nomatch hb) (by rw [st A (by omega)]; decide), ?_⟩
      unfold taiS taiN bI
      rw [he A (by omega)]; simp; omega
    have r' : IsR 10 (l ++ [(A, O + 1)]) T (A - 1) true := by
      have o1 : offN 10 (l ++ [(A, O + 1)]) (A - 1) = O := by rw [sn, if_neg (by omega), he _ (by omega)]
      have sp : stpN 10 (l ++ [(A, O + 1)]) (A - 1) = 1 := by
        unfold stpN; rw [o1, sn, if_pos (by omega)]; omega
      refine ⟨sec_t (by omega), none_f (fun _ => sp) (by omega), ?_⟩
      unfold taiS taiN bI
      rw [o1]; simp; omega
    have e1 := isR_uniq h k r
    have e2 := isR_uniq h' k' r'
    exact ⟨e1.1, e2.1, e2.2⟩
  · have ge : A ≤ s := by
      rcases Int.lt_or_le s A with e | e
      · have a1 := (isR_at h k).2
        have := tai_mono (okB_leap h) (show s + 1 ≤ A by omega)
        have e2 : taiN 10 l A = A + O := by unfold taiN; rw [he A (by omega)]
        omega
      · exact e
    have hb : b = false := by
      obtain ⟨n1, n2⟩ := none_ff k.some
      cases b
      · rfl
      · have := n1 rfl
        rw [st s (by omega)] at this; omega
    subst hb
    have t := k.tai
    unfold taiS taiN bI at t
    rw [he s (by omega)] at t
    simp at t
    have sb := sec_i k.sec
    have o1 : offN 10 (l ++ [(A, O + 1)]) (s - 1) = O + 1 := by rw [sn, if_pos (by omega)]
    have sp : stpN 10 (l ++ [(A, O + 1)]) (s - 1) = 0 := by
      unfold stpN; rw [o1, sn, if_pos (by omega)]; omega
    have r' : IsR 10 (l ++ [(A, O + 1)]) T (s - 1) false := by
      refine ⟨sec_t (by omega), none_f (fun hb => nomatch hb) (by omega), ?_⟩
      unfold taiS taiN bI
      rw [o1]; simp; omega
    have e2 := isR_uniq h' k' r'
    exact ⟨by omega, e2.2⟩
theorem shl20 (x : Int) (h : -1000000000 ≤ x ∧ x ≤ 1000000000) (t : Int) : (t < x * 1048576) ↔ t / 1048576 < x := by omega
def sf_kta12 : SFn := ⟨3, 139,
  .seq (.reg [⟨(some 6), .mv (.k (.c (.d (.bool false)))), none⟩])
  (.seq (.reg [⟨(some 17), .mv (.t 0), none⟩,
    ⟨(some 18), .call 22 [(.t 17)] none, none⟩,
    ⟨(some 7), .alloc [(.d (.int .i64 0)), .nil], none⟩,
    ⟨none, .store (.ag 2) (.t 7) (.t 18), none⟩])
  (.seq (.reg [⟨(some 8), .mv (.k (.c (.d (.int .i64 1728000)))), none⟩,
    ⟨(some 9), .mv (.k (.c (.d (.int .i64 10)))), none⟩])
  (.seq (.seq (.reg [⟨(some 19), .fieldAddr 1 (.t 7), none⟩,
    ⟨(some 20), .loadB .sc (.t 19), none⟩,
    ⟨(some 21), .len (.t 20), none⟩,
    ⟨(some 22), .bin .gtr (.t 21) (.k (.c (.d (.int .i64 0)))), none⟩])
  (.cond (.t 22) (.reg [⟨(some 23), .fieldAddr 1 (.t 7), none⟩,
     ⟨(some 24), .loadB .sc (.t 23), none⟩,
     ⟨(some 25), .fieldAddr 1 (.t 7), none⟩,
     ⟨(some 26), .loadB .sc (.t 25), none⟩,
     ⟨(some 27), .len (.t 26), none⟩,
     ⟨(some 28), .bin .sub (.t 27) (.k (.c (.d (.int .i64 1)))), none⟩,
     ⟨(some 29), .idxSl 2 (.t 24) (.t 28), none⟩,
     ⟨(some 30), .fieldAddr 0 (.t 29), none⟩,
     ⟨(some 31), .load .sc (.t 30), none⟩,
     ⟨(some 32), .fieldAddr 1 (.t 7), none⟩,
     ⟨(some 33), .loadB .sc (.t 32), none⟩,
     ⟨(some 34), .fieldAddr 1 (.t 7), none⟩,
     ⟨(some 35), .loadB .sc (.t 34), none⟩,
     ⟨(some 36), .len (.t 35), none⟩,
     ⟨(some 37), .bin .sub (.t 36) (.k (.c (.d (.int .i64 1)))), none⟩,
     ⟨(some 38), .idxSl 2 (.t 33) (.t 37), none⟩,
     ⟨(some 39), .fieldAddr 1 (.t 38), none⟩,
     ⟨(some 40), .load .sc (.t 39), none⟩,
     ⟨(some 8), .mv (.t 31), none⟩,
     ⟨(some 9), .mv (.t 40), none⟩])
   (.skip)))
  (.seq (.reg [⟨(some 41), .mv (.t 8), none⟩,
    ⟨(some 42), .mv (.t 2), none⟩,
    ⟨(some 43), .call 24 [(.t 42), (.k (.c (.d (.int .i64 200))))] none, none⟩,
    ⟨(some 44), .bin .add (.k (.c (.d (.int .i64 2)))) (.t 43), none⟩,
    ⟨(some 45), .bin .mul (.k (.c (.d (.int .i64 86400)))) (.t 44), none⟩,
    ⟨(some 46), .bin .add (.t 41) (.t 45), none⟩,
    ⟨(some 10), .mv (.t 46), none⟩])
  (.seq (.reg [⟨(some 47), .fieldAddr 0 (.t 7), none⟩,
    ⟨(some 48), .loadB .sc (.t 47), none⟩,
    ⟨(some 49), .bldSl false 0 2 (.agg [(.int .i64 0), (.int .i64 0)]) [], none⟩,
    ⟨(some 50), .fieldAddr 1 (.t 7), none⟩,
    ⟨(some 51), .loadB .sc (.t 50), none⟩,
    ⟨(some 52), .appN false 2 16 (.t 49) (.t 51), none⟩,
    ⟨(some 53), .mv (.t 10), none⟩,
    ⟨(some 54), .mv (.t 9), none⟩,
    ⟨(some 55), .bin .add (.t 54) (.k (.c (.d (.int .i64 1)))), none⟩,
    ⟨(some 56), .build [(.d (.int .i64 0)), (.d (.int .i64 0))] [(0, 1, (.t 53)), (1, 1, (.t 55))], none⟩,
    ⟨(some 57), .bldSl false 1 2 (.agg [(.int .i64 0), (.int .i64 0)]) [(0, (.t 56))], none⟩,
    ⟨(some 58), .app false 2 16 (.t 52) (.t 57), none⟩,
    ⟨(some 59), .build [(.d (.int .i64 0)), .nil] [(0, 1, (.t 48)), (1, 1, (.t 58))], none⟩,
    ⟨(some 11), .alloc [(.d (.int .i64 0)), .nil], none⟩,
    ⟨none, .store (.ag 2) (.t 11) (.t 59), none⟩])
  (.seq (.reg [⟨(some 60), .loadB (.ag 2) (.t 11), none⟩,
    ⟨(some 61), .mv (.t 1), none⟩,
    ⟨(some 62), .call 23 [(.t 60), (.t 61)] none, none⟩,
    ⟨(some 12), .mv (.t 62), none⟩])
  (.seq (.reg [⟨(some 64), .loadB (.ag 2) (.t 7), none⟩,
    ⟨(some 65), .mv (.t 12), none⟩,
    ⟨(some 66), .call 14 [(.t 64), (.t 65)] none, none⟩,
    ⟨(some 63), .mv (.t 66), none⟩,
    ⟨(some 67), .extract (.t 63) 0, none⟩,
    ⟨(some 68), .extract (.t 63) 1, none⟩,
    ⟨(some 13), .alloc [(.d (.int .i64 0)), (.d (.bool false)), (.d (.int .i64 0))], none⟩,
    ⟨none, .store (.ag 3) (.t 13) (.t 67), none⟩,
    ⟨(some 14), .mv (.t 68), none⟩])
  (.seq (.reg [⟨(some 70), .loadB (.ag 2) (.t 11), none⟩,
    ⟨(some 71), .mv (.t 12), none⟩,
    ⟨(some 72), .call 14 [(.t 70), (.t 71)] none, none⟩,
    ⟨(some 69), .mv (.t 72), none⟩,
    ⟨(some 73), .extract (.t 69) 0, none⟩,
    ⟨(some 74), .extract (.t 69) 1, none⟩,
    ⟨(some 15), .alloc [(.d (.int .i64 0)), (.d (.bool false)), (.d (.int .i64 0))], none⟩,
    ⟨none, .store (.ag 3) (.t 15) (.t 73), none⟩,
    ⟨(some 16), .mv (.t 74), none⟩])
  (.seq (.seq (.reg [⟨(some 75), .mv (.t 14), none⟩,
    ⟨(some 76), .bin .neq (.t 75) (.k (.c (.d (.int .i64 0)))), none⟩,
    ⟨(some 77), .mv (.t 76), none⟩,
    ⟨(some 78), .mv (.t 16), (some (77, false))⟩,
    ⟨(some 79), .bin .neq (.t 78) (.k (.c (.d (.int .i64 0)))), (some (77, false))⟩,
    ⟨(some 80), .pick (.t 77) (.k (.c (.d (.bool true)))) (.t 79), none⟩])
  (.cond (.t 80) (.seq (.reg [⟨(some 6), .mv (.k (.c (.d (.bool false)))), none⟩])
   (.ret))
   (.skip)))
  (.seq (.seq (.reg [⟨(some 81), .mv (.t 12), none⟩,
    ⟨(some 82), .mv (.t 10), none⟩,
    ⟨(some 83), .mv (.t 9), none⟩,
    ⟨(some 84), .bin .add (.t 82) (.t 83), none⟩,
    ⟨(some 85), .bin .shl (.t 84) (.k (.c (.d (.int .u64 20)))), none⟩,
    ⟨(some 86), .bin .lss (.t 81) (.t 85), none⟩])
  (.cond (.t 86) (.seq (.reg [⟨(some 87), .call 9 [] none, none⟩,
     ⟨(some 88), .mv (.t 87), none⟩,
     ⟨(some 89), .loadB (.ag 3) (.t 13), (some (88, true))⟩,
     ⟨(some 90), .loadB (.ag 3) (.t 15), (some (88, true))⟩,
     ⟨(some 91), .eqA false [0, 1, 0] (.t 89) (.t 90), (some (88, true))⟩,
     ⟨(some 92), .pick (.t 88) (.t 91) (.k (.c (.d (.bool false)))), none⟩,
     ⟨(some 6), .mv (.t 92), none⟩])
   (.ret))
   (.skip)))
  (.seq (.seq (.reg [⟨(some 93), .mv (.t 12), none⟩,
    ⟨(some 94), .mv (.t 10), none⟩,
    ⟨(some 95), .mv (.t 9), none⟩,
    ⟨(some 96), .bin .add (.t 94) (.t 95), none⟩,
    ⟨(some 97), .bin .add (.t 96) (.k (.c (.d (.int .i64 1)))), none⟩,
    ⟨(some 98), .bin .shl (.t 97) (.k (.c (.d (.int .u64 20)))), none⟩,
    ⟨(some 99), .bin .lss (.t 93) (.t 98), none⟩])
  (.cond (.t 99) (.seq (.reg [⟨(some 100), .call 9 [] none, none⟩,
     ⟨(some 101), .mv (.t 100), none⟩,
     ⟨(some 102), .fieldAddr 1 (.t 15), (some (101, true))⟩,
     ⟨(some 103), .loadB .sc (.t 102), (some (101, true))⟩,
     ⟨(some 104), .pick (.t 101) (.t 103) (.k (.c (.d (.bool false)))), none⟩,
     ⟨(some 105), .mv (.t 104), none⟩,
     ⟨(some 106), .fieldAddr 0 (.t 15), (some (105, true))⟩,
     ⟨(some 107), .loadB .sc (.t 106), (some (105, true))⟩,
     ⟨(some 108), .mv (.t 10), (some (105, true))⟩,
     ⟨(some 109), .bin .sub (.t 108) (.k (.c (.d (.int .i64 1)))), (some (105, true))⟩,
     ⟨(some 110), .bin .eql (.t 107) (.t 109), (some (105, true))⟩,
     ⟨(some 111), .pick (.t 105) (.t 110) (.k (.c (.d (.bool false)))), none⟩,
     ⟨(some 112), .mv (.t 111), none⟩,
     ⟨(some 113), .fieldAddr 0 (.t 13), (some (112, true))⟩,
     ⟨(some 114), .loadB .sc (.t 113), (some (112, true))⟩,
     ⟨(some 115), .mv (.t 10), (some (112, true))⟩,
     ⟨(some 116), .bin .eql (.t 114) (.t 115), (some (112, true))⟩,
     ⟨(some 117), .pick (.t 112) (.t 116) (.k (.c (.d (.bool false)))), none⟩,
     ⟨(some 6), .mv (.t 117), none⟩])
   (.ret))
   (.skip)))
  (.seq (.reg [⟨(some 118), .call 9 [] none, none⟩,
    ⟨(some 119), .mv (.t 118), none⟩,
    ⟨(some 120), .fieldAddr 0 (.t 13), (some (119, true))⟩,
    ⟨(some 121), .loadB .sc (.t 120), (some (119, true))⟩,
    ⟨(some 122), .fieldAddr 0 (.t 15), (some (119, true))⟩,
    ⟨(some 123), .loadB .sc (.t 122), (some (119, true))⟩,
    ⟨(some 124), .bin .add (.t 123) (.k (.c (.d (.int .i64 1)))), (some (119, true))⟩,
    ⟨(some 125), .bin .eql (.t 121) (.t 124), (some (119, true))⟩,
    ⟨(some 126), .pick (.t 119) (.t 125) (.k (.c (.d (.bool false)))), none⟩,
    ⟨(some 127), .mv (.t 126), none⟩,
    ⟨(some 128), .fieldAddr 2 (.t 13), (some (127, true))⟩,
    ⟨(some 129), .loadB .sc (.t 128), (some (127, true))⟩,
    ⟨(some 130), .fieldAddr 2 (.t 15), (some (127, true))⟩,
    ⟨(some 131), .loadB .sc (.t 130), (some (127, true))⟩,
    ⟨(some 132), .bin .eql (.t 129) (.t 131), (some (127, true))⟩,
    ⟨(some 133), .pick (.t 127) (.t 132) (.k (.c (.d (.bool false)))), none⟩,
    ⟨(some 134), .mv (.t 133), none⟩,
    ⟨(some 135), .fieldAddr 1 (.t 15), (some (134, true))⟩,
    ⟨(some 136), .loadB .sc (.t 135), (some (134, true))⟩,
    ⟨(some 137), .un .not (.t 136), (some (134, true))⟩,
    ⟨(some 138), .pick (.t 134) (.t 137) (.k (.c (.d (.bool false)))), none⟩,
    ⟨(some 6), .mv (.t 138), none⟩])
  (.ret))))))))))))),
  [(6, none)]⟩
theorem cf_kta12 : compFn Try.prog { own := [], comp := [], frz := [], nils := [52], bx := [20, 24, 26, 33, 35, 48, 51, 60, 64, 70, 89, 90, 103, 107, 114, 121, 123, 129, 131, 136] } Try.f8 = some sf_kta12 := by kernel_rfl
set_option maxHeartbeats 1600000 in
theorem kta12_c (G : Glob) (table : List Int) (htable1 : table.length ≤ maxLen) (htable2 : ∀ n ∈ table, fitI n) (v : Int) (hv1 : -9223372036854775808 ≤ v) (hv2 : v ≤ 9223372036854775807) (more : Int) (hmore1 : -9223372036854775808 ≤ more) (hmore2 : more ≤ 9223372036854775807)  : Den Try.prog G 8 [.sl (table.map zD), .int .i64 v, .int .i64 more] (.w (.c (.d (.bool true)))) := by
  refine den_walk Try.func8 cf_kta12 rfl rfl ?_
  have hm : maxLen ≤ 9223372036854775807 := by decide
  have hk : wlK table ≤ 4 := Nat.min_le_left _ _
  have cw := wleap_c G table (by omega)
  have d1 := within_c G more 200 (by decide)
  have w1 := withinN_range more 200 (by decide)
  generalize withinN more 200 = W1 at *
  have el : ∀ L : List Lp, L.length > 0 → ∃ J : Nat, (J : Int) = (L.length : Int) - 1 ∧ J < L.length := fun L h => ⟨L.length - 1, by omega, by omega⟩
  obtain ⟨ok', eb⟩ := wl_snoc table (wlK table) hk (2 + W1) (by omega)
  have ok := wlT_ok table
  have ge := off_end table (wlK table)
  have lastG : 0 < wlK table → lpG (wlT table) (wlK table - 1) = (wlA table (wlK table), wlO table (wlK table)) := fun h => by
    unfold wlT
    rw [wlL_g table _ (wlK table - 1) (by omega), show wlK table - 1 + 1 = wlK table by omega]
  have ll : (wlT table).length = wlK table := wlL_len table _
  have z0 : wlK table = 0 → wlA table (wlK table) = 1728000 ∧ wlO table (wlK table) = 10 := fun h => by rw [h]; exact ⟨rfl, rfl⟩
  have ab := wlA_b table (wlK table)
  have ob := wlO_b table (wlK table)
  change okB 10 (wlT table ++ _) = true at ok'
  change elB (wlT table ++ _) at eb
  change ∀ s, _ → offN 10 (wlT table) s = _ at ge
  generalize wlT table = L at *
  generalize wlK table = k at *
  subst ll
  generalize wlA table L.length = A0 at *
  generalize wlO table L.length = O at *
  obtain ⟨A, hA⟩ : ∃ A, A0 + 86400 * (2 + W1) = A := ⟨_, rfl⟩
  rw [hA] at ok' eb
  have cn := wnear_c G 10 (L ++ [(A, O + 1)]) v (by rw [List.length_append]; simp only [List.length_cons, List.length_nil]; omega) eb hv1 hv2
  have nb := nlN_in eb v
  generalize nlN (L ++ [(A, O + 1)]) v = t at *
  have hL : L.length ≤ 9223372036854775807 := by omega
  have c1 := lutc_c G 10 L t hL (by omega) (by omega)
  have c2 := lutc_c G 10 (L ++ [(A, O + 1)]) t (by rw [List.length_append]; simp only [List.length_cons, List.length_nil]; omega) (by omega) (by omega)
  obtain ⟨s, b, r1, r2, r3⟩ := rd_ex ok (T := t / 1048576) (by omega) (by omega)
  obtain ⟨s', b', q1, q2, q3⟩ := rd_ex ok' (T := t / 1048576) (by omega) (by omega)
  obtain ⟨e1, e2, e3, e4⟩ := utc_of ok r1
  obtain ⟨f1, f2, f3, f4⟩ := utc_of ok' q1
  rw [e1, e2, e3, e4] at c1
  rw [f1, f2, f3, f4] at c2
  obtain ⟨g1, g2, g3⟩ := rd_snoc ok ok' (fun s hs => ge s (by omega)) (by omega) r1 q1
  have hM : (L ++ [(A, O + 1)]).map spD = L.map spD ++ [.agg [.int .i64 A, .int .i64 (O + 1)]] := List.map_append
  have asz := allSz_sp L
  unfold lpD at cw cn c1 c2
  rw [hM] at cn c2
  have h1 := shl20 (A + O) (by omega) t
  have h2 := shl20 (A + O + 1) (by omega) t
  generalize hX : (A + O) * 1048576 = X at *
  generalize hY : (A + O + 1) * 1048576 = Y at *
  generalize t / 1048576 = T at *
  generalize t % 1048576 = K at *
  have tk : ∀ x : D, (L.map spD ++ [x]).take (L.length + 1) = L.map spD ++ [x] := fun x => List.take_of_length_le (by rw [List.length_append, List.length_map]; exact Nat.le_refl _)
  by_cases h0 : (L.length : Int) > 0
  · obtain ⟨J, j1, j2⟩ := el L (by omega)
    have g := lpG_get j2
    have hJ : (L.length : Int) - 1 = (J : Int) := j1.symm
    rw [show J = L.length - 1 by omega, lastG (by omega), ← show J = L.length - 1 by omega] at g
    have hJL : (J : Int) < (L.length : Int) := by omega
    by_cases p1 : t < X
    · obtain ⟨u1, u2⟩ := g1 (h1.1 p1)
      subst u1; subst u2
      simp only [sf_kta12, putAll, wx, wy, wz, stV, seval, IntWalk.iteOmega, IntWalk.toNatUp, reduceCtorEq]
      refine st_call (cw) rfl (.inl rfl) ?_
      simp only [eq_true h0, hJ, hJL, get_map, g, spD, wx, wy, wz, stV, seval, IntWalk.iteOmega, IntWalk.toNatUp, reduceCtorEq]
      refine st_call (d1) rfl (.inl rfl) ?_
      simp only [hA, srcV, asz, wx, wy, wz, stV, seval, IntWalk.iteOmega, IntWalk.toNatUp, reduceCtorEq]
      refine st_call cn (by simp only [wx, wy, wz, stV, seval, IntWalk.iteOmega, IntWalk.toNatUp, reduceCtorEq, tk]) (.inr rfl) ?_
      simp only [wx, wy, wz, stV, seval, IntWalk.iteOmega, IntWalk.toNatUp, reduceCtorEq]
      refine st_call (c1) rfl (.inl rfl) ?_
      simp only [wx, wy, wz, stV, seval, IntWalk.iteOmega, IntWalk.toNatUp, reduceCtorEq]
      refine st_call c2 (by simp only [wx, wy, wz, stV, seval, IntWalk.iteOmega, IntWalk.toNatUp, reduceCtorEq, tk]) (.inr rfl) ?_
      simp only [wx, wy, wz, stV, seval, IntWalk.iteOmega, IntWalk.toNatUp, reduceCtorEq, hX, hY, bI64, eq_true p1]
      refine st_call (known12_c G) rfl (.inl rfl) ?_
      simp only [wx, wy, wz, stV, seval, IntWalk.iteOmega, IntWalk.toNatUp, reduceCtorEq]
      exact ret_d1 (by simp only [wx, wy, wz, stV, seval, IntWalk.iteOmega, IntWalk.toNatUp, reduceCtorEq])
    · by_cases p2 : t < Y
      · obtain ⟨u1, u2, u3⟩ := g2 (by have := mt h1.2 p1; have := h2.1 p2; omega)
        subst u1; subst u2; subst u3
        simp only [sf_kta12, putAll, wx, wy, wz, stV, seval, IntWalk.iteOmega, IntWalk.toNatUp, reduceCtorEq]
        refine st_call (cw) rfl (.inl rfl) ?_
        simp only [eq_true h0, hJ, hJL, get_map, g, spD, wx, wy, wz, stV, seval, IntWalk.iteOmega, IntWalk.toNatUp, reduceCtorEq]
        refine st_call (d1) rfl (.inl rfl) ?_
        simp only [hA, srcV, asz, wx, wy, wz, stV, seval, IntWalk.iteOmega, IntWalk.toNatUp, reduceCtorEq]
        refine st_call cn (by simp only [wx, wy, wz, stV, seval, IntWalk.iteOmega, IntWalk.toNatUp, reduceCtorEq, tk]) (.inr rfl) ?_
        simp only [wx, wy, wz, stV, seval, IntWalk.iteOmega, IntWalk.toNatUp, reduceCtorEq]
        refine st_call (c1) rfl (.inl rfl) ?_
        simp only [wx, wy, wz, stV, seval, IntWalk.iteOmega, IntWalk.toNatUp, reduceCtorEq]
        refine st_call c2 (by simp only [wx, wy, wz, stV, seval, IntWalk.iteOmega, IntWalk.toNatUp, reduceCtorEq, tk]) (.inr rfl) ?_
        simp only [wx, wy, wz, stV, seval, IntWalk.iteOmega, IntWalk.toNatUp, reduceCtorEq, hX, hY, bI64, eq_false p1, eq_true p2]
        refine st_call (known12_c G) rfl (.inl rfl) ?_
        simp only [wx, wy, wz, stV, seval, IntWalk.iteOmega, IntWalk.toNatUp, reduceCtorEq]
        exact ret_d1 (by simp only [wx, wy, wz, stV, seval, IntWalk.iteOmega, IntWalk.toNatUp, reduceCtorEq])
      · obtain ⟨u1, u2⟩ := g3 (by have := mt h2.2 p2; omega)
        subst u1; subst u2
        simp only [sf_kta12, putAll, wx, wy, wz, stV, seval, IntWalk.iteOmega, IntWalk.toNatUp, reduceCtorEq]
        refine st_call (cw) rfl (.inl rfl) ?_
        simp only [eq_true h0, hJ, hJL, get_map, g, spD, wx, wy, wz, stV, seval, IntWalk.iteOmega, IntWalk.toNatUp, reduceCtorEq]
        refine st_call (d1) rfl (.inl rfl) ?_
        simp only [hA, srcV, asz, wx, wy, wz, stV, seval, IntWalk.iteOmega, IntWalk.toNatUp, reduceCtorEq]
        refine st_call cn (by simp only [wx, wy, wz, stV, seval, IntWalk.iteOmega, IntWalk.toNatUp, reduceCtorEq, tk]) (.inr rfl) ?_
        simp only [wx, wy, wz, stV, seval, IntWalk.iteOmega, IntWalk.toNatUp, reduceCtorEq]
        refine st_call (c1) rfl (.inl rfl) ?_
        simp only [wx, wy, wz, stV, seval, IntWalk.iteOmega, IntWalk.toNatUp, reduceCtorEq]
        refine st_call c2 (by simp only [wx, wy, wz, stV, seval, IntWalk.iteOmega, IntWalk.toNatUp, reduceCtorEq, tk]) (.inr rfl) ?_
        simp only [wx, wy, wz, stV, seval, IntWalk.iteOmega, IntWalk.toNatUp, reduceCtorEq, hX, hY, bI64, eq_false p1, eq_false p2]
        refine st_call (known12_c G) rfl (.inl rfl) ?_
        simp only [wx, wy, wz, stV, seval, IntWalk.iteOmega, IntWalk.toNatUp, reduceCtorEq]
        exact ret_d1 (by simp only [wx, wy, wz, stV, seval, IntWalk.iteOmega, IntWalk.toNatUp, reduceCtorEq])
  · obtain ⟨z1, z2⟩ := z0 (by omega)
    subst z1; subst z2
    by_cases p1 : t < X
    · obtain ⟨u1, u2⟩ := g1 (h1.1 p1)
      subst u1; subst u2
      simp only [sf_kta12, putAll, wx, wy, wz, stV, seval, IntWalk.iteOmega, IntWalk.toNatUp, reduceCtorEq]
      refine st_call (cw) rfl (.inl rfl) ?_
      simp only [eq_false h0, wx, wy, wz, stV, seval, IntWalk.iteOmega, IntWalk.toNatUp, reduceCtorEq]
      refine st_call (d1) rfl (.inl rfl) ?_
      simp only [hA, srcV, asz, wx, wy, wz, stV, seval, IntWalk.iteOmega, IntWalk.toNatUp, reduceCtorEq]
      refine st_call cn (by simp only [wx, wy, wz, stV, seval, IntWalk.iteOmega, IntWalk.toNatUp, reduceCtorEq, tk]) (.inr rfl) ?_
      simp only [wx, wy, wz, stV, seval, IntWalk.iteOmega, IntWalk.toNatUp, reduceCtorEq]
      refine st_call (c1) rfl (.inl rfl) ?_
      simp only [wx, wy, wz, stV, seval, IntWalk.iteOmega, IntWalk.toNatUp, reduceCtorEq]
      refine st_call c2 (by simp only [wx, wy, wz, stV, seval, IntWalk.iteOmega, IntWalk.toNatUp, reduceCtorEq, tk]) (.inr rfl) ?_
      simp only [wx, wy, wz, stV, seval, IntWalk.iteOmega, IntWalk.toNatUp, reduceCtorEq, hX, hY, bI64, eq_true p1]
      refine st_call (known12_c G) rfl (.inl rfl) ?_
      simp only [wx, wy, wz, stV, seval, IntWalk.iteOmega, IntWalk.toNatUp, reduceCtorEq]
      exact ret_d1 (by simp only [wx, wy, wz, stV, seval, IntWalk.iteOmega, IntWalk.toNatUp, reduceCtorEq])
    · by_cases p2 : t < Y
      · obtain ⟨u1, u2, u3⟩ := g2 (by have := mt h1.2 p1; have := h2.1 p2; omega)
        subst u1; subst u2; subst u3
        simp only [sf_kta12, putAll, wx, wy, wz, stV, seval, IntWalk.iteOmega, IntWalk.toNatUp, reduceCtorEq]
        refine st_call (cw) rfl (.inl rfl) ?_
        simp only [eq_false h0, wx, wy, wz, stV, seval, IntWalk.iteOmega, IntWalk.toNatUp, reduceCtorEq]
        refine st_call (d1) rfl (.inl rfl) ?_
        simp only [hA, srcV, asz, wx, wy, wz, stV, seval, IntWalk.iteOmega, IntWalk.toNatUp, reduceCtorEq]
        refine st_call cn (by simp only [wx, wy, wz, stV, seval, IntWalk.iteOmega, IntWalk.toNatUp, reduceCtorEq, tk]) (.inr rfl) ?_
        simp only [wx, wy, wz, stV, seval, IntWalk.iteOmega, IntWalk.toNatUp, reduceCtorEq]
        refine st_call (c1) rfl (.inl rfl) ?_
        simp only [wx, wy, wz, stV, seval, IntWalk.iteOmega, IntWalk.toNatUp, reduceCtorEq]
        refine st_call c2 (by simp only [wx, wy, wz, stV, seval, IntWalk.iteOmega, IntWalk.toNatUp, reduceCtorEq, tk]) (.inr rfl) ?_
        simp only [wx, wy, wz, stV, seval, IntWalk.iteOmega, IntWalk.toNatUp, reduceCtorEq, hX, hY, bI64, eq_false p1, eq_true p2]
        refine st_call (known12_c G) rfl (.inl rfl) ?_
        simp only [wx, wy, wz, stV, seval, IntWalk.iteOmega, IntWalk.toNatUp, reduceCtorEq]
        exact ret_d1 (by simp only [wx, wy, wz, stV, seval, IntWalk.iteOmega, IntWalk.toNatUp, reduceCtorEq])
      · obtain ⟨u1, u2⟩ := g3 (by have := mt h2.2 p2; omega)
        subst u1; subst u2
        simp only [sf_kta12, putAll, wx, wy, wz, stV, seval, IntWalk.iteOmega, IntWalk.toNatUp, reduceCtorEq]
        refine st_call (cw) rfl (.inl rfl) ?_
        simp only [eq_false h0, wx, wy, wz, stV, seval, IntWalk.iteOmega, IntWalk.toNatUp, reduceCtorEq]
        refine st_call (d1) rfl (.inl rfl) ?_
        simp only [hA, srcV, asz, wx, wy, wz, stV, seval, IntWalk.iteOmega, IntWalk.toNatUp, reduceCtorEq]
        refine st_call cn (by simp only [wx, wy, wz, stV, seval, IntWalk.iteOmega, IntWalk.toNatUp, reduceCtorEq, tk]) (.inr rfl) ?_
        simp only [wx, wy, wz, stV, seval, IntWalk.iteOmega, IntWalk.toNatUp, reduceCtorEq]
        refine st_call (c1) rfl (.inl rfl) ?_
        simp only [wx, wy, wz, stV, seval, IntWalk.iteOmega, IntWalk.toNatUp, reduceCtorEq]
        refine st_call c2 (by simp only [wx, wy, wz, stV, seval, IntWalk.iteOmega, IntWalk.toNatUp, reduceCtorEq, tk]) (.inr rfl) ?_
        simp only [wx, wy, wz, stV, seval, IntWalk.iteOmega, IntWalk.toNatUp, reduceCtorEq, hX, hY, bI64, eq_false p1, eq_false p2]
        refine st_call (known12_c G) rfl (.inl rfl) ?_
        simp only [wx, wy, wz, stV, seval, IntWalk.iteOmega, IntWalk.toNatUp, reduceCtorEq]
        exact ret_d1 (by simp only [wx, wy, wz, stV, seval, IntWalk.iteOmega, IntWalk.toNatUp, reduceCtorEq])
end Go.Proofs.Ytefoldolhgakmaa
