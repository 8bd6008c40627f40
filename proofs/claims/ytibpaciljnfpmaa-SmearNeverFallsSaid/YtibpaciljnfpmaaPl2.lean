/- Layer 12: what UTC shows at an instant: the walk along a table; what the functions return. Pure. Own work. -/
import Derived.Test.YtibpaciljnfpmaaPl1
set_option linter.unusedVariables false
set_option linter.unusedSimpArgs false
namespace Go.Proofs.Ytibpaciljnfpmaa

/-- The reading at the beginning of TAI's second n, along the elements, behind the offset b. -/
def shwN (b : Int) : List Lp → Int → Int × Bool
  | [], n => (n - b, false)
  | p :: r, n => if n = p.1 + p.2 - 1 ∧ p.2 > b then (p.1 - 1, true) else if n < p.1 + p.2 then (n - b, false) else shwN p.2 r n
theorem stp_cons_hi {f : Int} {p : Lp} {r : List Lp} {s : Int} (h : p.1 ≤ s) : stpN f (p :: r) s = stpN p.2 r s := by
  unfold stpN
  show (if p.1 ≤ s + 1 then offN p.2 r (s + 1) else f) - (if p.1 ≤ s then offN p.2 r s else f) = _
  rw [if_pos h, if_pos (by omega)]
theorem off_cons_hi {f : Int} {p : Lp} {r : List Lp} {s : Int} (h : p.1 ≤ s) : offN f (p :: r) s = offN p.2 r s := if_pos h
theorem off_cons_lo {f : Int} {p : Lp} {r : List Lp} {s : Int} (h : s < p.1) : offN f (p :: r) s = f := if_neg (by omega)
theorem stp_before {f lo : Int} {l : List Lp} (h : leapOk lo f l) {s : Int} (hs : s + 1 < lo) : stpN f l s = 0 := by
  unfold stpN; rw [off_before h hs, off_before h (by omega)]; omega
theorem none_f {f : Int} {l : List Lp} {s : Int} {b : Bool} (h1 : b = true → stpN f l s = 1) (h2 : stpN f l s ≠ -1) : noneB f l s b = false := by
  unfold noneB
  cases b
  · simp [h2]
  · simp [h1 rfl]
theorem none_ff {f : Int} {l : List Lp} {s : Int} {b : Bool} (h : noneB f l s b = false) : (b = true → stpN f l s = 1) ∧ stpN f l s ≠ -1 := by
  unfold noneB at h
  cases b
  · simpa using h
  · have := by simpa using h
    exact ⟨fun _ => this.1, this.2⟩
theorem shw_ok : ∀ {l : List Lp} {b lo : Int}, leapOk lo b l → ∀ n : Int, noneB b l (shwN b l n).1 (shwN b l n).2 = false ∧ taiS b l (shwN b l n).1 (shwN b l n).2 = n
  | [], b, lo, h, n => by
    refine ⟨none_f (fun h => nomatch h) ?_, ?_⟩
    · simp [stpN, offN]
    · simp [shwN, taiS, taiN, offN, bI]
  | p :: r, b, lo, h, n => by
    have hp := h.2.2.2.1
    have hr := h.2.2.2.2
    unfold shwN
    by_cases c1 : n = p.1 + p.2 - 1 ∧ p.2 > b
    · rw [if_pos c1]
      have e1 : offN b (p :: r) (p.1 - 1) = b := off_cons_lo (by omega)
      have e2 : offN b (p :: r) (p.1 - 1 + 1) = p.2 := by
        rw [off_cons_hi (by omega), off_before hr (by omega)]
      have e3 : stpN b (p :: r) (p.1 - 1) = 1 := by unfold stpN; rw [e1, e2]; omega
      refine ⟨none_f (fun _ => e3) (fun k => by have := e3.symm.trans k; omega), ?_⟩
      unfold taiS taiN bI
      simp only [if_true, e1]
      omega
    · rw [if_neg c1]
      by_cases c2 : n < p.1 + p.2
      · rw [if_pos c2]
        have hs : n - b < p.1 := by omega
        have e1 : offN b (p :: r) (n - b) = b := off_cons_lo hs
        refine ⟨none_f (fun h => nomatch h) fun k => ?_, ?_⟩
        · simp only at k
          unfold stpN at k
          rw [e1] at k
          by_cases c3 : n - b + 1 < p.1
          · rw [off_cons_lo c3] at k; omega
          · rw [off_cons_hi (by omega), off_before hr (by omega)] at k; omega
        · unfold taiS taiN bI
          simp only [e1]
          simp
      · rw [if_neg c2]
        obtain ⟨i1, i2⟩ := shw_ok hr n
        generalize hS : (shwN p.2 r n).1 = S at *
        generalize hF : (shwN p.2 r n).2 = F at *
        have hge : p.1 ≤ S := by
          rcases Int.lt_or_le S p.1 with k | k
          · exfalso
            have o1 : offN p.2 r S = p.2 := off_before hr (by omega)
            have o2 : stpN p.2 r S = 0 := stp_before hr (by omega)
            have := (none_ff i1).1
            unfold taiS taiN bI at i2
            rw [o1] at i2
            cases F
            · simp at i2; omega
            · have := this rfl; omega
          · exact k
        obtain ⟨j1, j2⟩ := none_ff i1
        refine ⟨none_f (fun h => ?_) ?_, ?_⟩
        · rw [stp_cons_hi hge]; exact j1 h
        · rw [stp_cons_hi hge]; exact j2
        · unfold taiS taiN at i2 ⊢
          rw [off_cons_hi hge]; exact i2
/-- The reading at TAI's second n, if there is one. -/
theorem shw_isR {f : Int} {l : List Lp} (h : okB f l = true) {n : Int} (hs : secIn (shwN f l n).1 = true) : IsR f l n (shwN f l n).1 (shwN f l n).2 :=
  ⟨hs, (shw_ok (okB_leap h) n).1, (shw_ok (okB_leap h) n).2⟩
theorem shw_is {f : Int} {l : List Lp} (h : okB f l = true) {n s : Int} {b : Bool} (k : IsR f l n s b) : shwN f l n = (s, b) := by
  have hu : secIn (shwN f l n).1 = true ∨ secIn (shwN f l n).1 = false := by cases secIn (shwN f l n).1 <;> simp
  obtain ⟨a1, a2⟩ := shw_ok (okB_leap h) n
  have h1 := isR_at h k
  have b3 := stp_3 h (shwN f l n).1
  have hx : taiN f l (shwN f l n).1 ≤ n ∧ n < taiN f l ((shwN f l n).1 + 1) := by
    obtain ⟨j1, j2⟩ := none_ff a1
    generalize hS : (shwN f l n).1 = S at *
    generalize hF : (shwN f l n).2 = F at *
    unfold taiS at a2
    have e : taiN f l (S + 1) = taiN f l S + 1 + stpN f l S := by unfold taiN stpN; omega
    rw [e]
    unfold bI at a2
    cases F
    · simp at a2; omega
    · have := j1 rfl
      simp at a2; omega
  have e := tai_uniq (okB_leap h) h1.1 h1.2 hx.1 hx.2
  have k2 : secIn (shwN f l n).1 = true := by rw [← e]; exact k.sec
  have := isR_uniq h k (shw_isR h k2)
  exact Prod.ext this.1.symm this.2.symm
/-! ### Tables, element by element -/
theorem drop_lp {l : List Lp} {i : Nat} (h : i < l.length) : l.drop i = lpG l i :: l.drop (i + 1) := by
  rw [List.drop_eq_getElem_cons h]
  congr 1
  unfold lpG
  rw [List.getD_eq_getElem?_getD, List.getElem?_eq_getElem h]; rfl
theorem lastO_s (f : Int) (l : List Lp) (i : Nat) : lastO f l (i + 1) = (lpG l i).2 := rfl
theorem okE_e {f : Int} {l : List Lp} {i : Nat} (h : okE f l i = true) : 86400 ≤ (lpG l i).1 ∧ (lpG l i).1 ≤ 137438953472 ∧ (lpG l i).1 % 86400 = 0 ∧ (0 < i → (lpG l (i - 1)).1 + 172800 ≤ (lpG l i).1) ∧ ((lpG l i).2 = lastO f l i + 1 ∨ (lpG l i).2 = lastO f l i - 1) := of_decide_eq_true h
theorem okE_f {f : Int} {l : List Lp} {i : Nat} (h : ¬ (86400 ≤ (lpG l i).1 ∧ (lpG l i).1 ≤ 137438953472 ∧ (lpG l i).1 % 86400 = 0 ∧ (0 < i → (lpG l (i - 1)).1 + 172800 ≤ (lpG l i).1) ∧ ((lpG l i).2 = lastO f l i + 1 ∨ (lpG l i).2 = lastO f l i - 1))) : okE f l i = false := decide_eq_false h
theorem lastO_in {f : Int} {l : List Lp} : ∀ {i : Nat}, (∀ j, j < i → okE f l j = true) → f - i ≤ lastO f l i ∧ lastO f l i ≤ f + i
  | 0, _ => by simp [lastO]
  | i + 1, h => by
    have ih := lastO_in (i := i) fun j hj => h j (by omega)
    have := (okE_e (h i (by omega))).2.2.2.2
    rw [lastO_s]
    omega
/-- The first second that the next element may have. -/
def erlN (l : List Lp) : Nat → Int
  | 0 => 86400
  | i + 1 => (lpG l i).1 + 172800
theorem erlN_0 (l : List Lp) : erlN l 0 = 86400 := rfl
theorem erlN_s (l : List Lp) (i : Nat) : erlN l (i + 1) = (lpG l i).1 + 172800 := rfl
theorem erlN_ge {f : Int} {l : List Lp} {i : Nat} (h : ∀ j, j < i → okE f l j = true) : 86400 ≤ erlN l i ∧ erlN l i ≤ 137439126272 := by
  cases i with
  | zero => simp [erlN]
  | succ i =>
    have := okE_e (h i (by omega))
    rw [erlN_s]; omega
theorem okE_erl {f : Int} {l : List Lp} {i : Nat} (h : ∀ j, j < i → okE f l j = true) : okE f l i = decide ((lpG l i).1 % 86400 = 0 ∧ erlN l i ≤ (lpG l i).1 ∧ (lpG l i).1 ≤ 137438953472 ∧ ((lpG l i).2 = lastO f l i + 1 ∨ (lpG l i).2 = lastO f l i - 1)) := by
  unfold okE
  apply decide_eq_decide.2
  have := erlN_ge h
  cases i with
  | zero => rw [erlN_0] at *; omega
  | succ i => rw [erlN_s] at *; rw [Nat.add_sub_cancel]; omega
/-! ### Bounds of a valid table -/
theorem ok_el {f : Int} {l : List Lp} (h : okB f l = true) {i : Nat} (hi : i < l.length) : 86400 ≤ (lpG l i).1 ∧ (lpG l i).1 ≤ 137438953472 ∧ -64 ≤ (lpG l i).2 ∧ (lpG l i).2 ≤ 164 ∧ -64 ≤ lastO f l i ∧ lastO f l i ≤ 164 := by
  obtain ⟨h1, h2⟩ := okB_iff.1 h
  have a := okE_e (h2 i hi)
  have b := lastO_in (f := f) (l := l) (i := i) fun j hj => h2 j (by omega)
  have c := lastO_in (f := f) (l := l) (i := i + 1) fun j hj => h2 j (by omega)
  rw [lastO_s] at c
  omega
theorem ok_last {f : Int} {l : List Lp} (h : okB f l = true) {i : Nat} (hi : i ≤ l.length) : -64 ≤ lastO f l i ∧ lastO f l i ≤ 164 := by
  obtain ⟨h1, h2⟩ := okB_iff.1 h
  have b := lastO_in (f := f) (l := l) (i := i) fun j hj => h2 j (by omega)
  omega
/-! ### What the functions return -/
def scdE (f : Int) (l : List Lp) (s : Int) : Int := if okB f l = true then (if secIn s = true then 0 else 4) else 3
def offV (f : Int) (l : List Lp) (s : Int) : Int := if (okB f l && secIn s) = true then offN f l s else 0
def stpV (f : Int) (l : List Lp) (s : Int) : Int := if (okB f l && secIn s) = true then stpN f l s else 0
def redE (f : Int) (l : List Lp) (s k : Int) : Int := if okB f l = true then (if (secIn s && tikIn k) = true then 0 else 4) else 3
def taiE (f : Int) (l : List Lp) (s : Int) (b : Bool) (k : Int) : Int := if okB f l = true then (if (secIn s && tikIn k) = true then (if noneB f l s b = true then 10 else 0) else 4) else 3
def numHi (f : Int) (l : List Lp) (s k : Int) : Int := if taiB f l s false k = true then (taiN f l s + (if stpN f l s = 1 then 1 else 0)) * 1048576 + k else 0
def utcB (f : Int) (l : List Lp) (t : Int) : Bool := okB f l && secIn (shwN f l (t / 1048576)).1
def utcE (f : Int) (l : List Lp) (t : Int) : Int := if okB f l = true then (if secIn (shwN f l (t / 1048576)).1 = true then 0 else 9) else 3
theorem sec_t {s : Int} (h : 0 ≤ s ∧ s ≤ 274877906944) : secIn s = true := decide_eq_true h
theorem sec_f {s : Int} (h : ¬ (0 ≤ s ∧ s ≤ 274877906944)) : secIn s = false := decide_eq_false h
theorem sec_i {s : Int} (h : secIn s = true) : 0 ≤ s ∧ s ≤ 274877906944 := of_decide_eq_true h
theorem sec_n {s : Int} (h : secIn s = false) : ¬ (0 ≤ s ∧ s ≤ 274877906944) := of_decide_eq_false h
theorem tik_i {s : Int} (h : tikIn s = true) : 0 ≤ s ∧ s < 1048576 := of_decide_eq_true h
theorem tik_n {s : Int} (h : tikIn s = false) : ¬ (0 ≤ s ∧ s < 1048576) := of_decide_eq_false h
end Go.Proofs.Ytibpaciljnfpmaa
