/- Layer 12: tables of leap seconds, by their elements' numbers; readings. Pure. Own work. -/
import Derived.Test.YtibpaciljnfpmaaPl0
set_option linter.unusedVariables false
set_option linter.unusedSimpArgs false
namespace Go.Proofs.Ytibpaciljnfpmaa

/-! ### Elements by their numbers -/
def lpG (l : List Lp) (i : Nat) : Lp := l.getD i (0, 0)
theorem lpG_cons (p : Lp) (r : List Lp) (i : Nat) : lpG (p :: r) (i + 1) = lpG r i := rfl
theorem lpG_get {l : List Lp} {i : Nat} (h : i < l.length) : l[i]? = some (lpG l i) := by
  unfold lpG; rw [List.getD_eq_getElem?_getD, List.getElem?_eq_getElem h]; rfl
/-- The offset behind so many elements. -/
def lastO (f : Int) (l : List Lp) : Nat → Int
  | 0 => f
  | i + 1 => (lpG l i).2
theorem lastO_cons (f : Int) (p : Lp) (r : List Lp) (i : Nat) : lastO f (p :: r) (i + 1) = lastO p.2 r i := by
  cases i <;> rfl
/-- Element i is as it must be. -/
def okE (f : Int) (l : List Lp) (i : Nat) : Bool :=
  decide (86400 ≤ (lpG l i).1 ∧ (lpG l i).1 ≤ 137438953472 ∧ (lpG l i).1 % 86400 = 0 ∧ (0 < i → (lpG l (i - 1)).1 + 172800 ≤ (lpG l i).1) ∧ ((lpG l i).2 = lastO f l i + 1 ∨ (lpG l i).2 = lastO f l i - 1))
def headB (f : Int) (l : List Lp) : Bool := decide (0 ≤ f ∧ f ≤ 100 ∧ l.length ≤ 64)
def okB (f : Int) (l : List Lp) : Bool := headB f l && (List.range l.length).all (okE f l)
theorem okB_iff {f : Int} {l : List Lp} : okB f l = true ↔ (0 ≤ f ∧ f ≤ 100 ∧ l.length ≤ 64) ∧ ∀ i, i < l.length → okE f l i = true := by
  unfold okB headB
  rw [Bool.and_eq_true, decide_eq_true_iff, List.all_eq_true]
  constructor
  · rintro ⟨h, k⟩; exact ⟨h, fun i hi => k i (List.mem_range.2 hi)⟩
  · rintro ⟨h, k⟩; exact ⟨h, fun i hi => k i (List.mem_range.1 hi)⟩
theorem okB_no {f : Int} {l : List Lp} {i : Nat} (hi : i < l.length) (h : okE f l i = false) : okB f l = false := by
  cases k : okB f l
  · rfl
  · have := (okB_iff.1 k).2 i hi
    rw [h] at this; cases this
theorem leapOk_of : ∀ (l : List Lp) (f lo : Int), (∀ i, i < l.length → (0 < i → (lpG l (i - 1)).1 + 172800 ≤ (lpG l i).1) ∧ (lpG l i).1 ≤ 137438953472 ∧ (lpG l i).1 % 86400 = 0 ∧ ((lpG l i).2 = lastO f l i + 1 ∨ (lpG l i).2 = lastO f l i - 1)) → (0 < l.length → lo ≤ (lpG l 0).1) → leapOk lo f l
  | [], _, _, _, _ => trivial
  | p :: r, f, lo, h, h0 => by
    obtain ⟨_, a2, a3, a4⟩ := h 0 (Nat.succ_pos _)
    refine ⟨h0 (Nat.succ_pos _), a2, a3, a4, leapOk_of r p.2 (p.1 + 172800) (fun i hi => ?_) fun hr => ?_⟩
    · obtain ⟨b1, b2, b3, b4⟩ := h (i + 1) (Nat.succ_lt_succ hi)
      rw [lastO_cons] at b4
      refine ⟨fun hi0 => ?_, b2, b3, b4⟩
      obtain ⟨j, rfl⟩ : ∃ j, i = j + 1 := ⟨i - 1, by omega⟩
      exact b1 (by omega)
    · exact (h 1 (Nat.succ_lt_succ hr)).1 (by omega)
theorem okB_leap {f : Int} {l : List Lp} (h : okB f l = true) : leapOk 86400 f l := by
  obtain ⟨_, h2⟩ := okB_iff.1 h
  refine leapOk_of l f 86400 (fun i hi => ?_) fun h0 => ?_
  · have := of_decide_eq_true (h2 i hi)
    exact ⟨this.2.2.2.1, this.2.1, this.2.2.1, this.2.2.2.2⟩
  · exact (of_decide_eq_true (h2 0 h0)).1
/-- The offset of a second: behind the elements that are at most there. -/
theorem off_at : ∀ (l : List Lp) (f s : Int) (i : Nat), i ≤ l.length → (∀ j, j < i → (lpG l j).1 ≤ s) → (i < l.length → s < (lpG l i).1) → offN f l s = lastO f l i
  | [], f, s, i, hi, _, _ => by
    have : i = 0 := by simpa using hi
    subst this; rfl
  | p :: r, f, s, 0, _, _, h => by
    have : s < p.1 := h (Nat.succ_pos _)
    exact if_neg (by omega)
  | p :: r, f, s, i + 1, hi, hj, h => by
    have h0 : p.1 ≤ s := hj 0 (Nat.succ_pos _)
    show (if p.1 ≤ s then offN p.2 r s else f) = _
    rw [if_pos h0, lastO_cons]
    exact off_at r p.2 s i (Nat.le_of_succ_le_succ hi) (fun j hj' => hj (j + 1) (Nat.succ_lt_succ hj')) (fun k => h (Nat.succ_lt_succ k))
def stpN (f : Int) (l : List Lp) (s : Int) : Int := offN f l (s + 1) - offN f l s
theorem off_in {f : Int} {l : List Lp} (h : okB f l = true) (s : Int) : -64 ≤ offN f l s ∧ offN f l s ≤ 164 := by
  have := off_range (okB_leap h) s
  have := (okB_iff.1 h).1
  omega
theorem stp_3 {f : Int} {l : List Lp} (h : okB f l = true) (s : Int) : stpN f l s = 0 ∨ stpN f l s = 1 ∨ stpN f l s = -1 := off_step (okB_leap h) s
/-! ### Readings -/
def secIn (s : Int) : Bool := decide (0 ≤ s ∧ s ≤ 274877906944)
def tikIn (k : Int) : Bool := decide (0 ≤ k ∧ k < 1048576)
/-- No reading: an inserted second that is none, or one that is left out. -/
def noneB (f : Int) (l : List Lp) (s : Int) (b : Bool) : Bool := (b && decide (stpN f l s ≠ 1)) || decide (stpN f l s = -1)
def bI (b : Bool) : Int := if b = true then 1 else 0
def taiS (f : Int) (l : List Lp) (s : Int) (b : Bool) : Int := taiN f l s + bI b
def taiB (f : Int) (l : List Lp) (s : Int) (b : Bool) (k : Int) : Bool := okB f l && (secIn s && tikIn k) && !noneB f l s b
def taiV (f : Int) (l : List Lp) (s : Int) (b : Bool) (k : Int) : Int := if taiB f l s b k = true then taiS f l s b * 1048576 + k else 0
/-- The reading (s, b) is of TAI's second T. -/
structure IsR (f : Int) (l : List Lp) (T s : Int) (b : Bool) : Prop where
  sec : secIn s = true
  some : noneB f l s b = false
  tai : taiS f l s b = T
theorem isR_at {f : Int} {l : List Lp} (h : okB f l = true) {T s : Int} {b : Bool} (k : IsR f l T s b) : taiN f l s ≤ T ∧ T < taiN f l (s + 1) := by
  have h3 := stp_3 h s
  have e := k.some
  have t := k.tai
  unfold noneB at e
  unfold taiS bI at t
  unfold taiN at *
  unfold stpN at *
  cases b
  · simp only [Bool.false_and, Bool.false_or, decide_eq_false_iff_not, Bool.false_eq_true, if_false] at e t
    omega
  · simp only [Bool.true_and, Bool.or_eq_false_iff, decide_eq_false_iff_not, if_true] at e t
    omega
theorem isR_uniq {f : Int} {l : List Lp} (h : okB f l = true) {T s s' : Int} {b b' : Bool} (k : IsR f l T s b) (k' : IsR f l T s' b') : s = s' ∧ b = b' := by
  obtain ⟨a1, a2⟩ := isR_at h k
  obtain ⟨c1, c2⟩ := isR_at h k'
  have e := tai_uniq (okB_leap h) a1 a2 c1 c2
  subst e
  refine ⟨rfl, ?_⟩
  have t := k.tai
  have t' := k'.tai
  unfold taiS bI at t t'
  cases b <;> cases b' <;> simp at t t' <;> first | rfl | (exfalso; omega)
/-- Where TAI's second is, there is a reading, unless it is too early or too late. -/
theorem isR_ex {f : Int} {l : List Lp} (h : okB f l = true) (T : Int) : ∃ s b, noneB f l s b = false ∧ taiS f l s b = T := by
  obtain ⟨s, h1, h2⟩ := tai_ex (okB_leap h) T
  have h3 := stp_3 h s
  unfold taiN at h1 h2
  by_cases e : T = s + offN f l s
  · refine ⟨s, false, ?_, ?_⟩
    · unfold noneB
      rw [Bool.false_and, Bool.false_or, decide_eq_false_iff_not]
      unfold stpN at *; omega
    · unfold taiS bI taiN; rw [if_neg (by simp)]; omega
  · refine ⟨s, true, ?_, ?_⟩
    · unfold noneB
      rw [Bool.true_and, Bool.or_eq_false_iff, decide_eq_false_iff_not, decide_eq_false_iff_not]
      unfold stpN at *; omega
    · unfold taiS bI taiN; rw [if_pos rfl]; unfold stpN at *; omega
theorem isR_near {f : Int} {l : List Lp} (h : okB f l = true) {T s : Int} {b : Bool} (k : IsR f l T s b) : T - 170 ≤ s ∧ s ≤ T + 70 := by
  have t := k.tai
  have o := off_in h s
  unfold taiS bI taiN at t
  cases b <;> simp at t <;> omega
end Go.Proofs.Ytibpaciljnfpmaa
