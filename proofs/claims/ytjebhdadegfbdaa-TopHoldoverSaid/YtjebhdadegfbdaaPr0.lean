/- Layer 10: ticks, as functions of numbers and lists. Pure. Own work. -/
import Derived.Test.YtjebhdadegfbdaaAlW
set_option linter.unusedVariables false
set_option linter.unusedSimpArgs false
namespace Go.Proofs.Ytjebhdadegfbdaa
open Go.RowKit

/-! ### Decimal digits -/
/-- A number in at least n digits. -/
def decL (v n : Nat) : List UInt8 := if v = 0 ∧ n = 0 then [] else decL (v / 10) (n - 1) ++ [UInt8.ofNat (48 + v % 10)]
termination_by v + n
theorem dec_0 : decL 0 0 = [] := by rw [decL, if_pos ⟨rfl, rfl⟩]
theorem dec_s {v n : Nat} (h : ¬ (v = 0 ∧ n = 0)) : decL v n = decL (v / 10) (n - 1) ++ [UInt8.ofNat (48 + v % 10)] := by rw [decL, if_neg h]
theorem digit_nat (v : Nat) : (UInt8.ofNat (48 + v % 10)).toNat = 48 + v % 10 := by
  rw [UInt8.toNat_ofNat']; omega
/-- What digits say. -/
def valD (l : List UInt8) : Nat := l.foldl (fun a x => 10 * a + (x.toNat - 48)) 0
theorem valD_snoc (l : List UInt8) (x : UInt8) : valD (l ++ [x]) = 10 * valD l + (x.toNat - 48) := by unfold valD; rw [List.foldl_append]; rfl
theorem dec_ind {p : Nat → Nat → Prop} (h0 : p 0 0) (hs : ∀ v n, ¬ (v = 0 ∧ n = 0) → p (v / 10) (n - 1) → p v n) : ∀ v n, p v n := by
  have key : ∀ k v n, v + n = k → p v n := by
    intro k
    induction k using Nat.strongRecOn with
    | _ k ih =>
      intro v n e
      by_cases h : v = 0 ∧ n = 0
      · rw [h.1, h.2]; exact h0
      · exact hs v n h (ih (v / 10 + (n - 1)) (by omega) _ _ rfl)
  exact fun v n => key _ v n rfl
theorem val_dec (v n : Nat) : valD (decL v n) = v := by
  refine dec_ind (p := fun v n => valD (decL v n) = v) (by rw [dec_0]; rfl) (fun v n h ih => ?_) v n
  rw [dec_s h, valD_snoc, ih, digit_nat]; omega
theorem dec_digit (v n : Nat) : ∀ x ∈ decL v n, 48 ≤ x.toNat ∧ x.toNat ≤ 57 := by
  refine dec_ind (p := fun v n => ∀ x ∈ decL v n, 48 ≤ x.toNat ∧ x.toNat ≤ 57) (by rw [dec_0]; intro x hx; cases hx) (fun v n h ih => ?_) v n
  intro x hx
  rw [dec_s h] at hx
  rcases List.mem_append.1 hx with hx | hx
  · exact ih x hx
  · rw [List.mem_singleton.1 hx, digit_nat]; omega
theorem dec_ge (v n : Nat) : n ≤ (decL v n).length := by
  refine dec_ind (p := fun v n => n ≤ (decL v n).length) (Nat.zero_le _) (fun v n h ih => ?_) v n
  rw [dec_s h, List.length_append, List.length_singleton]; omega
theorem dec_le : ∀ (k v n : Nat), v < 10 ^ k → n ≤ k → (decL v n).length ≤ k
  | 0, v, n, h1, h2 => by
    have : v = 0 := by simp at h1; omega
    subst this
    obtain rfl : n = 0 := by omega
    rw [dec_0]; exact Nat.le_refl _
  | k + 1, v, n, h1, h2 => by
    by_cases h : v = 0 ∧ n = 0
    · rw [h.1, h.2, dec_0]; exact Nat.zero_le _
    · have := dec_le k (v / 10) (n - 1) (by rw [Nat.pow_succ] at h1; omega) (by omega)
      rw [dec_s h, List.length_append, List.length_singleton]; omega
theorem dec_len {v n : Nat} (h : v < 10 ^ n) : (decL v n).length = n := Nat.le_antisymm (dec_le n v n h (Nat.le_refl _)) (dec_ge v n)
/-- Two numbers with the same digits are the same. -/
theorem dec_inj {v w n m : Nat} (h : decL v n = decL w m) : v = w := by rw [← val_dec v n, ← val_dec w m, h]
/-! ### Parts of an instant -/
/-- Go's quotient, rounded down. -/
def belowI (a b : Int) : Int := if a.tmod b < 0 then a.tdiv b - 1 else a.tdiv b
theorem below_ediv (a : Int) {b : Int} (h : 0 < b) : belowI a b = a / b := by
  unfold belowI
  have h1 := Int.tmod_add_mul_tdiv a b
  have h2 := Int.emod_add_mul_ediv a b
  have h3 := Int.emod_nonneg a (show b ≠ 0 by omega)
  have h4 := Int.emod_lt_of_pos a h
  have h5 : a.tmod b < b := Int.tmod_lt_of_pos a h
  have h6 : -b < a.tmod b := by
    have := Int.tmod_lt_of_pos (-a) h
    rw [Int.neg_tmod] at this; omega
  split
  · rename_i hn
    have e : b * (a.tdiv b - 1) = b * a.tdiv b - b := by rw [Int.mul_sub, Int.mul_one]
    have key : b * (a.tdiv b - 1) + (a.tmod b + b) = a := by rw [e]; omega
    have := (Int.ediv_emod_unique (a := a) h (r := a.tmod b + b) (q := a.tdiv b - 1)).2 ⟨by omega, by omega, by omega⟩
    exact this.1.symm
  · have := (Int.ediv_emod_unique (a := a) h (r := a.tmod b) (q := a.tdiv b)).2 ⟨by omega, by omega, by omega⟩
    exact this.1.symm
/-- .. rounded down or up. -/
def roundI (a b : Int) (up : Bool) : Int := if up = true ∧ a.tmod b ≠ 0 then a / b + 1 else a / b
theorem round_enclose (a : Int) {b : Int} (h : 0 < b) : b * roundI a b false ≤ a ∧ a ≤ b * roundI a b true ∧ roundI a b false ≤ roundI a b true ∧ roundI a b true ≤ roundI a b false + 1 ∧ (roundI a b true = roundI a b false ↔ a % b = 0) := by
  have h2 := Int.emod_add_mul_ediv a b
  have h3 := Int.emod_nonneg a (show b ≠ 0 by omega)
  have h4 := Int.emod_lt_of_pos a h
  have h5 : a.tmod b = 0 ↔ a % b = 0 := by rw [← Int.dvd_iff_tmod_eq_zero, Int.dvd_iff_emod_eq_zero]
  unfold roundI
  by_cases hz : a.tmod b = 0
  · have hm := h5.1 hz
    simp only [hz, ne_eq, not_true_eq_false, and_false, if_false, Bool.false_eq_true]
    exact ⟨by omega, by omega, by omega, by omega, by simp [hm]⟩
  · have hm : ¬ a % b = 0 := fun e => hz (h5.2 e)
    have e : b * (a / b + 1) = b * (a / b) + b := by rw [Int.mul_add, Int.mul_one]
    simp only [hz, ne_eq, not_false_eq_true, and_true, if_true, Bool.false_eq_true, if_false]
    refine ⟨by omega, by rw [e]; omega, by omega, by omega, by constructor <;> intro k <;> omega⟩
/-! ### Text -/
def fmtU (s p : Nat) : List UInt8 := decL s 1 ++ 46 :: decL p 7
def fmtL (t : Int) : List UInt8 := if t / 1048576 < 0 then 45 :: fmtU (-(t / 1048576)).toNat (t % 1048576).toNat else fmtU (t / 1048576).toNat (t % 1048576).toNat
def digB (s : List UInt8) : Bool := s.all fun x => decide (48 ≤ x.toNat ∧ x.toNat ≤ 57)
def digO (s : List UInt8) : Bool := decide (1 ≤ s.length ∧ s.length ≤ 18) && digB s
/-- A number and its parts, without a sign: of which seconds and ticks it is the text. -/
def prsU (M : Int) (t : List UInt8) : Option (Nat × Nat) :=
  if t.length < 9 ∨ t.getD (t.length - 8) 0 ≠ 46 then none else if digO (t.take (t.length - 8)) = true ∧ digO (t.drop (t.length - 7)) = true ∧ ¬ (valD (t.take (t.length - 8)) : Int) > M / 1048576 + 1 then some (valD (t.take (t.length - 8)), valD (t.drop (t.length - 7))) else none
def prsV (M : Int) (s : List UInt8) : Option Int := match s with
  | [] => none
  | c :: r => if c = 45 then (prsU M r).map fun q => -((q.1 : Int) * 1048576) + q.2 else (prsU M (c :: r)).map fun q => (q.1 : Int) * 1048576 + q.2
def prsL (M : Int) (s : List UInt8) : Option Int := match prsV M s with
  | none => none
  | some v => if -M ≤ v ∧ v ≤ M ∧ fmtL v = s then some v else none
theorem dec_ok {v n k : Nat} (hn : 1 ≤ n) (hk : n ≤ k) (h : v < 10 ^ k) (hk18 : k ≤ 18) : digO (decL v n) = true := by
  have h1 := dec_ge v n
  have h2 := dec_le k v n h hk
  unfold digO digB
  rw [decide_eq_true ⟨by omega, by omega⟩, Bool.true_and, List.all_eq_true]
  exact fun x hx => decide_eq_true (dec_digit v n x hx)
theorem prsU_fmt {M : Int} {s p : Nat} (hM : M < 1048576 * 10 ^ 17) (hs : (s : Int) ≤ M / 1048576 + 1) (hp : p < 1048576) : prsU M (fmtU s p) = some (s, p) := by
  have l1 := dec_ge s 1
  have l7 : (decL p 7).length = 7 := dec_len (by omega)
  have hl : (fmtU s p).length = (decL s 1).length + 8 := by unfold fmtU; rw [List.length_append, List.length_cons, l7]
  have e1 : (fmtU s p).take ((fmtU s p).length - 8) = decL s 1 := by
    rw [hl, Nat.add_sub_cancel]; exact List.take_left
  have e2 : (fmtU s p).drop ((fmtU s p).length - 7) = decL p 7 := by
    have e : fmtU s p = (decL s 1 ++ [46]) ++ decL p 7 := by unfold fmtU; rw [List.append_assoc]; rfl
    rw [hl, e, List.drop_left' (by rw [List.length_append, List.length_singleton]; omega)]
  have e3 : (fmtU s p).getD ((fmtU s p).length - 8) 0 = 46 := by
    rw [hl, Nat.add_sub_cancel]
    unfold fmtU
    rw [List.getD_eq_getElem?_getD, List.getElem?_append_right (Nat.le_refl _), Nat.sub_self]; rfl
  have d1 : digO (decL s 1) = true := dec_ok (k := 18) (by decide) (by decide) (by omega) (by decide)
  have d2 : digO (decL p 7) = true := dec_ok (k := 7) (by decide) (by decide) (by omega) (by decide)
  unfold prsU
  rw [e1, e2, e3, if_neg (by rw [hl]; simp; omega), val_dec, val_dec, if_pos ⟨d1, d2, by omega⟩]
theorem dec_head {v n : Nat} (h : ¬ (v = 0 ∧ n = 0)) : ∃ c r, decL v n = c :: r ∧ c ≠ 45 := by
  have h1 : (decL v n).length ≠ 0 := by rw [dec_s h]; simp
  match e : decL v n, h1 with
  | c :: r, _ =>
    refine ⟨c, r, rfl, fun hc => ?_⟩
    have := dec_digit v n c (by rw [e]; exact List.mem_cons_self)
    rw [hc] at this
    have e45 : (45 : UInt8).toNat = 45 := rfl
    omega
theorem prsV_neg (M : Int) (r : List UInt8) : prsV M (45 :: r) = (prsU M r).map fun q => -((q.1 : Int) * 1048576) + q.2 := by
  unfold prsV
  exact if_pos rfl
theorem prsV_pos (M : Int) {c : UInt8} (r : List UInt8) (h : c ≠ 45) : prsV M (c :: r) = (prsU M (c :: r)).map fun q => (q.1 : Int) * 1048576 + q.2 := by
  unfold prsV
  exact if_neg h
/-- Parse undoes Format. -/
theorem prs_fmt {M t : Int} (hM : M < 1048576 * 10 ^ 17) (h1 : -M ≤ t) (h2 : t ≤ M) : prsL M (fmtL t) = some t := by
  have hp : (t % 1048576).toNat < 1048576 := by omega
  have hv : prsV M (fmtL t) = some t := by
    unfold fmtL
    by_cases hn : t / 1048576 < 0
    · rw [if_pos hn]
      have hu := prsU_fmt (M := M) (s := (-(t / 1048576)).toNat) (p := (t % 1048576).toNat) hM (by omega) hp
      rw [prsV_neg, hu]
      show some (-(((-(t / 1048576)).toNat : Int) * 1048576) + ((t % 1048576).toNat : Int)) = some t
      congr 1; omega
    · rw [if_neg hn]
      have hu := prsU_fmt (M := M) (s := (t / 1048576).toNat) (p := (t % 1048576).toNat) hM (by omega) hp
      obtain ⟨c, r, hc, hne⟩ := dec_head (v := (t / 1048576).toNat) (n := 1) (by omega)
      have e : fmtU (t / 1048576).toNat (t % 1048576).toNat = c :: (r ++ 46 :: decL (t % 1048576).toNat 7) := by unfold fmtU; rw [hc]; rfl
      rw [e] at hu ⊢
      rw [prsV_pos M _ hne, hu]
      show some (((t / 1048576).toNat : Int) * 1048576 + ((t % 1048576).toNat : Int)) = some t
      congr 1; omega
  unfold prsL
  rw [hv]
  exact if_pos ⟨h1, h2, rfl⟩
theorem prs_some {M : Int} {s : List UInt8} {v : Int} (h : prsL M s = some v) : -M ≤ v ∧ v ≤ M ∧ fmtL v = s := by
  unfold prsL at h
  split at h
  · cases h
  · split at h
    · rename_i hc
      cases h; exact hc
    · cases h
def oV (o : Option Int) : Int := o.getD 0
/-- What Parse returns: the instant whose text it is. -/
def prsT (l : List UInt8) : Option Int := prsL 1152921504606846976 l
end Go.Proofs.Ytjebhdadegfbdaa
