/- Layer 14: lists of eras; the timestamp of an instant. Pure. Own work. -/
import Derived.Test.YtjebhdadegfbdaaPg0
import Derived.Test.YtjebhdadegfbdaaPr1
import Derived.Test.YtjebhdadegfbdaaPi3
set_option linter.unusedVariables false
set_option linter.unusedSimpArgs false
namespace Go.Proofs.Ytjebhdadegfbdaa

def erL (d u a : Int) (n : Nat) : List (Int × Int) := (List.range n).map fun (i : Nat) => eraS d u (a + (i : Int))
theorem unfP_er (d u lo : Int) (n : Nat) : unfP d u lo n = erL d u (eraA lo u) n := rfl
theorem unfL_er (d u lo hi : Int) : unfL d u lo hi = erL d u (eraA lo u) (unfN d u lo hi) := rfl
theorem erL_len (d u a : Int) (n : Nat) : (erL d u a n).length = n := by unfold erL; rw [List.length_map, List.length_range]
theorem erL_get {d u a : Int} {n i : Nat} (h : i < n) : (erL d u a n)[i]? = some (eraS d u (a + i)) := by
  unfold erL; rw [List.getElem?_map, List.getElem?_range h]; rfl
theorem erL_add (d u a : Int) (n : Nat) : ∀ m, erL d u a (n + m) = erL d u a n ++ erL d u (a + n) m
  | 0 => by simp [erL]
  | m + 1 => by
    have e1 : erL d u a (n + m + 1) = erL d u a (n + m) ++ [eraS d u (a + ((n + m : Nat) : Int))] := by
      unfold erL; rw [List.range_succ, List.map_append]; rfl
    have e2 : erL d u (a + n) (m + 1) = erL d u (a + n) m ++ [eraS d u (a + n + (m : Int))] := by
      unfold erL; rw [List.range_succ, List.map_append]; rfl
    rw [← Nat.add_assoc, e1, e2, erL_add d u a n m, List.append_assoc]
    congr 4
    omega
theorem erL_drop (d u a : Int) (m : Nat) : (erL d u a (m + 1)).drop 1 = erL d u (a + 1) m := by
  rw [Nat.add_comm, erL_add]
  rfl
/-- What Unfold returns. -/
def unfE (d u lo hi : Int) : Int := if okP (lo, hi) = true then (if unfN d u lo hi ≤ 64 then 0 else 8) else 3
def unfW (d u lo hi : Int) : List (Int × Int) := if okP (lo, hi) = true ∧ unfN d u lo hi ≤ 64 then unfL d u lo hi else []
theorem unfN_i {d u lo hi : Int} (h : lo ≤ hi) (h1 : d ≤ u) (h2 : u ≤ d + 1) : (unfN d u lo hi : Int) = eraB hi d - eraA lo u + 1 ∧ (lo - 1 - u) / 4503599627370496 = eraA lo u - 1 ∧ (hi - d) / 4503599627370496 = eraB hi d := by
  unfold unfN eraA eraB
  omega
/-- What Only returns. -/
def onlB (d u lo hi : Int) : Bool := okP (lo, hi) && decide (unfN d u lo hi = 1)
def onlE (d u lo hi : Int) : Int := if okP (lo, hi) = true then (if unfN d u lo hi = 0 then 10 else if unfN d u lo hi = 1 then 0 else 9) else 3
/-- What Near returns. -/
def nerB (t : Int) : Bool := decide (-576460752303423488 ≤ t ∧ t ≤ 576460752303423488)
def nerE (t : Int) : Int := if nerB t = true then 0 else 4
/-! ### The timestamp of an instant -/
theorem wir_at {t : Int} (h : -1152921504606846976 ≤ t ∧ t ≤ 1152921504606846976) : wirV t = t % 4503599627370496 * 4096 ∧ wirE t = 0 := by
  unfold wirV wirE wirN
  rw [valT_t h, if_pos rfl, if_pos rfl]
  omega
theorem wir_dn (t : Int) : t % 4503599627370496 * 4096 / 4096 = t % 4503599627370496 := by omega
theorem wir_up (t : Int) : upV (t % 4503599627370496 * 4096) = t % 4503599627370496 := by
  unfold upV
  rw [if_pos (by omega)]
  omega
theorem upw_in {w : Int} (h1 : 0 ≤ w) (h2 : w < 18446744073709551616) : 0 ≤ w / 4096 ∧ w / 4096 < 4503599627370496 ∧ w / 4096 ≤ upV w ∧ upV w ≤ w / 4096 + 1 ∧ (upV w = w / 4096 ↔ w % 4096 = 0) := by
  unfold upV
  split <;> omega
/-! ### Two parts -/
theorem nest_a {d u a c b : Int} (h1 : a ≤ c) (h2 : c ≤ b) (h3 : d ≤ u) (h4 : u ≤ d + 1) (h : eraB c d + 1 = eraA c u) :
    unfL d u a c ++ unfL d u c b = unfL d u a b := by
  obtain ⟨e1, _⟩ := unfN_i h1 h3 h4
  obtain ⟨e2, _⟩ := unfN_i h2 h3 h4
  obtain ⟨e3, _⟩ := unfN_i (Int.le_trans h1 h2) h3 h4
  rw [unfL_er, unfL_er, unfL_er, show unfN d u a b = unfN d u a c + unfN d u c b by omega, erL_add, show eraA a u + (unfN d u a c : Int) = eraA c u by omega]
theorem nest_b {d u a c b : Int} (h1 : a ≤ c) (h2 : c ≤ b) (h3 : d ≤ u) (h4 : u ≤ d + 1) (h : eraA c u = eraB c d) :
    unfL d u a c ++ (unfL d u c b).drop 1 = unfL d u a b := by
  obtain ⟨e1, _⟩ := unfN_i h1 h3 h4
  obtain ⟨e2, _⟩ := unfN_i h2 h3 h4
  obtain ⟨e3, _⟩ := unfN_i (Int.le_trans h1 h2) h3 h4
  obtain ⟨m, hm⟩ : ∃ m, unfN d u c b = m + 1 := by
    have : eraB c d ≤ eraB b d := by unfold eraB; omega
    exact ⟨unfN d u c b - 1, by omega⟩
  rw [unfL_er, unfL_er, unfL_er, hm, erL_drop, show unfN d u a b = unfN d u a c + m by omega, erL_add, show eraA a u + (unfN d u a c : Int) = eraA c u + 1 by omega]
end Go.Proofs.Ytjebhdadegfbdaa
