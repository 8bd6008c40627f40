/- Layer 3: keyed hashes and derived keys, as functions of lists. Own work. -/
import Derived.Test.YtkaaiefeinoocaaDoorPh7
set_option linter.unusedVariables false
set_option linter.unusedSimpArgs false
namespace Go.Proofs.YtkaaiefeinoocaaDoor
open Go.RowKit

def keyK (key : List UInt8) : List UInt8 := if 64 < key.length then sumK key else key
/-- A list with zeros up to 64. -/
def fillK (k : List UInt8) : List UInt8 := k ++ List.replicate (64 - k.length) 0
def blkK (key : List UInt8) : List UInt8 := fillK (keyK key)
def mixK (key : List UInt8) (x : UInt8) : List UInt8 := (blkK key).map fun b => xorB b x
def macK (key b : List UInt8) : List UInt8 := sumK (mixK key 92 ++ sumK (mixK key 54 ++ b))
def partK (key info : List UInt8) : Nat → List UInt8
  | 0 => []
  | i + 1 => macK key (partK key info i ++ info ++ [UInt8.ofNat (i + 1)])
def allK (key info : List UInt8) : Nat → List UInt8
  | 0 => []
  | i + 1 => allK key info i ++ partK key info (i + 1)
def expK (key info : List UInt8) (n : Nat) : List UInt8 := (allK key info ((n + 31) / 32)).take n
def labK (p n c : List UInt8) : List UInt8 := p ++ [0] ++ n ++ [0] ++ sumK c
theorem keyK_len (key : List UInt8) : (keyK key).length ≤ 64 := by
  unfold keyK; split
  · rw [sumK_len]; decide
  · omega
theorem fillK_len {k : List UInt8} (h : k.length ≤ 64) : (fillK k).length = 64 := by
  simp [fillK]; omega
theorem blkK_len (key : List UInt8) : (blkK key).length = 64 := fillK_len (keyK_len key)
theorem mixK_len (key : List UInt8) (x : UInt8) : (mixK key x).length = 64 := by
  rw [mixK, List.length_map, blkK_len]
theorem macK_len (key b : List UInt8) : (macK key b).length = 32 := sumK_len _
theorem partK_len (key info : List UInt8) : ∀ i, (partK key info i).length ≤ 32
  | 0 => by simp [partK]
  | i + 1 => by rw [partK, macK_len]; exact Nat.le_refl _
theorem allK_len (key info : List UInt8) : ∀ i, (allK key info i).length = 32 * i
  | 0 => rfl
  | i + 1 => by rw [allK, List.length_append, allK_len key info i, partK, macK_len]; omega
theorem allK_take (key info : List UInt8) (i : Nat) : ∀ j m, m ≤ 32 * i → (allK key info (i + j)).take m = (allK key info i).take m
  | 0, _, _ => rfl
  | j + 1, m, h => by
    rw [← Nat.add_assoc, allK, List.take_append_of_le_length (by rw [allK_len]; omega), allK_take key info i j m h]
theorem expK_len (key info : List UInt8) (n : Nat) : (expK key info n).length = n := by
  rw [expK, List.length_take, allK_len]; omega
/-- Fewer bytes are the beginning of more of them. -/
theorem expK_take (key info : List UInt8) (n m : Nat) (h : m ≤ n) : (expK key info n).take m = expK key info m := by
  obtain ⟨j, hj⟩ : ∃ j, (n + 31) / 32 = (m + 31) / 32 + j := ⟨(n + 31) / 32 - (m + 31) / 32, by omega⟩
  unfold expK
  rw [List.take_take, Nat.min_eq_left h, hj, allK_take key info _ j m (by omega)]
/-- Zeros behind a shorter key do not matter. -/
theorem macK_zeros (key b : List UInt8) (k : Nat) (h : key.length + k ≤ 64) : macK (key ++ List.replicate k 0) b = macK key b := by
  have : blkK (key ++ List.replicate k 0) = blkK key := by
    unfold blkK keyK
    rw [if_neg (by simp; omega), if_neg (by omega)]
    unfold fillK
    rw [List.append_assoc, List.length_append, List.length_replicate, List.replicate_append_replicate]
    congr 2; omega
  unfold macK mixK
  rw [this]
theorem labK_len (p n c : List UInt8) : (labK p n c).length = p.length + n.length + 34 := by
  simp [labK, sumK_len]; omega
/-- Where a list without zeros ends, is seen. -/
theorem ends_eq {a c x y : List UInt8} (ha : ∀ z ∈ a, z ≠ 0) (hc : ∀ z ∈ c, z ≠ 0) (h : a ++ 0 :: x = c ++ 0 :: y) : a = c ∧ x = y := by
  induction a generalizing c with
  | nil =>
    cases c with
    | nil => simpa using h
    | cons z c =>
      simp only [List.nil_append, List.cons_append, List.cons.injEq] at h
      exact absurd h.1.symm (hc z (List.mem_cons_self ..))
  | cons w a ih =>
    cases c with
    | nil =>
      simp only [List.nil_append, List.cons_append, List.cons.injEq] at h
      exact absurd h.1 (ha w (List.mem_cons_self ..))
    | cons z c =>
      simp only [List.cons_append, List.cons.injEq] at h
      obtain ⟨h1, h2⟩ := h
      obtain ⟨h3, h4⟩ := ih (fun z hz => ha z (List.mem_cons_of_mem _ hz)) (fun z hz => hc z (List.mem_cons_of_mem _ hz)) h2
      exact ⟨by rw [h1, h3], h4⟩
theorem labK_eq {a b c d x : List UInt8} (ha : ∀ z ∈ a, z ≠ 0) (hb : ∀ z ∈ b, z ≠ 0) (hc : ∀ z ∈ c, z ≠ 0) (hd : ∀ z ∈ d, z ≠ 0) : (labK a b x == labK c d x) = (a == c && b == d) := by
  rw [Bool.eq_iff_iff]
  simp only [beq_iff_eq, Bool.and_eq_true]
  constructor
  · intro h
    simp only [labK, List.append_assoc, List.cons_append, List.nil_append] at h
    obtain ⟨h1, h2⟩ := ends_eq ha hc h
    exact ⟨h1, (ends_eq hb hd h2).1⟩
  · rintro ⟨rfl, rfl⟩; rfl
end Go.Proofs.YtkaaiefeinoocaaDoor
