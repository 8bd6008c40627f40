/- Layer 4: round keys and the cipher on lists. Own work. -/
import Derived.Test.YtnadfnnkdnakhaaPc1
set_option linter.unusedVariables false
set_option linter.unusedSimpArgs false
namespace Go.Proofs.Ytnadfnnkdnakhaa
open Go.RowKit

def conK (n : Nat) : UInt8 := xtN 1 n
theorem conK_step (n : Nat) : timesK (conK n) 2 = conK (n + 1) := by
  have := all_b (p := fun c => timesK c 2 == xtB c) (by decide +kernel) (conK n)
  rw [beq_iff_eq] at this
  exact this
/-- The word behind the word t, before it meets the word a key length ahead; n: its number behind the key. -/
def turnW (t : List UInt8) (n : Nat) : List UInt8 :=
  if n % 4 = 0 then [xorB (subK (t.getD 1 0)) (conK (n / 4)), subK (t.getD 2 0), subK (t.getD 3 0), subK (t.getD 0 0)]
  else [t.getD 0 0, t.getD 1 0, t.getD 2 0, t.getD 3 0]
def nextK (l : List UInt8) (n : Nat) : List UInt8 :=
  (List.range 4).map fun k => xorB (l.getD (4 * n + k) 0) ((turnW (l.drop (12 + 4 * n)) n).getD k 0)
/-- The key and n words behind it. -/
def rkN (key : List UInt8) : Nat → List UInt8
  | 0 => key
  | n + 1 => rkN key n ++ nextK (rkN key n) n
def rkK (key : List UInt8) : List UInt8 := rkN key 40
theorem nextK_len (l : List UInt8) (n : Nat) : (nextK l n).length = 4 := by simp [nextK]
theorem rkN_len {key : List UInt8} (h : key.length = 16) : ∀ n, (rkN key n).length = 16 + 4 * n
  | 0 => h
  | n + 1 => by rw [rkN, List.length_append, rkN_len h n, nextK_len]; omega
theorem rkK_len {key : List UInt8} (h : key.length = 16) : (rkK key).length = 176 := rkN_len h 40
def toL (f : B16) : List UInt8 := (List.range 16).map f
theorem toL_len (f : B16) : (toL f).length = 16 := by simp [toL]
theorem toL_get (f : B16) {j : Nat} (h : j < 16) : (toL f)[j]? = some (f j) := by simp [toL, h]
def ofB16 (l : List UInt8) : B16 := fun j => l.getD j 0
theorem toL_of {l : List UInt8} (h : l.length = 16) : toL (ofB16 l) = l := by
  apply List.ext_getElem?
  intro i
  by_cases hi : i < 16
  · rw [toL_get _ hi, ofB16, List.getD_eq_getElem?_getD, List.getElem?_eq_getElem (by omega)]; rfl
  · rw [List.getElem?_eq_none (by rw [toL_len]; omega), List.getElem?_eq_none (by omega)]
theorem toL_congr {f g : B16} (h : sameF f g) : toL f = toL g := List.map_congr_left fun j hj => h j (List.mem_range.1 hj)
theorem toL_inj {f g : B16} (h : toL f = toL g) : sameF f g := by
  intro j hj
  have := congrArg (fun l : List UInt8 => l[j]?) h
  simpa [toL_get _ hj] using this
/-- The n-th round key. -/
def keyF (rk : List UInt8) (n : Nat) : B16 := fun j => rk.getD (16 * n + j) 0
def encK (rk b : List UInt8) : List UInt8 := toL (encF (keyF rk) (ofB16 b) 10)
theorem encK_len (rk b : List UInt8) : (encK rk b).length = 16 := toL_len _
theorem encK_inj {rk x y : List UInt8} (hx : x.length = 16) (hy : y.length = 16) (h : encK rk x = encK rk y) : x = y := by
  have := encF_inj (toL_inj h)
  rw [← toL_of hx, ← toL_of hy, toL_congr this]
/-- What the block cipher makes of a block. -/
def blockC (key b : List UInt8) : List UInt8 := encK (rkK key) b
/-- The next counter. -/
def incL : List UInt8 → List UInt8 × Bool
  | [] => ([], true)
  | x :: r => let (s, c) := incL r; if c then ((x + 1) :: s, x + 1 == 0) else (x :: s, false)
def nextC (c : List UInt8) : List UInt8 := (incL c).1
theorem incL_len : ∀ c, (incL c).1.length = c.length
  | [] => rfl
  | x :: r => by
    have := incL_len r
    simp only [incL]
    split <;> simp [this]
theorem nextC_len (c : List UInt8) : (nextC c).length = c.length := incL_len c
def ctrC (c : List UInt8) : Nat → List UInt8
  | 0 => c
  | n + 1 => nextC (ctrC c n)
theorem ctrC_len (c : List UInt8) : ∀ n, (ctrC c n).length = c.length
  | 0 => rfl
  | n + 1 => by rw [ctrC, nextC_len, ctrC_len c n]
theorem ctrC_add (c : List UInt8) (m : Nat) : ∀ n, ctrC c (m + n) = ctrC (ctrC c m) n
  | 0 => rfl
  | n + 1 => by rw [← Nat.add_assoc, ctrC, ctrC, ctrC_add c m n]
/-- The bytes that a stream is combined with, n blocks of them. -/
def padC (rk c : List UInt8) : Nat → List UInt8
  | 0 => []
  | n + 1 => padC rk c n ++ encK rk (ctrC c n)
theorem padC_len (rk c : List UInt8) : ∀ n, (padC rk c n).length = 16 * n
  | 0 => rfl
  | n + 1 => by rw [padC, List.length_append, padC_len rk c n, encK_len]; omega
theorem padC_add (rk c : List UInt8) (m : Nat) : ∀ n, padC rk c (m + n) = padC rk c m ++ padC rk (ctrC c m) n
  | 0 => by simp [padC]
  | n + 1 => by
    rw [← Nat.add_assoc, padC, padC, padC_add rk c m n, List.append_assoc, ctrC_add]
def xorL (a b : List UInt8) : List UInt8 := List.zipWith xorB a b
def strmC (rk c b : List UInt8) : List UInt8 := xorL b (padC rk c ((b.length + 15) / 16))
theorem xorL_len {a b : List UInt8} (h : a.length ≤ b.length) : (xorL a b).length = a.length := by
  simp [xorL]; omega
theorem strmC_len (rk c b : List UInt8) : (strmC rk c b).length = b.length := xorL_len (by rw [padC_len]; omega)
theorem xorL_twice : ∀ {a b : List UInt8}, a.length ≤ b.length → xorL (xorL a b) b = a
  | [], _, _ => by simp [xorL]
  | x :: a, [], h => by simp at h
  | x :: a, y :: b, h => by
    have h1 := xorL_twice (a := a) (b := b) (by simpa using h)
    simp only [xorL, List.zipWith_cons_cons, List.cons.injEq] at h1 ⊢
    exact ⟨by rw [xorB_assoc, xorB_self, xorB_zero], h1⟩
/-- The stream undoes itself. -/
theorem strmC_twice (rk c b : List UInt8) : strmC rk c (strmC rk c b) = b := by
  unfold strmC
  have h : b.length ≤ (padC rk c ((b.length + 15) / 16)).length := by rw [padC_len]; omega
  rw [xorL_len h, xorL_twice h]
theorem xorL_drop (a b : List UInt8) (n : Nat) : (xorL a b).drop n = xorL (a.drop n) (b.drop n) := by
  simp [xorL, List.drop_zipWith]
/-- The stream from a later block on. -/
theorem strmC_drop (rk c b : List UInt8) (n : Nat) (h : 16 * n ≤ b.length) : (strmC rk c b).drop (16 * n) = strmC rk (ctrC c n) (b.drop (16 * n)) := by
  unfold strmC
  have e : (b.length + 15) / 16 = n + ((b.drop (16 * n)).length + 15) / 16 := by rw [List.length_drop]; omega
  rw [xorL_drop, e, padC_add, List.drop_append_of_le_length (by rw [padC_len]; omega), List.drop_eq_nil_of_le (as := padC rk c n) (by rw [padC_len]; omega), List.nil_append]
/-- The stream of b up to i blocks, and one block more. -/
theorem strmC_take (rk c b : List UInt8) (n : Nat) : strmC rk c (b.take (16 * n)) = (strmC rk c b).take (16 * n) := by
  unfold strmC xorL
  rw [List.take_zipWith]
  by_cases h : 16 * n ≤ b.length
  · have e : ((b.take (16 * n)).length + 15) / 16 = n := by rw [List.length_take]; omega
    obtain ⟨k, hk⟩ : ∃ k, (b.length + 15) / 16 = n + k := ⟨(b.length + 15) / 16 - n, by omega⟩
    rw [e, hk, padC_add, List.take_append_of_le_length (by rw [padC_len]; omega), List.take_of_length_le (l := padC rk c n) (by rw [padC_len]; omega)]
  · rw [List.take_of_length_le (l := b) (by omega), List.take_of_length_le (l := padC rk c _) (by rw [padC_len]; omega)]
end Go.Proofs.Ytnadfnnkdnakhaa
