/- Layer 7: trees of hashes as functions of lists. Own work. -/
import Derived.Test.YtalilcljonkmaaaDoorPh5
set_option linter.unusedVariables false
set_option linter.unusedSimpArgs false
namespace Go.Proofs.YtalilcljonkmaaaDoor
open Go.RowKit

def leafM (b : List UInt8) : List UInt8 := sumK (0 :: b)
def nodeM (l r : List UInt8) : List UInt8 := sumK (1 :: (l ++ r))
/-! ### The greatest power of two below a number -/
def splitN (n : Nat) : Nat := 2 ^ Nat.log2 (n - 1)
theorem split_eq {n j : Nat} (h1 : 2 ^ j < n) (h2 : n ≤ 2 ^ (j + 1)) : splitN n = 2 ^ j := by
  have : Nat.log2 (n - 1) = j := by
    have hp := Nat.two_pow_pos j
    rw [Nat.log2_eq_iff (by omega)]
    omega
  unfold splitN; rw [this]
theorem split_pos (n : Nat) : 1 ≤ splitN n := Nat.two_pow_pos _
theorem split_lt {n : Nat} (h : 2 ≤ n) : splitN n < n := by
  have := Nat.log2_self_le (n := n - 1) (by omega)
  unfold splitN; omega
theorem split_le {n : Nat} (h : 2 ≤ n) : n ≤ 2 * splitN n := by
  have := Nat.lt_log2_self (n := n - 1)
  unfold splitN; rw [Nat.pow_succ] at this; omega
/-- A number between the first part and the whole is divided at the same place. -/
theorem split_mid {n m : Nat} (h : 2 ≤ n) (h1 : splitN n < m) (h2 : m ≤ n) : splitN m = splitN n := by
  have := split_le h
  unfold splitN at h1 this ⊢
  exact split_eq h1 (by rw [Nat.pow_succ]; omega)
/-! ### Roots, paths -/
def rootM (l : List (List UInt8)) : List UInt8 :=
  if l.length = 0 then sumK [] else if l.length = 1 then leafM (l.getD 0 []) else nodeM (rootM (l.take (splitN l.length))) (rootM (l.drop (splitN l.length)))
termination_by l.length
decreasing_by
  · have := split_lt (n := l.length) (by omega); rw [List.length_take]; omega
  · have := split_pos l.length; rw [List.length_drop]; omega
theorem root_0 {l : List (List UInt8)} (h : l.length = 0) : rootM l = sumK [] := by rw [rootM, if_pos h]
theorem root_1 {l : List (List UInt8)} (h : l.length = 1) : rootM l = leafM (l.getD 0 []) := by rw [rootM, if_neg (by omega), if_pos h]
theorem root_2 {l : List (List UInt8)} (h : 2 ≤ l.length) : rootM l = nodeM (rootM (l.take (splitN l.length))) (rootM (l.drop (splitN l.length))) := by rw [rootM, if_neg (by omega), if_neg (by omega)]
def pathM (l : List (List UInt8)) (i : Nat) : List (List UInt8) :=
  if l.length ≤ 1 then [] else if i < splitN l.length then pathM (l.take (splitN l.length)) i ++ [rootM (l.drop (splitN l.length))] else pathM (l.drop (splitN l.length)) (i - splitN l.length) ++ [rootM (l.take (splitN l.length))]
termination_by l.length
decreasing_by
  · have := split_lt (n := l.length) (by omega); rw [List.length_take]; omega
  · have := split_pos l.length; rw [List.length_drop]; omega
theorem path_1 {l : List (List UInt8)} (h : l.length ≤ 1) (i : Nat) : pathM l i = [] := by rw [pathM, if_pos h]
theorem path_lo {l : List (List UInt8)} (h : 2 ≤ l.length) {i : Nat} (hi : i < splitN l.length) : pathM l i = pathM (l.take (splitN l.length)) i ++ [rootM (l.drop (splitN l.length))] := by rw [pathM, if_neg (by omega), if_pos hi]
theorem path_hi {l : List (List UInt8)} (h : 2 ≤ l.length) {i : Nat} (hi : ¬ i < splitN l.length) : pathM l i = pathM (l.drop (splitN l.length)) (i - splitN l.length) ++ [rootM (l.take (splitN l.length))] := by rw [pathM, if_neg (by omega), if_neg hi]
def depthM (n i : Nat) : Nat := if n ≤ 1 then 0 else if i < splitN n then depthM (splitN n) i + 1 else depthM (n - splitN n) (i - splitN n) + 1
termination_by n
decreasing_by
  · exact split_lt (by omega)
  · have := split_pos n; omega
theorem depth_1 {n : Nat} (h : n ≤ 1) (i : Nat) : depthM n i = 0 := by rw [depthM, if_pos h]
theorem depth_lo {n i : Nat} (h : 2 ≤ n) (hi : i < splitN n) : depthM n i = depthM (splitN n) i + 1 := by rw [depthM, if_neg (by omega), if_pos hi]
theorem depth_hi {n i : Nat} (h : 2 ≤ n) (hi : ¬ i < splitN n) : depthM n i = depthM (n - splitN n) (i - splitN n) + 1 := by rw [depthM, if_neg (by omega), if_neg hi]
def climbM (n i : Nat) (leaf : List UInt8) (p : List (List UInt8)) : List UInt8 :=
  if n ≤ 1 then leafM leaf else if i < splitN n then nodeM (climbM (splitN n) i leaf p) (p.getD (depthM (splitN n) i) []) else nodeM (p.getD (depthM (n - splitN n) (i - splitN n)) []) (climbM (n - splitN n) (i - splitN n) leaf p)
termination_by n
decreasing_by
  · exact split_lt (by omega)
  · have := split_pos n; omega
theorem climb_1 {n : Nat} (h : n ≤ 1) (i : Nat) (leaf : List UInt8) (p : List (List UInt8)) : climbM n i leaf p = leafM leaf := by rw [climbM, if_pos h]
theorem climb_lo {n i : Nat} (h : 2 ≤ n) (hi : i < splitN n) (leaf : List UInt8) (p : List (List UInt8)) : climbM n i leaf p = nodeM (climbM (splitN n) i leaf p) (p.getD (depthM (splitN n) i) []) := by rw [climbM, if_neg (by omega), if_pos hi]
theorem climb_hi {n i : Nat} (h : 2 ≤ n) (hi : ¬ i < splitN n) (leaf : List UInt8) (p : List (List UInt8)) : climbM n i leaf p = nodeM (p.getD (depthM (n - splitN n) (i - splitN n)) []) (climbM (n - splitN n) (i - splitN n) leaf p) := by rw [climbM, if_neg (by omega), if_neg hi]
theorem getD_app {p q : List (List UInt8)} {j : Nat} (h : j < p.length) : (p ++ q).getD j [] = p.getD j [] := by
  rw [List.getD_eq_getElem?_getD, List.getD_eq_getElem?_getD, List.getElem?_append_left h]
theorem getD_end {p : List (List UInt8)} {x : List UInt8} {j : Nat} (h : p.length = j) : (p ++ [x]).getD j [] = x := by
  rw [List.getD_eq_getElem?_getD, List.getElem?_append_right (by omega), h, Nat.sub_self]; rfl
/-- Only so many elements count. -/
theorem climb_app (leaf : List UInt8) (p q : List (List UInt8)) : ∀ (n i : Nat), depthM n i ≤ p.length → climbM n i leaf (p ++ q) = climbM n i leaf p := by
  intro n
  induction n using Nat.strongRecOn with
  | _ n ih =>
    intro i hd
    by_cases h : 2 ≤ n
    · by_cases hi : i < splitN n
      · rw [depth_lo h hi] at hd
        rw [climb_lo h hi, climb_lo h hi, ih _ (split_lt h) i (by omega), getD_app (by omega)]
      · rw [depth_hi h hi] at hd
        have := split_pos n
        rw [climb_hi h hi, climb_hi h hi, ih _ (by omega) _ (by omega), getD_app (by omega)]
    · rw [climb_1 (by omega), climb_1 (by omega)]
theorem path_len : ∀ (n : Nat) (l : List (List UInt8)) (i : Nat), l.length = n → i < n → (pathM l i).length = depthM n i := by
  intro n
  induction n using Nat.strongRecOn with
  | _ n ih =>
    intro l i hl hi
    subst hl
    by_cases h : 2 ≤ l.length
    · have h1 := split_pos l.length
      have h2 := split_lt h
      by_cases hk : i < splitN l.length
      · rw [path_lo h hk, depth_lo h hk, List.length_append, ih _ h2 _ i (by rw [List.length_take]; omega) hk]; rfl
      · rw [path_hi h hk, depth_hi h hk, List.length_append, ih _ (by omega) _ _ List.length_drop (by omega)]; rfl
    · rw [path_1 (by omega), depth_1 (by omega)]; rfl
/-- A path leads to the root. -/
theorem climb_path : ∀ (n : Nat) (l : List (List UInt8)) (i : Nat), l.length = n → i < n → climbM n i (l.getD i []) (pathM l i) = rootM l := by
  intro n
  induction n using Nat.strongRecOn with
  | _ n ih =>
    intro l i hl hi
    subst hl
    by_cases h : 2 ≤ l.length
    · have h1 := split_pos l.length
      have h2 := split_lt h
      by_cases hk : i < splitN l.length
      · have hl1 : (l.take (splitN l.length)).length = splitN l.length := by rw [List.length_take]; omega
        have e1 := path_len _ _ i hl1 hk
        have e2 := ih _ h2 _ i hl1 hk
        have e3 : (l.take (splitN l.length)).getD i [] = l.getD i [] := by rw [List.getD_eq_getElem?_getD, List.getD_eq_getElem?_getD, List.getElem?_take, if_pos hk]
        rw [e3] at e2
        rw [path_lo h hk, climb_lo h hk, root_2 h, climb_app _ _ _ _ _ (by omega), e2, getD_end e1]
      · have hl1 : (l.drop (splitN l.length)).length = l.length - splitN l.length := List.length_drop
        have e1 := path_len _ _ (i - splitN l.length) hl1 (by omega)
        have e2 := ih _ (by omega) _ (i - splitN l.length) hl1 (by omega)
        have e3 : (l.drop (splitN l.length)).getD (i - splitN l.length) [] = l.getD i [] := by rw [List.getD_eq_getElem?_getD, List.getD_eq_getElem?_getD, List.getElem?_drop, show splitN l.length + (i - splitN l.length) = i by omega]
        rw [e3] at e2
        rw [path_hi h hk, climb_hi h hk, root_2 h, climb_app _ _ _ _ _ (by omega), e2, getD_end e1]
    · rw [path_1 (by omega), climb_1 (by omega), root_1 (by omega), show i = 0 by omega]
/-! ### How deep -/
def levN (n : Nat) : Nat := if n ≤ 1 then 0 else Nat.log2 (n - 1) + 1
theorem lev_pow (j : Nat) : levN (2 ^ j) = j := by
  unfold levN
  have hp := Nat.two_pow_pos j
  cases j with
  | zero => rfl
  | succ j =>
    have h2 : 2 ^ (j + 1) = 2 * 2 ^ j := by rw [Nat.pow_succ]; omega
    have hp := Nat.two_pow_pos j
    rw [if_neg (by omega)]
    have : Nat.log2 (2 ^ (j + 1) - 1) = j := by
      rw [Nat.log2_eq_iff (by omega)]
      omega
    rw [this]
theorem lev_split {n : Nat} (h : 2 ≤ n) : levN n = levN (splitN n) + 1 := by
  unfold splitN
  rw [lev_pow]
  unfold levN
  rw [if_neg (by omega)]
theorem lev_le (n : Nat) : n ≤ 2 ^ levN n := by
  unfold levN
  split
  · simpa using ‹_›
  · have := Nat.lt_log2_self (n := n - 1); omega
theorem lev_mono {m n : Nat} (h : m ≤ n) : levN m ≤ levN n := by
  unfold levN
  split
  · exact Nat.zero_le _
  · rw [if_neg (by omega)]
    have h1 := Nat.log2_self_le (n := m - 1) (by omega)
    have h2 := Nat.lt_log2_self (n := n - 1)
    have : 2 ^ Nat.log2 (m - 1) < 2 ^ (Nat.log2 (n - 1) + 1) := by omega
    have := (Nat.pow_lt_pow_iff_right (by decide)).1 this
    omega
theorem depth_lev : ∀ (n i : Nat), depthM n i ≤ levN n := by
  intro n
  induction n using Nat.strongRecOn with
  | _ n ih =>
    intro i
    by_cases h : 2 ≤ n
    · have h1 := split_pos n
      have h2 := split_le h
      rw [lev_split h]
      by_cases hi : i < splitN n
      · have := ih _ (split_lt h) i
        rw [depth_lo h hi]; omega
      · have h3 := ih _ (show n - splitN n < n by omega) (i - splitN n)
        have h4 := lev_mono (show n - splitN n ≤ splitN n by omega)
        rw [depth_hi h hi]; omega
    · rw [depth_1 (by omega)]; exact Nat.zero_le _
theorem depth_0 : ∀ (n : Nat), depthM n 0 = levN n := by
  intro n
  induction n using Nat.strongRecOn with
  | _ n ih =>
    by_cases h : 2 ≤ n
    · rw [depth_lo h (split_pos n), lev_split h, ih _ (split_lt h)]
    · rw [depth_1 (by omega)]; unfold levN; rw [if_pos (by omega)]
theorem depth_last (j : Nat) : depthM (2 ^ j) (2 ^ j - 1) = j := by
  induction j with
  | zero => exact depth_1 (by decide) _
  | succ j ih =>
    have hp := Nat.two_pow_pos j
    have h2 : 2 ^ (j + 1) = 2 * 2 ^ j := by rw [Nat.pow_succ]; omega
    have hs : splitN (2 ^ (j + 1)) = 2 ^ j := split_eq (by omega) (Nat.le_refl _)
    rw [depth_hi (by omega) (by omega), hs, show 2 ^ (j + 1) - 2 ^ j = 2 ^ j by omega, show 2 ^ (j + 1) - 1 - 2 ^ j = 2 ^ j - 1 by omega, ih]
/-- The last path ends at the root of the full part. -/
theorem path_last {l : List (List UInt8)} (h : 2 ≤ l.length) : ∃ q, pathM l (l.length - 1) = q ++ [rootM (l.take (splitN l.length))] := by
  have := split_lt h
  exact ⟨_, path_hi h (by omega)⟩
/-! ### Growth -/
def proofM (m : Nat) (l : List (List UInt8)) (whole : Bool) : List (List UInt8) :=
  if l.length ≤ m then (if whole then [] else [rootM l]) else if l.length ≤ 1 then [] else if m ≤ splitN l.length then proofM m (l.take (splitN l.length)) whole ++ [rootM (l.drop (splitN l.length))] else proofM (m - splitN l.length) (l.drop (splitN l.length)) false ++ [rootM (l.take (splitN l.length))]
termination_by l.length
decreasing_by
  · have := split_lt (n := l.length) (by omega); rw [List.length_take]; omega
  · have := split_pos l.length; rw [List.length_drop]; omega
theorem proof_all {m : Nat} {l : List (List UInt8)} (h : m = l.length) (whole : Bool) : proofM m l whole = if whole then [] else [rootM l] := by rw [proofM, if_pos (by omega)]
theorem proof_lo {m : Nat} {l : List (List UInt8)} (h0 : 1 ≤ m) (h : m < l.length) (hk : m ≤ splitN l.length) (whole : Bool) : proofM m l whole = proofM m (l.take (splitN l.length)) whole ++ [rootM (l.drop (splitN l.length))] := by
  rw [proofM, if_neg (by omega), if_neg (by omega), if_pos hk]
theorem proof_hi {m : Nat} {l : List (List UInt8)} (h0 : 1 ≤ m) (h : m < l.length) (hk : ¬ m ≤ splitN l.length) (whole : Bool) : proofM m l whole = proofM (m - splitN l.length) (l.drop (splitN l.length)) false ++ [rootM (l.take (splitN l.length))] := by
  rw [proofM, if_neg (by omega), if_neg (by omega), if_neg hk]
def plenM (m n : Nat) (whole : Bool) : Nat := if n ≤ m then (if whole then 0 else 1) else if n ≤ 1 then 0 else if m ≤ splitN n then plenM m (splitN n) whole + 1 else plenM (m - splitN n) (n - splitN n) false + 1
termination_by n
decreasing_by
  · exact split_lt (by omega)
  · have := split_pos n; omega
theorem plen_all {m n : Nat} (h : m = n) (whole : Bool) : plenM m n whole = if whole then 0 else 1 := by rw [plenM, if_pos (by omega)]
theorem plen_lo {m n : Nat} (h0 : 1 ≤ m) (h : m < n) (hk : m ≤ splitN n) (whole : Bool) : plenM m n whole = plenM m (splitN n) whole + 1 := by rw [plenM, if_neg (by omega), if_neg (by omega), if_pos hk]
theorem plen_hi {m n : Nat} (h0 : 1 ≤ m) (h : m < n) (hk : ¬ m ≤ splitN n) (whole : Bool) : plenM m n whole = plenM (m - splitN n) (n - splitN n) false + 1 := by rw [plenM, if_neg (by omega), if_neg (by omega), if_neg hk]
/-- Both roots that a proof gives. -/
def grownM (m n : Nat) (whole : Bool) (old : List UInt8) (p : List (List UInt8)) : List UInt8 × List UInt8 :=
  if n ≤ m then (if whole then (old, old) else (p.getD 0 [], p.getD 0 [])) else if n ≤ 1 then ([], []) else if m ≤ splitN n then ((grownM m (splitN n) whole old p).1, nodeM (grownM m (splitN n) whole old p).2 (p.getD (plenM m (splitN n) whole) [])) else (nodeM (p.getD (plenM (m - splitN n) (n - splitN n) false) []) (grownM (m - splitN n) (n - splitN n) false old p).1, nodeM (p.getD (plenM (m - splitN n) (n - splitN n) false) []) (grownM (m - splitN n) (n - splitN n) false old p).2)
termination_by n
decreasing_by
  all_goals first | (have := split_pos n; omega) | exact split_lt (by omega)
theorem grown_all {m n : Nat} (h : m = n) (whole : Bool) (old : List UInt8) (p : List (List UInt8)) : grownM m n whole old p = if whole then (old, old) else (p.getD 0 [], p.getD 0 []) := by rw [grownM, if_pos (by omega)]
theorem grown_lo {m n : Nat} (h0 : 1 ≤ m) (h : m < n) (hk : m ≤ splitN n) (whole : Bool) (old : List UInt8) (p : List (List UInt8)) : grownM m n whole old p = ((grownM m (splitN n) whole old p).1, nodeM (grownM m (splitN n) whole old p).2 (p.getD (plenM m (splitN n) whole) [])) := by rw [grownM, if_neg (by omega), if_neg (by omega), if_pos hk]
theorem grown_hi {m n : Nat} (h0 : 1 ≤ m) (h : m < n) (hk : ¬ m ≤ splitN n) (whole : Bool) (old : List UInt8) (p : List (List UInt8)) : grownM m n whole old p = (nodeM (p.getD (plenM (m - splitN n) (n - splitN n) false) []) (grownM (m - splitN n) (n - splitN n) false old p).1, nodeM (p.getD (plenM (m - splitN n) (n - splitN n) false) []) (grownM (m - splitN n) (n - splitN n) false old p).2) := by rw [grownM, if_neg (by omega), if_neg (by omega), if_neg hk]
theorem plen_pos : ∀ (n m : Nat), 1 ≤ m → m ≤ n → 1 ≤ plenM m n false := by
  intro n m h0 h
  by_cases hm : m = n
  · rw [plen_all hm]; decide
  · by_cases hk : m ≤ splitN n
    · rw [plen_lo h0 (by omega) hk]; omega
    · rw [plen_hi h0 (by omega) hk]; omega
theorem grown_app (old : List UInt8) (p q : List (List UInt8)) : ∀ (n m : Nat) (whole : Bool), 1 ≤ m → m ≤ n → plenM m n whole ≤ p.length → grownM m n whole old (p ++ q) = grownM m n whole old p := by
  intro n
  induction n using Nat.strongRecOn with
  | _ n ih =>
    intro m whole h0 h hd
    by_cases hm : m = n
    · rw [plen_all hm] at hd
      rw [grown_all hm, grown_all hm]
      cases whole
      · simp only [Bool.false_eq_true, if_false] at hd ⊢
        rw [getD_app (by omega)]
      · rfl
    · have h1 := split_pos n
      have h2 := split_lt (n := n) (by omega)
      by_cases hk : m ≤ splitN n
      · rw [plen_lo h0 (by omega) hk] at hd
        rw [grown_lo h0 (by omega) hk, grown_lo h0 (by omega) hk, ih _ h2 m whole h0 hk (by omega), getD_app (by omega)]
      · rw [plen_hi h0 (by omega) hk] at hd
        rw [grown_hi h0 (by omega) hk, grown_hi h0 (by omega) hk, ih _ (by omega) _ false (by omega) (by omega) (by omega), getD_app (by omega)]
theorem proof_len : ∀ (n : Nat) (l : List (List UInt8)) (m : Nat) (whole : Bool), l.length = n → 1 ≤ m → m ≤ n → (proofM m l whole).length = plenM m n whole := by
  intro n
  induction n using Nat.strongRecOn with
  | _ n ih =>
    intro l m whole hl h0 h
    subst hl
    by_cases hm : m = l.length
    · rw [proof_all hm, plen_all hm]
      cases whole <;> rfl
    · have h1 := split_pos l.length
      have h2 := split_lt (n := l.length) (by omega)
      by_cases hk : m ≤ splitN l.length
      · rw [proof_lo h0 (by omega) hk, plen_lo h0 (by omega) hk, List.length_append, ih _ h2 _ m whole (by rw [List.length_take]; omega) h0 hk]; rfl
      · rw [proof_hi h0 (by omega) hk, plen_hi h0 (by omega) hk, List.length_append, ih _ (by omega) _ _ false List.length_drop (by omega) (by omega)]; rfl
/-- A proof gives both roots. -/
theorem grown_proof : ∀ (n : Nat) (l : List (List UInt8)) (m : Nat) (whole : Bool) (old : List UInt8), l.length = n → 1 ≤ m → m ≤ n → (whole = true → old = rootM (l.take m)) → grownM m n whole old (proofM m l whole) = (rootM (l.take m), rootM l) := by
  intro n
  induction n using Nat.strongRecOn with
  | _ n ih =>
    intro l m whole old hl h0 h ho
    subst hl
    by_cases hm : m = l.length
    · rw [proof_all hm, grown_all hm]
      have ht : l.take m = l := List.take_of_length_le (by omega)
      rw [ht] at ho ⊢
      cases whole
      · rfl
      · rw [ho rfl]; rfl
    · have h1 := split_pos l.length
      have h2 := split_lt (n := l.length) (by omega)
      by_cases hk : m ≤ splitN l.length
      · have hl1 : (l.take (splitN l.length)).length = splitN l.length := by rw [List.length_take]; omega
        have ht : (l.take (splitN l.length)).take m = l.take m := by rw [List.take_take, Nat.min_eq_left hk]
        have e1 := ih _ h2 _ m whole old hl1 h0 hk (by rw [ht]; exact ho)
        have e2 := proof_len _ _ m whole hl1 h0 hk
        rw [ht] at e1
        rw [proof_lo h0 (by omega) hk, grown_lo h0 (by omega) hk, grown_app _ _ _ _ _ _ h0 hk (by omega), e1, getD_end e2, ← root_2 (by omega)]
      · have hl1 : (l.drop (splitN l.length)).length = l.length - splitN l.length := List.length_drop
        have e1 := ih _ (by omega) _ (m - splitN l.length) false old hl1 (by omega) (by omega) (by intro h; cases h)
        have e2 := proof_len _ _ (m - splitN l.length) false hl1 (by omega) (by omega)
        have hml : (l.take m).length = m := by rw [List.length_take]; omega
        have hs : splitN m = splitN l.length := split_mid (by omega) (by omega) (by omega)
        have hr : rootM (l.take m) = nodeM (rootM (l.take (splitN l.length))) (rootM ((l.drop (splitN l.length)).take (m - splitN l.length))) := by
          rw [root_2 (l := l.take m) (by omega), hml, hs, List.take_take, Nat.min_eq_left (by omega), List.drop_take]
        rw [proof_hi h0 (by omega) hk, grown_hi h0 (by omega) hk, grown_app _ _ _ _ _ _ (by omega) (by omega) (by omega), e1, getD_end e2, hr, ← root_2 (by omega)]
end Go.Proofs.YtalilcljonkmaaaDoor
