/- Layer 7: the ways up, as lists; the last common tree; both codes' proofs are the same. Pure. Own work. -/
import Derived.Test.YtalilcljonkmaaaDoorPt0
set_option linter.unusedVariables false
set_option linter.unusedSimpArgs false
namespace Go.Proofs.YtalilcljonkmaaaDoor
open Go.RowKit

/-! ### The way up from a tree of s leaves with leaf i -/
def wayM (n i s : Nat) : List Bool := if n ≤ s then [] else if n ≤ 1 then [] else if i < splitN n then wayM (splitN n) i s ++ [false] else wayM (n - splitN n) (i - splitN n) s ++ [true]
termination_by n
decreasing_by
  · exact split_lt (by omega)
  · have := split_pos n; omega
theorem way_0 {n s : Nat} (h : n ≤ s) (i : Nat) : wayM n i s = [] := by rw [wayM, if_pos h]
theorem way_lo {n i s : Nat} (h0 : 1 ≤ s) (h : s < n) (hi : i < splitN n) : wayM n i s = wayM (splitN n) i s ++ [false] := by rw [wayM, if_neg (by omega), if_neg (by omega), if_pos hi]
theorem way_hi {n i s : Nat} (h0 : 1 ≤ s) (h : s < n) (hi : ¬ i < splitN n) : wayM n i s = wayM (n - splitN n) (i - splitN n) s ++ [true] := by rw [wayM, if_neg (by omega), if_neg (by omega), if_neg hi]
def othM (l : List (List UInt8)) (i s : Nat) : List (List UInt8) :=
  if l.length ≤ s then [] else if l.length ≤ 1 then [] else if i < splitN l.length then othM (l.take (splitN l.length)) i s ++ [rootM (l.drop (splitN l.length))] else othM (l.drop (splitN l.length)) (i - splitN l.length) s ++ [rootM (l.take (splitN l.length))]
termination_by l.length
decreasing_by
  · have := split_lt (n := l.length) (by omega); rw [List.length_take]; omega
  · have := split_pos l.length; rw [List.length_drop]; omega
theorem oth_0 {l : List (List UInt8)} {s : Nat} (h : l.length ≤ s) (i : Nat) : othM l i s = [] := by rw [othM, if_pos h]
theorem oth_lo {l : List (List UInt8)} {i s : Nat} (h0 : 1 ≤ s) (h : s < l.length) (hi : i < splitN l.length) : othM l i s = othM (l.take (splitN l.length)) i s ++ [rootM (l.drop (splitN l.length))] := by rw [othM, if_neg (by omega), if_neg (by omega), if_pos hi]
theorem oth_hi {l : List (List UInt8)} {i s : Nat} (h0 : 1 ≤ s) (h : s < l.length) (hi : ¬ i < splitN l.length) : othM l i s = othM (l.drop (splitN l.length)) (i - splitN l.length) s ++ [rootM (l.take (splitN l.length))] := by rw [othM, if_neg (by omega), if_neg (by omega), if_neg hi]
theorem way_len1 : ∀ (n i : Nat), (wayM n i 1).length = depthM n i := by
  intro n
  induction n using Nat.strongRecOn with
  | _ n ih =>
    intro i
    by_cases h : 2 ≤ n
    · have h1 := split_pos n
      by_cases hi : i < splitN n
      · rw [way_lo (by decide) (by omega) hi, depth_lo h hi, List.length_append, ih _ (split_lt h)]; rfl
      · rw [way_hi (by decide) (by omega) hi, depth_hi h hi, List.length_append, ih _ (by omega)]; rfl
    · rw [way_0 (by omega), depth_1 (by omega)]; rfl
theorem oth_path : ∀ (n : Nat) (l : List (List UInt8)) (i : Nat), l.length = n → othM l i 1 = pathM l i := by
  intro n
  induction n using Nat.strongRecOn with
  | _ n ih =>
    intro l i hl
    subst hl
    by_cases h : 2 ≤ l.length
    · have h1 := split_pos l.length
      have h2 := split_lt h
      by_cases hi : i < splitN l.length
      · rw [oth_lo (by decide) (by omega) hi, path_lo h hi, ih _ h2 _ i (by rw [List.length_take]; omega)]
      · rw [oth_hi (by decide) (by omega) hi, path_hi h hi, ih _ (by omega) _ _ List.length_drop]
    · rw [oth_0 (by omega), path_1 (by omega)]
theorem way_le : ∀ (n i s : Nat), (wayM n i s).length ≤ n := by
  intro n
  induction n using Nat.strongRecOn with
  | _ n ih =>
    intro i s
    by_cases h : n ≤ s
    · rw [way_0 h]; exact Nat.zero_le _
    · rw [wayM, if_neg h]
      by_cases h1 : n ≤ 1
      · rw [if_pos h1]; exact Nat.zero_le _
      · have h2 := split_lt (n := n) (by omega)
        have h3 := split_pos n
        rw [if_neg h1]
        split
        · have := ih _ h2 i s
          rw [List.length_append, List.length_singleton]; omega
        · have := ih (n - splitN n) (by omega) (i - splitN n) s
          rw [List.length_append, List.length_singleton]; omega
theorem oth_le : ∀ (n : Nat) (l : List (List UInt8)) (i s : Nat), l.length = n → (othM l i s).length ≤ n := by
  intro n
  induction n using Nat.strongRecOn with
  | _ n ih =>
    intro l i s hl
    subst hl
    by_cases h : l.length ≤ s
    · rw [oth_0 h]; exact Nat.zero_le _
    · rw [othM, if_neg h]
      by_cases h1 : l.length ≤ 1
      · rw [if_pos h1]; exact Nat.zero_le _
      · have h2 := split_lt (n := l.length) (by omega)
        have h3 := split_pos l.length
        rw [if_neg h1]
        split
        · have := ih _ h2 (l.take (splitN l.length)) i s (by rw [List.length_take]; omega)
          rw [List.length_append, List.length_singleton]; omega
        · have := ih (l.length - splitN l.length) (by omega) (l.drop (splitN l.length)) (i - splitN l.length) s List.length_drop
          rw [List.length_append, List.length_singleton]; omega
/-! ### The least power of two in a sum -/
def lowF : Nat → Nat → Nat
  | 0, _ => 1
  | f + 1, m => if m % 2 = 1 then 1 else 2 * lowF f (m / 2)
def lowN (m : Nat) : Nat := lowF 64 m
theorem lowF_le : ∀ (f m : Nat), 1 ≤ m → 1 ≤ lowF f m ∧ lowF f m ≤ m
  | 0, m, h => ⟨Nat.le_refl _, h⟩
  | f + 1, m, h => by
    unfold lowF
    split
    · omega
    · have := lowF_le f (m / 2) (by omega)
      omega
theorem low_le {m : Nat} (h : 1 ≤ m) : 1 ≤ lowN m ∧ lowN m ≤ m := lowF_le 64 m h
theorem lowF_pow : ∀ (j f : Nat), j ≤ f → lowF f (2 ^ j) = 2 ^ j
  | 0, 0, _ => rfl
  | 0, f + 1, _ => rfl
  | j + 1, 0, h => by omega
  | j + 1, f + 1, h => by
    have e : 2 ^ (j + 1) = 2 * 2 ^ j := by rw [Nat.pow_succ]; omega
    unfold lowF
    rw [if_neg (by omega), show 2 ^ (j + 1) / 2 = 2 ^ j by omega, lowF_pow j f (by omega)]
    omega
theorem low_pow {j : Nat} (h : j ≤ 64) : lowN (2 ^ j) = 2 ^ j := lowF_pow j 64 h
theorem lowF_sub : ∀ (j f m : Nat), 2 ^ j < m → m < 2 * 2 ^ j → lowF f (m - 2 ^ j) = lowF f m
  | _, 0, _, _, _ => rfl
  | 0, f + 1, m, h1, h2 => by simp at h1 h2; omega
  | j + 1, f + 1, m, h1, h2 => by
    have e : 2 ^ (j + 1) = 2 * 2 ^ j := by rw [Nat.pow_succ]; omega
    rw [lowF, lowF]
    by_cases ho : m % 2 = 1
    · rw [if_pos (by omega), if_pos ho]
    · rw [if_neg (by omega), if_neg ho, show (m - 2 ^ (j + 1)) / 2 = m / 2 - 2 ^ j by omega, lowF_sub j f (m / 2) (by omega) (by omega)]
theorem low_sub {n m : Nat} (hn : 2 ≤ n) (h : m < n) (hk : splitN n < m) : lowN (m - splitN n) = lowN m := by
  have := split_le hn
  unfold splitN at hk this ⊢
  exact lowF_sub _ _ _ hk (by omega)
theorem low_split {n : Nat} (h2 : 2 ≤ n) (h : n ≤ 1024) : lowN (splitN n) = splitN n := by
  have h1 := split_lt h2
  unfold splitN at h1 ⊢
  refine low_pow ?_
  have h3 : 2 ^ Nat.log2 (n - 1) < 2 ^ 10 := by omega
  have := (Nat.pow_lt_pow_iff_right (by decide)).1 h3
  omega
theorem split_split {n : Nat} (h : 2 ≤ splitN n) : splitN n = 2 * splitN (splitN n) := by
  unfold splitN at h ⊢
  generalize Nat.log2 (n - 1) = j at h ⊢
  cases j with
  | zero => simp at h
  | succ j =>
    have e : 2 ^ (j + 1) = 2 * 2 ^ j := by rw [Nat.pow_succ]; omega
    have := Nat.two_pow_pos j
    have h2 := split_eq (n := 2 ^ (j + 1)) (j := j) (by omega) (Nat.le_refl _)
    unfold splitN at h2
    rw [h2, e]
theorem low_bits : ∀ m : Fin 1025, 1 ≤ m.val → bits .and .i64 (m.val : Int) (-(m.val : Int)) = (lowN m.val : Int) := by decide +kernel
/-! ### Proofs of growth by both codes -/
def lastT (l : List (List UInt8)) (m : Nat) : List (List UInt8) := (l.drop (m - lowN m)).take (lowN m)
/-- Half way: the tree of m leaves is a tree of its own, or there are more leaves. -/
def Whole (m n : Nat) : Prop := m < n ∨ (m = n ∧ lowN m = m)
theorem proof_oth : ∀ (n : Nat) (l : List (List UInt8)) (m : Nat) (whole : Bool), l.length = n → n ≤ 1024 → 1 ≤ m → Whole m n → proofM m l whole = (if whole = true ∧ lowN m = m then othM l (m - 1) (lowN m) else rootM (lastT l m) :: othM l (m - 1) (lowN m)) := by
  intro n
  induction n using Nat.strongRecOn with
  | _ n ih =>
    intro l m whole hl hn h0 hw
    subst hl
    obtain ⟨q1, q2⟩ := low_le h0
    rcases hw with h | ⟨h, hp⟩
    · have h1 := split_pos l.length
      have h2 := split_lt (n := l.length) (by omega)
      by_cases hk : m ≤ splitN l.length
      · have hl1 : (l.take (splitN l.length)).length = splitN l.length := by rw [List.length_take]; omega
        have hW : Whole m (splitN l.length) := by
          rcases Nat.lt_or_ge m (splitN l.length) with h3 | h3
          · exact .inl h3
          · obtain rfl : m = splitN l.length := by omega
            exact .inr ⟨rfl, low_split (by omega) hn⟩
        have e1 := ih _ h2 _ m whole hl1 (by omega) h0 hW
        have e2 : lastT (l.take (splitN l.length)) m = lastT l m := by
          unfold lastT
          rw [List.drop_take, List.take_take]
          congr 1; omega
        rw [e2] at e1
        rw [proof_lo h0 h hk, e1, oth_lo (l := l) (i := m - 1) q1 (by omega) (by omega)]
        split <;> rfl
      · have hl1 : (l.drop (splitN l.length)).length = l.length - splitN l.length := List.length_drop
        have h4 := split_le (n := l.length) (by omega)
        have e0 := low_sub (n := l.length) (m := m) (by omega) h (by omega)
        obtain ⟨q3, q4⟩ := low_le (m := m - splitN l.length) (by omega)
        have e1 := ih _ (by omega) _ (m - splitN l.length) false hl1 (by omega) (by omega) (.inl (by omega))
        have e2 : lastT (l.drop (splitN l.length)) (m - splitN l.length) = lastT l m := by
          unfold lastT
          rw [e0, List.drop_drop, show splitN l.length + (m - splitN l.length - lowN m) = m - lowN m by omega]
        rw [e2, e0, if_neg (by simp)] at e1
        rw [proof_hi h0 h hk, e1, oth_hi (l := l) (i := m - 1) q1 (by omega) (by omega), if_neg (by omega), show m - 1 - splitN l.length = m - splitN l.length - 1 by omega]
        rfl
    · subst h
      have ht : lastT l l.length = l := by unfold lastT; rw [hp, Nat.sub_self, List.drop_zero]; exact List.take_of_length_le (Nat.le_refl _)
      rw [proof_all rfl, oth_0 (by omega), ht]
      cases whole <;> simp [hp]
/-- The elements of a path, used up from below. -/
def clF (t : List UInt8) (p : List (List UInt8)) (w : List Bool) : Nat → List UInt8
  | 0 => t
  | j + 1 => if w.getD j false = true then nodeM (p.getD j []) (clF t p w j) else nodeM (clF t p w j) (p.getD j [])
theorem getB_app {w v : List Bool} {j : Nat} (h : j < w.length) : (w ++ v).getD j false = w.getD j false := by
  rw [List.getD_eq_getElem?_getD, List.getD_eq_getElem?_getD, List.getElem?_append_left h]
theorem getB_end {w : List Bool} {x : Bool} : (w ++ [x]).getD w.length false = x := by
  rw [List.getD_eq_getElem?_getD, List.getElem?_append_right (Nat.le_refl _), Nat.sub_self]; rfl
theorem clF_app (t : List UInt8) (p : List (List UInt8)) (w v : List Bool) : ∀ j, j ≤ w.length → clF t p (w ++ v) j = clF t p w j
  | 0, _ => rfl
  | j + 1, h => by rw [clF, clF, clF_app t p w v j (by omega), getB_app (by omega)]
theorem climb_cl (leaf : List UInt8) (p : List (List UInt8)) : ∀ (n i : Nat), climbM n i leaf p = clF (leafM leaf) p (wayM n i 1) (wayM n i 1).length := by
  intro n
  induction n using Nat.strongRecOn with
  | _ n ih =>
    intro i
    by_cases h : 2 ≤ n
    · have h1 := split_pos n
      by_cases hi : i < splitN n
      · rw [climb_lo h hi, way_lo (by decide) (by omega) hi, List.length_append, List.length_singleton, clF, clF_app _ _ _ _ _ (Nat.le_refl _), getB_end, ih _ (split_lt h), if_neg (by simp), way_len1]
      · rw [climb_hi h hi, way_hi (by decide) (by omega) hi, List.length_append, List.length_singleton, clF, clF_app _ _ _ _ _ (Nat.le_refl _), getB_end, ih _ (by omega), if_pos rfl, way_len1]
    · rw [climb_1 (by omega), way_0 (by omega)]; rfl
def grF (c : List UInt8) (p : List (List UInt8)) (w : List Bool) : Nat → List UInt8 × List UInt8
  | 0 => (c, c)
  | j + 1 => if w.getD j false = true then (nodeM (p.getD j []) (grF c p w j).1, nodeM (p.getD j []) (grF c p w j).2) else ((grF c p w j).1, nodeM (grF c p w j).2 (p.getD j []))
theorem grF_app (c : List UInt8) (p : List (List UInt8)) (w v : List Bool) : ∀ j, j ≤ w.length → grF c p (w ++ v) j = grF c p w j
  | 0, _ => rfl
  | j + 1, h => by rw [grF, grF, grF_app c p w v j (by omega), getB_app (by omega)]
theorem getD_drop1 (p : List (List UInt8)) (j : Nat) : (p.drop 1).getD j [] = p.getD (j + 1) [] := by
  rw [List.getD_eq_getElem?_getD, List.getD_eq_getElem?_getD, List.getElem?_drop, Nat.add_comm]
/-- What a proof gives, by the elements from below. -/
theorem grown_gr (old : List UInt8) (p : List (List UInt8)) : ∀ (n m : Nat) (whole : Bool), n ≤ 1024 → 1 ≤ m → Whole m n →
    (whole = true ∧ lowN m = m → plenM m n whole = (wayM n (m - 1) (lowN m)).length ∧ grownM m n whole old p = grF old p (wayM n (m - 1) (lowN m)) (wayM n (m - 1) (lowN m)).length) ∧
    (¬ (whole = true ∧ lowN m = m) → plenM m n whole = (wayM n (m - 1) (lowN m)).length + 1 ∧ grownM m n whole old p = grF (p.getD 0 []) (p.drop 1) (wayM n (m - 1) (lowN m)) (wayM n (m - 1) (lowN m)).length) := by
  intro n
  induction n using Nat.strongRecOn with
  | _ n ih =>
    intro m whole hn h0 hw
    obtain ⟨q1, q2⟩ := low_le h0
    rcases hw with h | ⟨h, hp⟩
    · have h1 := split_pos n
      have h2 := split_lt (n := n) (by omega)
      by_cases hk : m ≤ splitN n
      · have hW : Whole m (splitN n) := by
          rcases Nat.lt_or_ge m (splitN n) with h3 | h3
          · exact .inl h3
          · obtain rfl : m = splitN n := by omega
            exact .inr ⟨rfl, low_split (by omega) hn⟩
        obtain ⟨e1, e2⟩ := ih _ h2 m whole (by omega) h0 hW
        rw [plen_lo h0 h hk, grown_lo h0 h hk, way_lo (i := m - 1) q1 (by omega) (by omega), List.length_append, List.length_singleton]
        refine ⟨fun hc => ?_, fun hc => ?_⟩
        · obtain ⟨e3, e4⟩ := e1 hc
          refine ⟨by omega, ?_⟩
          rw [grF, grF_app _ _ _ _ _ (Nat.le_refl _), getB_end, if_neg (by simp), e3, e4]
        · obtain ⟨e3, e4⟩ := e2 hc
          refine ⟨by omega, ?_⟩
          rw [grF, grF_app _ _ _ _ _ (Nat.le_refl _), getB_end, if_neg (by simp), e3, e4, getD_drop1]
      · have h4 := split_le (n := n) (by omega)
        have e0 := low_sub (n := n) (m := m) (by omega) h (by omega)
        obtain ⟨q3, q4⟩ := low_le (m := m - splitN n) (by omega)
        obtain ⟨e1, e2⟩ := ih (n - splitN n) (by omega) (m - splitN n) false (by omega) (by omega) (.inl (by omega))
        obtain ⟨e3, e4⟩ := e2 (by simp)
        rw [e0] at e3 e4
        rw [plen_hi h0 h hk, grown_hi h0 h hk, way_hi (i := m - 1) q1 (by omega) (by omega), List.length_append, List.length_singleton, show m - 1 - splitN n = m - splitN n - 1 by omega]
        refine ⟨fun hc => by omega, fun _ => ⟨by omega, ?_⟩⟩
        rw [grF, grF_app _ _ _ _ _ (Nat.le_refl _), getB_end, if_pos rfl, e3, e4, getD_drop1]
    · subst h
      rw [plen_all rfl, grown_all rfl, way_0 (by omega)]
      refine ⟨fun hc => ?_, fun hc => ?_⟩
      · rw [hc.1]; exact ⟨rfl, rfl⟩
      · have : whole = false := by cases whole <;> simp_all
        subst this
        exact ⟨rfl, rfl⟩
theorem plen_le : ∀ (n m : Nat) (whole : Bool), 1 ≤ m → m ≤ n → plenM m n whole ≤ n := by
  intro n
  induction n using Nat.strongRecOn with
  | _ n ih =>
    intro m whole h0 h
    by_cases hm : m = n
    · rw [plen_all hm]; split <;> omega
    · have h1 := split_pos n
      have h2 := split_lt (n := n) (by omega)
      by_cases hk : m ≤ splitN n
      · have := ih _ h2 m whole h0 hk
        rw [plen_lo h0 (by omega) hk]; omega
      · have := ih (n - splitN n) (by omega) (m - splitN n) false (by omega) (by omega)
        rw [plen_hi h0 (by omega) hk]; omega
theorem leafM_len (b : List UInt8) : (leafM b).length = 32 := sumK_len _
theorem nodeM_len (l r : List UInt8) : (nodeM l r).length = 32 := sumK_len _
theorem rootM_len (l : List (List UInt8)) : (rootM l).length = 32 := by
  rw [rootM]
  split
  · exact sumK_len _
  · split
    · exact leafM_len _
    · exact nodeM_len _ _
end Go.Proofs.YtalilcljonkmaaaDoor
