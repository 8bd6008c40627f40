/- Layer 5: subkeys, the code of a message, vectors, as functions of lists. Own work. -/
import Derived.Test.YtnadfnnkdnakhaaPc2
set_option linter.unusedVariables false
set_option linter.unusedSimpArgs false
namespace Go.Proofs.Ytnadfnnkdnakhaa
open Go.RowKit

/-! ### Double -/
def dblF (b : B16) : B16 := fun j => xorB (xorB (shlB (b j) 1) (if j < 15 then shrB (b (j + 1)) 7 else 0)) (if j = 15 then selB (bitB (b 0) 7) 135 else 0)
theorem shl1_lin : linB fun x => shlB x 1 := lin_of fun x => by
  have := all_b (p := fun x => shlB x 1 == sumB (fun x => shlB x 1) x 8) (by decide +kernel) x
  rw [beq_iff_eq] at this
  exact this
theorem shr7_lin : linB fun x => shrB x 7 := lin_of fun x => by
  have := all_b (p := fun x => shrB x 7 == sumB (fun x => shrB x 7) x 8) (by decide +kernel) x
  rw [beq_iff_eq] at this
  exact this
theorem dblF_lin (a b : B16) (j : Nat) : dblF (addF a b) j = xorB (dblF a j) (dblF b j) := by
  have h1 := shl1_lin
  have h2 := shr7_lin
  unfold linB at h1 h2
  unfold dblF addF
  simp only [h1, h2, bitB_xor, selB_xor]
  split <;> split <;> (try simp only [xorB_zero]) <;> ac_rfl
theorem or_low (x y : UInt8) : orB (shlB x 1) (shrB y 7) = xorB (shlB x 1) (shrB y 7) := by
  have h : shrB y 7 = 0 ∨ shrB y 7 = 1 := by
    have := all_b (p := fun y => shrB y 7 == 0 || shrB y 7 == 1) (by decide +kernel) y
    simpa using this
  rcases h with h | h <;> rw [h]
  · have := all_b (p := fun x => orB (shlB x 1) 0 == xorB (shlB x 1) 0) (by decide +kernel) x
    rw [beq_iff_eq] at this; exact this
  · have := all_b (p := fun x => orB (shlB x 1) 1 == xorB (shlB x 1) 1) (by decide +kernel) x
    rw [beq_iff_eq] at this; exact this
theorem dbl_end (x : UInt8) (c : Bool) (h : xorB (shlB x 1) (selB c 135) = 0) : c = false ∧ shlB x 1 = 0 := by
  cases c
  · exact ⟨rfl, by rwa [show selB false 135 = 0 from rfl, xorB_zero] at h⟩
  · exfalso
    have := all_b (p := fun x => !(xorB (shlB x 1) (selB true 135) == 0)) (by decide +kernel) x
    simp [h] at this
theorem dbl_mid (x y : UInt8) (h : xorB (shlB x 1) (shrB y 7) = 0) : shlB x 1 = 0 ∧ shrB y 7 = 0 := by
  have h2 : shrB y 7 = 0 ∨ shrB y 7 = 1 := by
    have := all_b (p := fun y => shrB y 7 == 0 || shrB y 7 == 1) (by decide +kernel) y
    simpa using this
  rcases h2 with h2 | h2 <;> rw [h2] at h
  · exact ⟨by rwa [xorB_zero] at h, h2⟩
  · exfalso
    have := all_b (p := fun x => !(xorB (shlB x 1) 1 == 0)) (by decide +kernel) x
    simp [h] at this
theorem byte_zero (x : UInt8) (h1 : shlB x 1 = 0) (h2 : bitB x 7 = false) : x = 0 := by
  have := all_b (p := fun x => !(shlB x 1 == 0) || bitB x 7 || x == 0) (by decide +kernel) x
  simpa [h1, h2] using this
theorem bit_shr (x : UInt8) (h : shrB x 7 = 0) : bitB x 7 = false := by
  have := all_b (p := fun x => !(shrB x 7 == 0) || !bitB x 7) (by decide +kernel) x
  simpa [h] using this
theorem dblF_ker (z : B16) (h : ∀ j, j < 16 → dblF z j = 0) : ∀ j, j < 16 → z j = 0 := by
  have he := h 15 (by decide)
  simp only [dblF, Nat.lt_irrefl, if_false, if_true, xorB_zero] at he
  obtain ⟨h0, h15⟩ := dbl_end _ _ he
  have hm : ∀ j, j < 15 → shlB (z j) 1 = 0 ∧ shrB (z (j + 1)) 7 = 0 := fun j hj => by
    have := h j (by omega)
    simp only [dblF, if_pos hj, if_neg (show ¬ j = 15 by omega), xorB_zero] at this
    exact dbl_mid _ _ this
  intro j hj
  refine byte_zero _ ?_ ?_
  · by_cases hj' : j < 15
    · exact (hm j hj').1
    · obtain rfl : j = 15 := by omega
      exact h15
  · rcases j with _ | j
    · exact h0
    · exact bit_shr _ (hm j (by omega)).2
theorem xor_eq_zero {x y : UInt8} (h : xorB x y = 0) : x = y := by
  rw [← xorB_zero x, ← xorB_self y, ← xorB_assoc, h, zero_xorB]
theorem dblF_inj {a b : B16} (h : sameF (dblF a) (dblF b)) : sameF a b := by
  have := dblF_ker (addF a b) (fun j hj => by rw [dblF_lin, h j hj, xorB_self])
  exact fun j hj => xor_eq_zero (this j hj)
def dblL (b : List UInt8) : List UInt8 := if b.length = 16 then toL (dblF (ofB16 b)) else []
theorem dblL_len {b : List UInt8} (h : b.length = 16) : (dblL b).length = 16 := by rw [dblL, if_pos h, toL_len]
theorem dblL_inj {a b : List UInt8} (ha : a.length = 16) (hb : b.length = 16) (h : dblL a = dblL b) : a = b := by
  rw [dblL, dblL, if_pos ha, if_pos hb] at h
  rw [← toL_of ha, ← toL_of hb, toL_congr (dblF_inj (toL_inj h))]

/-! ### A list, combined with the beginning of another one -/
def xorP : List UInt8 → List UInt8 → List UInt8
  | x :: a, y :: b => xorB x y :: xorP a b
  | a, _ => a
theorem xorP_nil (a : List UInt8) : xorP a [] = a := by cases a <;> rfl
theorem xorP_len : ∀ a b : List UInt8, (xorP a b).length = a.length
  | [], _ => by simp [xorP]
  | x :: a, [] => rfl
  | x :: a, y :: b => by simp [xorP, xorP_len a b]
theorem xorP_get : ∀ (a b : List UInt8) (i : Nat), i < a.length → i < b.length → (xorP a b).getD i 0 = xorB (a.getD i 0) (b.getD i 0)
  | [], _, _, h, _ => by simp at h
  | x :: a, [], _, _, h => by simp at h
  | x :: a, y :: b, 0, _, _ => rfl
  | x :: a, y :: b, i + 1, h, g => by
    show (xorP a b).getD i 0 = _
    rw [xorP_get a b i (by simpa using h) (by simpa using g)]; rfl
theorem xorP_eq : ∀ {a b : List UInt8}, a.length ≤ b.length → xorP a b = xorL a b
  | [], _, _ => by simp [xorP, xorL]
  | x :: a, [], h => by simp at h
  | x :: a, y :: b, h => by
    have := xorP_eq (a := a) (b := b) (by simpa using h)
    simp only [xorL] at this
    simp [xorP, xorL, this]
theorem xorP_inj : ∀ {a b k : List UInt8}, a.length = b.length → xorP a k = xorP b k → a = b
  | [], [], _, _, _ => rfl
  | [], y :: b, _, h, _ => by simp at h
  | x :: a, [], _, h, _ => by simp at h
  | x :: a, y :: b, [], _, h => by simpa [xorP_nil] using h
  | x :: a, y :: b, z :: k, hl, h => by
    simp only [xorP, List.cons.injEq] at h
    have h1 := xorP_inj (a := a) (b := b) (k := k) (by simpa using hl) h.2
    have h2 : x = y := by
      have := congrArg (fun t => xorB t z) h.1
      simp only [xorB_assoc, xorB_self, xorB_zero] at this
      exact this
    rw [h1, h2]
theorem xorP_add {a b k : List UInt8} (ha : a.length = 16) (hb : b.length = 16) : xorP a b = toL (addF (ofB16 a) (ofB16 b)) := by
  apply List.ext_getElem?
  intro i
  by_cases hi : i < 16
  · rw [toL_get _ hi]
    have h := xorP_get a b i (by omega) (by omega)
    have hl : i < (xorP a b).length := by rw [xorP_len]; omega
    rw [List.getD_eq_getElem?_getD, List.getElem?_eq_getElem hl] at h
    rw [List.getElem?_eq_getElem hl]
    simpa [addF, ofB16] using h
  · rw [List.getElem?_eq_none (by rw [xorP_len]; omega), List.getElem?_eq_none (by rw [toL_len]; omega)]
theorem ofB_toL (f : B16) : sameF (ofB16 (toL f)) f := by
  intro j hj
  rw [ofB16, List.getD_eq_getElem?_getD, toL_get _ hj]; rfl
theorem dblF_congr {a b : B16} (h : sameF a b) : sameF (dblF a) (dblF b) := by
  intro j hj
  unfold dblF
  rw [h j hj, h 0 (by decide)]
  by_cases h1 : j < 15
  · rw [h (j + 1) (by omega)]
  · simp only [if_neg h1]
/-- Double is linear. -/
theorem dblL_xor {a b : List UInt8} (ha : a.length = 16) (hb : b.length = 16) : dblL (xorP a b) = xorP (dblL a) (dblL b) := by
  have h1 : (xorP a b).length = 16 := by rw [xorP_len]; exact ha
  rw [xorP_add (k := []) (dblL_len ha) (dblL_len hb), dblL, if_pos h1, dblL, dblL, if_pos ha, if_pos hb]
  refine toL_congr fun j hj => ?_
  rw [xorP_add (k := []) ha hb, dblF_congr (ofB_toL _) j hj, dblF_lin]
  show _ = xorB (ofB16 (toL _) j) (ofB16 (toL _) j)
  rw [ofB_toL _ j hj, ofB_toL _ j hj]

/-! ### The code of a message -/
def zero16 : List UInt8 := List.replicate 16 0
def padL (b : List UInt8) : List UInt8 := b ++ List.replicate ((16 - b.length % 16) % 16) 0
def sub1 (rk : List UInt8) : List UInt8 := dblL (encK rk zero16)
def sub2 (rk : List UInt8) : List UInt8 := dblL (sub1 rk)
def cbcM (rk b : List UInt8) : Nat → List UInt8
  | 0 => zero16
  | n + 1 => encK rk (xorP (cbcM rk b n) ((b.drop (16 * n)).take 16))
/-- How many blocks lie ahead of the last one. -/
def aheadM (b : List UInt8) : Nat := (b.length + 15) / 16 - 1
def endM (rk e : List UInt8) : List UInt8 := if e.length = 16 then xorP e (sub1 rk) else xorP (padL (e ++ [128])) (sub2 rk)
def macM (rk b : List UInt8) : List UInt8 := encK rk (xorP (cbcM rk b (aheadM b)) (endM rk (b.drop (16 * aheadM b))))
theorem cbcM_len (rk b : List UInt8) : ∀ n, (cbcM rk b n).length = 16
  | 0 => by simp [cbcM, zero16]
  | n + 1 => encK_len _ _
theorem macM_len (rk b : List UInt8) : (macM rk b).length = 16 := encK_len _ _
theorem sub1_len (rk : List UInt8) : (sub1 rk).length = 16 := dblL_len (encK_len _ _)
theorem sub2_len (rk : List UInt8) : (sub2 rk).length = 16 := dblL_len (sub1_len _)
theorem padL_short {b : List UInt8} (h : b.length < 16) : (padL (b ++ [128])).length = 16 := by
  simp [padL]; omega
theorem endM_len {rk e : List UInt8} (h : e.length ≤ 16) : (endM rk e).length = 16 := by
  unfold endM
  split
  · rw [xorP_len]; assumption
  · rw [xorP_len, padL_short (by omega)]
/-- One block: the code is an encryption of it. -/
theorem macM_one {rk a b : List UInt8} (hl : a.length = b.length) (h16 : a.length ≤ 16) (h : macM rk a = macM rk b) : a = b := by
  have ha : aheadM a = 0 := by unfold aheadM; omega
  have hb : aheadM b = 0 := by unfold aheadM; omega
  unfold macM at h
  rw [ha, hb, Nat.mul_zero, List.drop_zero, List.drop_zero] at h
  have h1 := encK_inj (by rw [xorP_len, cbcM_len]) (by rw [xorP_len, cbcM_len]) h
  have hz : ∀ x : List UInt8, x.length = 16 → xorP zero16 x = x := fun x hx => by
    rw [xorP_eq (by rw [hx]; decide)]
    apply List.ext_getElem?
    intro i
    unfold xorL zero16
    rw [List.getElem?_zipWith, List.getElem?_replicate]
    by_cases hi : i < 16
    · rw [if_pos hi, List.getElem?_eq_getElem (by omega)]; simp [zero_xorB]
    · rw [if_neg hi, List.getElem?_eq_none (by omega)]
  have z : ∀ x, cbcM rk x 0 = zero16 := fun _ => rfl
  rw [z, z, hz _ (endM_len h16), hz _ (endM_len (by omega))] at h1
  unfold endM at h1
  by_cases h2 : a.length = 16
  · rw [if_pos h2, if_pos (by omega)] at h1
    exact xorP_inj hl h1
  · rw [if_neg h2, if_neg (by omega)] at h1
    have h3 := xorP_inj (by rw [padL_short (by omega), padL_short (by omega)]) h1
    unfold padL at h3
    rw [List.append_assoc, List.append_assoc] at h3
    exact (List.append_inj h3 hl).1
/-- The code of a list of messages. -/
def vecD (rk : List UInt8) (l : List (List UInt8)) : Nat → List UInt8
  | 0 => macM rk zero16
  | n + 1 => xorP (dblL (vecD rk l n)) (macM rk (l.getD n []))
def vecM (rk : List UInt8) (l : List (List UInt8)) : List UInt8 :=
  if l.length = 0 then macM rk (List.replicate 15 0 ++ [1])
  else
    let d := vecD rk l (l.length - 1)
    let s := l.getD (l.length - 1) []
    if 16 ≤ s.length then macM rk (s.take (s.length - 16) ++ xorP (s.drop (s.length - 16)) d)
    else macM rk (xorP (dblL d) (padL (s ++ [128])))
theorem vecD_len (rk : List UInt8) (l : List (List UInt8)) : ∀ n, (vecD rk l n).length = 16
  | 0 => macM_len _ _
  | n + 1 => by rw [vecD, xorP_len, dblL_len (vecD_len rk l n)]
theorem vecM_len (rk : List UInt8) (l : List (List UInt8)) : (vecM rk l).length = 16 := by
  unfold vecM
  split
  · exact macM_len _ _
  · dsimp only
    split <;> exact macM_len _ _
end Go.Proofs.Ytnadfnnkdnakhaa
