/- Layer 8: signatures by chains, as functions of lists. Pure. Own work. -/
import Derived.Test.YtgepbpcolddgoaaDoorPh5
set_option linter.unusedVariables false
set_option linter.unusedSimpArgs false
namespace Go.Proofs.YtgepbpcolddgoaaDoor
open Go.RowKit

/-! ### Digits -/
def halfN (b : List UInt8) : List Nat := b.flatMap fun x => [x.toNat / 16, x.toNat % 16]
def lackN (d : List Nat) : Nat := (d.map fun x => 15 - x).sum
def digN (b : List UInt8) : List Nat := halfN b ++ [lackN (halfN b) / 256, lackN (halfN b) / 16 % 16, lackN (halfN b) % 16]
def digA (b : List UInt8) (i : Nat) : Nat := (digN b).getD i 0
theorem halfN_len (b : List UInt8) : (halfN b).length = 2 * b.length := by
  induction b with
  | nil => rfl
  | cons x b ih =>
    have : halfN (x :: b) = [x.toNat / 16, x.toNat % 16] ++ halfN b := rfl
    rw [this, List.length_append, ih]; simp; omega
theorem halfN_le {b : List UInt8} : ∀ x ∈ halfN b, x ≤ 15 := by
  intro x hx
  unfold halfN at hx
  obtain ⟨y, _, hy⟩ := List.mem_flatMap.1 hx
  have := y.toNat_lt
  simp only [List.mem_cons, List.not_mem_nil, or_false] at hy
  rcases hy with rfl | rfl <;> omega
theorem halfN_inj : ∀ {a b : List UInt8}, a.length = b.length → halfN a = halfN b → a = b
  | [], [], _, _ => rfl
  | [], _ :: _, h, _ => by simp at h
  | _ :: _, [], h, _ => by simp at h
  | x :: a, y :: b, h, e => by
    have e1 : halfN (x :: a) = x.toNat / 16 :: x.toNat % 16 :: halfN a := rfl
    have e2 : halfN (y :: b) = y.toNat / 16 :: y.toNat % 16 :: halfN b := rfl
    rw [e1, e2] at e
    simp only [List.cons.injEq] at e
    obtain ⟨h1, h2, h3⟩ := e
    have hxy : x = y := UInt8.toNat_inj.1 (by omega)
    rw [hxy, halfN_inj (by simpa using h) h3]
theorem halfN_snoc (b : List UInt8) (x : UInt8) : halfN (b ++ [x]) = halfN b ++ [x.toNat / 16, x.toNat % 16] := by unfold halfN; rw [List.flatMap_append]; rfl
theorem lackN_app (a b : List Nat) : lackN (a ++ b) = lackN a + lackN b := by unfold lackN; rw [List.map_append, List.sum_append]
theorem lackN_le : ∀ (d : List Nat), lackN d ≤ 15 * d.length
  | [] => Nat.le_refl _
  | x :: d => by
    have h := lackN_le d
    have e : lackN (x :: d) = (15 - x) + lackN d := by unfold lackN; rw [List.map_cons, List.sum_cons]
    rw [e, List.length_cons]; omega
theorem digN_len (b : List UInt8) : (digN b).length = 2 * b.length + 3 := by unfold digN; rw [List.length_append, halfN_len]; rfl
theorem digN_le {b : List UInt8} (h : b.length = 16) : ∀ x ∈ digN b, x ≤ 15 := by
  intro x hx
  have h1 := lackN_le (halfN b)
  rw [halfN_len, h] at h1
  unfold digN at hx
  rcases List.mem_append.1 hx with hx | hx
  · exact halfN_le x hx
  · simp only [List.mem_cons, List.not_mem_nil, or_false] at hx
    rcases hx with rfl | rfl | rfl <;> omega
theorem digA_le {b : List UInt8} (h : b.length = 16) (i : Nat) : digA b i ≤ 15 := by
  unfold digA
  by_cases hi : i < (digN b).length
  · rw [List.getD_eq_getElem?_getD, List.getElem?_eq_getElem hi]
    exact digN_le h _ (List.getElem_mem hi)
  · rw [List.getD_eq_getElem?_getD, List.getElem?_eq_none (by omega)]; exact Nat.zero_le _
theorem digA_lo {b : List UInt8} {i : Nat} (hi : i < 2 * b.length) : digA b i = (halfN b).getD i 0 := by
  unfold digA digN
  rw [List.getD_eq_getElem?_getD, List.getD_eq_getElem?_getD, List.getElem?_append_left (by rw [halfN_len]; exact hi)]
theorem digA_hi {b : List UInt8} (h : b.length = 16) : digA b 32 = lackN (halfN b) / 256 ∧ digA b 33 = lackN (halfN b) / 16 % 16 ∧ digA b 34 = lackN (halfN b) % 16 := by
  have hl : (halfN b).length = 32 := by rw [halfN_len, h]
  unfold digA digN
  refine ⟨?_, ?_, ?_⟩ <;> (rw [List.getD_eq_getElem?_getD, List.getElem?_append_right (by omega), hl]; rfl)
theorem lackN_mono : ∀ {a b : List Nat}, a.length = b.length → (∀ i, i < a.length → b.getD i 0 ≤ a.getD i 0) → (∀ x ∈ a, x ≤ 15) → lackN a ≤ lackN b ∧ (lackN a = lackN b → a = b)
  | [], [], _, _, _ => ⟨Nat.le_refl _, fun _ => rfl⟩
  | [], _ :: _, h, _, _ => by simp at h
  | _ :: _, [], h, _, _ => by simp at h
  | x :: a, y :: b, h, hle, hb => by
    have ih := lackN_mono (a := a) (b := b) (by simpa using h) (fun i hi => by simpa using hle (i + 1) (by simpa using hi)) (fun z hz => hb z (List.mem_cons_of_mem _ hz))
    have h0 : y ≤ x := by simpa using hle 0 (by simp)
    have hx := hb x List.mem_cons_self
    have e1 : lackN (x :: a) = (15 - x) + lackN a := by unfold lackN; rw [List.map_cons, List.sum_cons]
    have e2 : lackN (y :: b) = (15 - y) + lackN b := by unfold lackN; rw [List.map_cons, List.sum_cons]
    rw [e1, e2]
    refine ⟨by omega, fun he => ?_⟩
    have h1 : lackN a = lackN b := by omega
    rw [ih.2 h1, show x = y by omega]
/-- Of two different digests each one has a digit that is less. -/
theorem dig_less {a b : List UInt8} (ha : a.length = 16) (hb : b.length = 16) (h : a ≠ b) : ∃ i, i < 35 ∧ digA a i < digA b i := by
  refine Classical.byContradiction fun hn => ?_
  have hle : ∀ i, i < 35 → digA b i ≤ digA a i := fun i hi => Nat.le_of_not_lt fun hlt => hn ⟨i, hi, hlt⟩
  have la : (halfN a).length = 32 := by rw [halfN_len, ha]
  have lb : (halfN b).length = 32 := by rw [halfN_len, hb]
  obtain ⟨m1, m2⟩ := lackN_mono (a := halfN a) (b := halfN b) (by omega) (fun i hi => by
    have := hle i (by omega)
    rwa [digA_lo (by omega), digA_lo (by omega)] at this) halfN_le
  obtain ⟨p1, p2, p3⟩ := digA_hi ha
  obtain ⟨q1, q2, q3⟩ := digA_hi hb
  have h1 := hle 32 (by decide)
  have h2 := hle 33 (by decide)
  have h3 := hle 34 (by decide)
  have b1 := lackN_le (halfN a)
  have b2 := lackN_le (halfN b)
  rw [p1, q1] at h1
  rw [p2, q2] at h2
  rw [p3, q3] at h3
  rw [la] at b1
  rw [lb] at b2
  exact h (halfN_inj (by omega) (m2 (by omega)))
/-- The digits say the sum. -/
theorem dig_sum {b : List UInt8} (h : b.length = 16) : lackN (halfN b) = 256 * digA b 32 + 16 * digA b 33 + digA b 34 := by
  obtain ⟨p1, p2, p3⟩ := digA_hi h
  have b1 := lackN_le (halfN b)
  rw [halfN_len, h] at b1
  rw [p1, p2, p3]; omega
theorem lackN_take {d : List Nat} {i : Nat} (h : i < d.length) : lackN (d.take (i + 1)) = lackN (d.take i) + (15 - d.getD i 0) := by
  have e : d.take (i + 1) = d.take i ++ [d.getD i 0] := by
    rw [List.take_succ_eq_append_getElem h, List.getD_eq_getElem?_getD, List.getElem?_eq_getElem h]; rfl
  rw [e, lackN_app]
  simp [lackN]
/-! ### Chains -/
theorem chainK_add (b : List UInt8) (m : Nat) : ∀ n, chainK (chainK b m) n = chainK b (m + n)
  | 0 => rfl
  | n + 1 => by rw [chainK, chainK_add b m n]; rfl
def secM (seed : List UInt8) (index : Nat) (c : Nat) : List UInt8 := shortK (seed ++ putL index 4 ++ [UInt8.ofNat c])
def endsM (f : Nat → List UInt8) (n : Nat) : List UInt8 := (List.range n).flatMap f
theorem endsM_succ (f : Nat → List UInt8) (n : Nat) : endsM f (n + 1) = endsM f n ++ f n := by unfold endsM; rw [List.range_succ, List.flatMap_append]; simp
theorem endsM_len {f : Nat → List UInt8} (h : ∀ i, (f i).length = 16) : ∀ n, (endsM f n).length = 16 * n
  | 0 => rfl
  | n + 1 => by rw [endsM_succ, List.length_append, endsM_len h n, h]; omega
theorem endsM_congr {f g : Nat → List UInt8} : ∀ {n : Nat}, (∀ i, i < n → f i = g i) → endsM f n = endsM g n
  | 0, _ => rfl
  | n + 1, h => by rw [endsM_succ, endsM_succ, endsM_congr (fun i hi => h i (by omega)), h n (by omega)]
def pubM (seed : List UInt8) (index : Nat) : List UInt8 := shortK (endsM (fun c => chainK (secM seed index c) 15) 35)
def sigN (seed : List UInt8) (index : Nat) (digest : List UInt8) (n : Nat) : List (List UInt8) := (List.range n).map fun c => chainK (secM seed index c) (digA digest c)
def sigM (seed : List UInt8) (index : Nat) (digest : List UInt8) : List (List UInt8) := sigN seed index digest 35
def recM (digest : List UInt8) (s : List (List UInt8)) : List UInt8 := shortK (endsM (fun c => chainK (s.getD c []) (15 - digA digest c)) 35)
theorem secM_len (seed : List UInt8) (index c : Nat) : (secM seed index c).length = 16 := shortK_len _
theorem chain16 {b : List UInt8} (h : b.length = 16) : ∀ n, (chainK b n).length = 16
  | 0 => h
  | n + 1 => shortK_len _
theorem sigN_len (seed : List UInt8) (index : Nat) (digest : List UInt8) (n : Nat) : (sigN seed index digest n).length = n := by unfold sigN; rw [List.length_map, List.length_range]
theorem sigN_succ (seed : List UInt8) (index : Nat) (digest : List UInt8) (n : Nat) : sigN seed index digest n ++ [chainK (secM seed index n) (digA digest n)] = sigN seed index digest (n + 1) := by unfold sigN; rw [List.range_succ, List.map_append]; rfl
theorem sig_get (seed : List UInt8) (index : Nat) (digest : List UInt8) {c : Nat} (h : c < 35) : (sigM seed index digest).getD c [] = chainK (secM seed index c) (digA digest c) := by
  unfold sigM sigN
  rw [List.getD_eq_getElem?_getD, List.getElem?_map, List.getElem?_range h]; rfl
theorem sig_mem {seed : List UInt8} {index : Nat} {digest : List UInt8} : ∀ x ∈ sigM seed index digest, x.length = 16 := by
  intro x hx
  unfold sigM sigN at hx
  obtain ⟨c, _, rfl⟩ := List.mem_map.1 hx
  exact chain16 (secM_len _ _ _) _
/-- A signature gives the public key back. -/
theorem rec_sig (seed : List UInt8) (index : Nat) {digest : List UInt8} (h : digest.length = 16) : recM digest (sigM seed index digest) = pubM seed index := by
  unfold recM pubM
  congr 1
  refine endsM_congr fun c hc => ?_
  have := digA_le h c
  rw [sig_get _ _ _ hc, chainK_add, show digA digest c + (15 - digA digest c) = 15 by omega]
end Go.Proofs.YtgepbpcolddgoaaDoor
