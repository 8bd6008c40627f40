/- Texts of one's own, merged: from: The laws of layer 7. Own work. -/
import Derived.Test.YtjgkchmdhicmpaaDoorMt12
import Derived.Test.YtjgkchmdhicmpaaDoorMt9
set_option linter.unusedVariables false
set_option linter.unusedSimpArgs false
namespace Go.Proofs.YtjgkchmdhicmpaaDoor
open Go.RowKit

theorem pathV_le (l : List (List UInt8)) (i : Int) : (pathV l i).length ≤ 1024 := by
  unfold pathV
  split
  · rename_i h
    have h2 : ¬ 1024 < l.length := fun h3 => by unfold pathE at h; rw [if_pos h3] at h; cases h
    rw [← oth_path _ l i.toNat rfl]
    have := oth_le _ l i.toNat 1 rfl
    omega
  · exact Nat.zero_le _
theorem consV_le (l : List (List UInt8)) (m : Int) : (consV l m).length ≤ 1024 := by
  unfold consV
  split
  · rename_i h
    have h2 : ¬ 1024 < l.length := fun h3 => by unfold consE at h; rw [if_pos h3] at h; cases h
    have h3 : ¬ (m < 1 ∨ (l.length : Int) < m) := fun h3 => by unfold consE at h; rw [if_neg h2, if_pos h3] at h; cases h
    rw [proof_len _ l m.toNat true rfl (by omega) (by omega)]
    have := plen_le l.length m.toNat true (by omega) (by omega)
    omega
  · exact Nat.zero_le _
def taSt (l : List (List UInt8)) (i m : Int) (j : Nat) : St := ⟨ofL [(0, .w (.c (.d (sls l)))), (7, .w (.c (.d (.sl ((rootV l).map bD))))), (8, .w (.c (.d (.int .i64 (rootE l))))), (9, .w (.c (.d (.sl ((rootV l).map bD))))), (10, .w (.c (.d (.int .i64 (rootE l))))), (11, .w (.c (.d (sls (pathV l i))))), (12, .w (.c (.d (.int .i64 (pathE l i))))), (13, .w (.c (.d (sls (pathV l i))))), (14, .w (.c (.d (.int .i64 (pathE l i))))), (15, .w (.c (.d (sls (consV l m))))), (16, .w (.c (.d (.int .i64 (consE l m))))), (17, .w (.c (.d (sls (consV l m))))), (18, .w (.c (.d (.int .i64 (consE l m))))), (19, .w (.c (.d (.int .i64 (j : Int)))))], hL [], uL []⟩
theorem rootV_ok {l : List (List UInt8)} (h : l.length ≤ 1024) : rootV l = rootM l ∧ rootE l = 0 := ⟨if_neg (by omega), if_neg (by omega)⟩
theorem pathV_ok {l : List (List UInt8)} {i : Nat} (h : l.length ≤ 1024) (hi : i < l.length) : pathV l (i : Int) = pathM l i ∧ pathE l (i : Int) = 0 := by
  have hE : pathE l (i : Int) = 0 := by unfold pathE; rw [if_neg (by omega), if_neg (by omega)]
  exact ⟨if_pos hE, hE⟩
theorem consV_ok {l : List (List UInt8)} {m : Nat} (h : l.length ≤ 1024) (h0 : 1 ≤ m) (hi : m ≤ l.length) : consV l (m : Int) = proofM m l true ∧ consE l (m : Int) = 0 := by
  have hE : consE l (m : Int) = 0 := by unfold consE; rw [if_neg (by omega), if_neg (by omega)]
  exact ⟨if_pos hE, hE⟩
theorem path_big {l : List (List UInt8)} : ∀ (n : Nat) (l : List (List UInt8)) (i : Nat), l.length = n → ∀ x ∈ pathM l i, x.length = 32 := by
  intro n
  induction n using Nat.strongRecOn with
  | _ n ih =>
    intro l i hl x hx
    subst hl
    by_cases h : 2 ≤ l.length
    · have h1 := split_pos l.length
      have h2 := split_lt h
      by_cases hi : i < splitN l.length
      · rw [path_lo h hi, List.mem_append] at hx
        rcases hx with hx | hx
        · exact ih _ h2 _ i (by rw [List.length_take]; omega) x hx
        · rw [List.mem_singleton] at hx; subst hx; exact rootM_len _
      · rw [path_hi h hi, List.mem_append] at hx
        rcases hx with hx | hx
        · exact ih (l.length - splitN l.length) (by omega) _ _ List.length_drop x hx
        · rw [List.mem_singleton] at hx; subst hx; exact rootM_len _
    · rw [path_1 (by omega)] at hx; cases hx
theorem proof_big : ∀ (n : Nat) (l : List (List UInt8)) (m : Nat) (whole : Bool), l.length = n → 1 ≤ m → m ≤ n → ∀ x ∈ proofM m l whole, x.length = 32 := by
  intro n
  induction n using Nat.strongRecOn with
  | _ n ih =>
    intro l m whole hl h0 h x hx
    subst hl
    by_cases hm : m = l.length
    · rw [proof_all hm] at hx
      split at hx
      · cases hx
      · rw [List.mem_singleton] at hx; subst hx; exact rootM_len _
    · have h1 := split_pos l.length
      have h2 := split_lt (n := l.length) (by omega)
      by_cases hk : m ≤ splitN l.length
      · rw [proof_lo h0 (by omega) hk, List.mem_append] at hx
        rcases hx with hx | hx
        · exact ih _ h2 _ m whole (by rw [List.length_take]; omega) h0 hk x hx
        · rw [List.mem_singleton] at hx; subst hx; exact rootM_len _
      · rw [proof_hi h0 (by omega) hk, List.mem_append] at hx
        rcases hx with hx | hx
        · exact ih (l.length - splitN l.length) (by omega) _ _ false List.length_drop (by omega) (by omega) x hx
        · rw [List.mem_singleton] at hx; subst hx; exact rootM_len _
theorem check_path {l : List (List UInt8)} {i : Nat} (h : l.length ≤ 1024) (hi : i < l.length) : climbO (l.length : Int) (i : Int) (pathM l i) = true ∧ climbV (l.length : Int) (i : Int) (l.getD i []) (pathM l i) = rootM l ∧ checkB (rootM l) (l.length : Int) (i : Int) (l.getD i []) (pathM l i) = true := by
  have hO : climbO (l.length : Int) (i : Int) (pathM l i) = true := decide_eq_true ⟨by omega, by omega, by omega, by omega, by rw [path_len _ l i rfl hi]; rfl⟩
  have hV : climbV (l.length : Int) (i : Int) (l.getD i []) (pathM l i) = rootM l := by unfold climbV; rw [if_pos hO]; exact climb_path _ l i rfl hi
  refine ⟨hO, hV, ?_⟩
  unfold checkB
  rw [hO, hV]
  simp
theorem check_grown {l : List (List UInt8)} {m : Nat} (h : l.length ≤ 1024) (h0 : 1 ≤ m) (hm : m ≤ l.length) : cgB (rootM (l.take m)) (m : Int) (rootM l) (l.length : Int) (proofM m l true) = true := by
  unfold cgB
  have e0 : ((m : Int).toNat) = m := rfl
  have e1 : ((l.length : Int).toNat) = l.length := rfl
  rw [e0, e1, decide_eq_true ⟨by omega, by omega, by omega⟩, decide_eq_true (proof_len _ l m true rfl h0 hm), grown_proof _ l m true _ rfl h0 hm (fun _ => rfl)]
  simp
end Go.Proofs.YtjgkchmdhicmpaaDoor
set_option linter.unusedVariables false
set_option linter.unusedSimpArgs false
namespace Go.Proofs.YtjgkchmdhicmpaaDoor
open Go.RowKit

theorem noU8_ls (l : List (List UInt8)) : D.noU8 (sls l) = true := by
  simp only [D.noU8, List.all_map, List.all_eq_true]; intro x _; rfl
theorem by_lt (s : Nat) (l : List (List UInt8)) (k : IntKind) (n : Int) : V.byt (.tup [.c (.fr s (l.map fun l => D.sl (l.map bD))), .c (.d (.int k n))]) = true := by
  have h : (l.map fun l => D.sl (l.map bD)).all (fun e => e.cells.all D.byt1) = true := by
    rw [List.all_map, List.all_eq_true]
    intro x _
    show ([D.sl (x.map bD)]).all D.byt1 = true
    simp only [List.all_cons, List.all_nil, Bool.and_true, D.byt1, List.all_map, List.all_eq_true]
    intro y _
    rfl
  simp only [V.byt, List.all_cons, List.all_nil, Bool.and_true]
  show ((l.map fun l => D.sl (l.map bD)).all (fun e => e.cells.all D.byt1) && true) = true
  rw [h]; rfl
theorem lsD_one (x : List UInt8) : (D.sl (x.map bD)).one = true := rfl
def chd7 : List UInt8 := [99, 104, 97, 110, 103, 101, 100]
theorem depth_pos {n : Nat} (h : 2 ≤ n) (i : Nat) : 1 ≤ depthM n i := by
  by_cases hi : i < splitN n
  · rw [depth_lo h hi]; omega
  · rw [depth_hi h hi]; omega
theorem check_len {r leaf : List UInt8} {n i : Nat} {p : List (List UInt8)} (h : p.length ≠ depthM n i) : checkB r (n : Int) (i : Int) leaf p = false := by
  unfold checkB
  have : climbO (n : Int) (i : Int) p = false := decide_eq_false fun k => h k.2.2.2.2
  rw [this, Bool.false_and]
end Go.Proofs.YtjgkchmdhicmpaaDoor
