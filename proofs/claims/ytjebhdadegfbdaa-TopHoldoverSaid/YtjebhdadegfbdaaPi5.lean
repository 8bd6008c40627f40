/- Layer 11 on data: the reference's Union. Own work. -/
import Derived.Test.YtjebhdadegfbdaaPi4
set_option linter.unusedVariables false
set_option linter.unusedSimpArgs false
namespace Go.Proofs.Ytjebhdadegfbdaa
open Go.RowKit

/-! ### Are all valid? -/
def allOk (l : List Spn) : Bool := l.all okP
def unaSt (l : List Spn) (i : Nat) : St := ⟨ofL [(0, .w (.c (.d (.sl (l.map spD))))), (4, .w (.c (.d (.int .i64 (i : Int)))))], hL [], uL []⟩
theorem allOk_f {l : List Spn} {i : Nat} (h : i < l.length) (hv : okP (l.getD i (0, 0)) = false) : allOk l = false := by
  unfold allOk
  rw [List.all_eq_false]
  exact ⟨l.getD i (0, 0), getS_mem h, by rw [hv]; simp⟩
theorem allOk_take {l : List Spn} {i : Nat} (h : i < l.length) : allOk (l.take (i + 1)) = (allOk (l.take i) && okP (l.getD i (0, 0))) := by
  unfold allOk
  rw [takeS h, List.all_append]
  simp
def uniEr (l : List Spn) : Int := if allOk l = true then (if l.length ≤ 64 then 0 else 8) else 3
def uniLs (l : List Spn) : List Spn := if allOk l = true ∧ l.length ≤ 64 then unionL l else []
/-! ### The least -/
def unbSt (out : List Spn) (r : List Spn) (i : Nat) : St := ⟨ofL [(5, .w (.c (.d (.sl (r.map spD))))), (6, .w (.c (.own 1 2 0 out.length))), (7, .w (.c (.d (.int .i64 (leastN r i : Int))))), (8, .w (.c (.d (.int .i64 (i : Int)))))],
  hL [(1, .row 2 (out.map spD))], uL [1]⟩
/-! ### A pass -/
def scnN (r : List Spn) (h : Int) (i : Nat) : Pas := (r.take i).foldl scanS ⟨h, false, []⟩
theorem scnN_succ {r : List Spn} {h : Int} {i : Nat} (hi : i < r.length) : scnN r h (i + 1) = scanS (scnN r h i) (r.getD i (0, 0)) := by
  unfold scnN
  rw [takeS hi, List.foldl_append]; rfl
theorem scnN_all (r : List Spn) (h : Int) : scnN r h r.length = scanU r h := by
  unfold scnN scanU
  rw [List.take_length]
def uncSt (out : List Spn) (lo : Int) (r : List Spn) (h : Int) (i : Nat) : St := ⟨ofL [(5, .w (.c (.d (.sl (r.map spD))))), (6, .w (.c (.own 1 2 0 out.length))), (9, .w (.c (.ptr 2 1 0 0))), (10, .w (.c (.d (.bool (scnN r h i).again)))), (11, .w (.c (.own 3 2 0 (scnN r h i).left.length))), (12, .w (.c (.d (.int .i64 (i : Int)))))],
  hL [(1, .row 2 (out.map spD)), (2, .box [.d (.int .i64 lo), .d (.int .i64 (scnN r h i).hi)]), (3, .row 2 ((scnN r h i).left.map spD))], uL [1, 2, 3]⟩
/-! ### Passes -/
def undSt (out : List Spn) (lo h : Int) (r : List Spn) (k : Nat) : St := ⟨ofL [(5, .w (.c (.d (.sl ((passN h r k).left.map spD))))), (6, .w (.c (.own 1 2 0 out.length))), (9, .w (.c (.ptr 2 1 0 0))), (10, .w (.c (.d (.bool (passN h r k).again))))],
  hL [(1, .row 2 (out.map spD)), (2, .box [.d (.int .i64 lo), .d (.int .i64 (passN h r k).hi)])], uL [1, 2]⟩
/-! ### Spans taken -/
def uneSt (l : List Spn) (k : Nat) : St := ⟨ofL [(5, .w (.c (.d (.sl ((unjN l k).rest.map spD))))), (6, .w (.c (.own 1 2 0 (unjN l k).out.length)))], hL [(1, .row 2 ((unjN l k).out.map spD))], uL [1]⟩
theorem allOk_le {l : List Spn} (h : allOk l = true) : ∀ p ∈ l, -1152921504606846976 ≤ p.1 ∧ p.2 ≤ 1152921504606846976 ∧ p.1 ≤ p.2 := by
  unfold allOk at h
  rw [List.all_eq_true] at h
  exact fun p hp => okP_t (h p hp)
theorem scn_in {L M h : Int} {r : List Spn} (h1 : L ≤ h) (h2 : h ≤ M) (hr : ∀ p ∈ r, L ≤ p.1 ∧ p.1 ≤ p.2 ∧ p.2 ≤ M) (i : Nat) : L ≤ (scnN r h i).hi ∧ (scnN r h i).hi ≤ M ∧ (scnN r h i).left.length ≤ r.length := by
  have hr' : ∀ p ∈ r.take i, L ≤ p.1 ∧ p.1 ≤ p.2 := fun p hp => ⟨(hr p (List.mem_of_mem_take hp)).1, (hr p (List.mem_of_mem_take hp)).2.1⟩
  obtain ⟨a1, a2, _, _, _, a6⟩ := scan_spec L (r.take i) ⟨h, false, []⟩ h1 hr'
  have e : (r.take i).foldl scanS ⟨h, false, []⟩ = scnN r h i := rfl
  rw [e] at a1 a2 a6
  dsimp only at a1
  have hlo : L ≤ (scnN r h i).hi := Int.le_trans h1 a1
  refine ⟨hlo, ?_, ?_⟩
  · rcases (a6 _).1 (.inl ⟨hlo, Int.le_refl _⟩) with k | k | ⟨p, hp, k⟩
    · exact Int.le_trans k.2 h2
    · exact absurd k (inU_nil _)
    · exact Int.le_trans k.2 (hr p (List.mem_of_mem_take hp)).2.2
  · rw [List.length_take] at a2
    simp only [List.length_nil] at a2
    omega
theorem pas_in {L M h : Int} {r : List Spn} (h1 : L ≤ h) (h2 : h ≤ M) (hr : ∀ p ∈ r, L ≤ p.1 ∧ p.1 ≤ p.2 ∧ p.2 ≤ M) (k : Nat) : L ≤ (passN h r k).hi ∧ (passN h r k).hi ≤ M ∧ (passN h r k).left.length ≤ r.length ∧ (∀ p ∈ (passN h r k).left, L ≤ p.1 ∧ p.1 ≤ p.2 ∧ p.2 ≤ M) := by
  have ko := passN_ok h1 (fun p hp => ⟨(hr p hp).1, (hr p hp).2.1⟩) k
  refine ⟨ko.lo, ?_, ko.len, fun p hp => hr p (ko.mem p hp)⟩
  rcases (ko.cov _).1 (.inl ⟨ko.lo, Int.le_refl _⟩) with k | ⟨p, hp, k⟩
  · exact Int.le_trans k.2 h2
  · exact Int.le_trans k.2 (hr p hp).2.2
theorem scn_pass (h : Int) (r : List Spn) (k : Nat) : scnN (passN h r k).left (passN h r k).hi (passN h r k).left.length = passN h r (k + 1) := scnN_all _ _
theorem scanS_j {s : Pas} {p : Spn} (h : p.1 ≤ s.hi + 1) : scanS s p = ⟨max s.hi p.2, s.again || decide (p.2 > s.hi), s.left⟩ := if_pos h
theorem scanS_n {s : Pas} {p : Spn} (h : ¬ p.1 ≤ s.hi + 1) : scanS s p = ⟨s.hi, s.again, s.left ++ [p]⟩ := if_neg h
end Go.Proofs.Ytjebhdadegfbdaa
