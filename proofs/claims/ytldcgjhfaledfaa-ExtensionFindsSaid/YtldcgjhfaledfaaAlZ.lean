/- The plain logic (26): lists of numbers, lists of pairs of numbers: as data, and as a law's arguments. Own work. -/
import Derived.Test.YtldcgjhfaledfaaAlV
set_option linter.unusedVariables false
set_option linter.unusedSimpArgs false
namespace Go.Proofs.Ytldcgjhfaledfaa
open Go.RowKit

/-- A number of type int; a struct of two of them. -/
def zD (n : Int) : D := .int .i64 n
def spD (p : Int × Int) : D := .agg [.int .i64 p.1, .int .i64 p.2]
def fitI (n : Int) : Prop := -9223372036854775808 ≤ n ∧ n ≤ 9223372036854775807
theorem zD_cells (n : Int) : (zD n).cells = [zD n] := rfl
theorem spD_cells (p : Int × Int) : (spD p).cells = [.int .i64 p.1, .int .i64 p.2] := rfl
theorem allSz_zs (l : List Int) : allSz 1 (l.map zD) = true := allSz_map zD (fun _ => rfl) l
theorem allSz_sp (l : List (Int × Int)) : allSz 2 (l.map spD) = true := by
  unfold allSz
  rw [List.all_eq_true]
  intro d hd
  obtain ⟨x, _, rfl⟩ := List.mem_map.1 hd
  rfl
theorem is_ints {x : D} (h : IsSh (.sl [.int .i64]) x) : ∃ l : List Int, x = .sl (l.map zD) ∧ l.length ≤ maxLen ∧ ∀ n ∈ l, fitI n := by
  obtain ⟨l, rfl, hl⟩ := is_sl1 (α := { n : Int // fitI n }) (fun n => zD n.1) (fun x hx => by
    obtain ⟨n, rfl, h1, h2⟩ := is_i64 hx
    exact ⟨⟨n, h1, h2⟩, rfl⟩) h
  refine ⟨l.map (·.1), by rw [List.map_map]; rfl, by simpa using hl, fun y hy => ?_⟩
  obtain ⟨z, _, rfl⟩ := List.mem_map.1 hy
  exact z.2
theorem is_spans {x : D} (h : IsSh (.sl [.int .i64, .int .i64]) x) : ∃ l : List (Int × Int), x = .sl (l.map spD) ∧ l.length ≤ maxLen ∧ ∀ p ∈ l, fitI p.1 ∧ fitI p.2 := by
  cases x <;> simp only [IsSh] at h
  rename_i es
  obtain ⟨h1, h2⟩ := h
  have key : ∀ es : List D, (∀ e ∈ es, ([Sh.int .i64, Sh.int .i64].length = 1 → e.one = true) ∧ ([Sh.int .i64, Sh.int .i64].length ≠ 1 → e = .agg e.cells) ∧ IsShs [.int .i64, .int .i64] e.cells) → ∃ l : List (Int × Int), es = l.map spD ∧ ∀ p ∈ l, fitI p.1 ∧ fitI p.2 := by
    intro es
    induction es with
    | nil => intro _; exact ⟨[], rfl, fun p hp => by cases hp⟩
    | cons e r ih =>
      intro h
      obtain ⟨l, hl, hf⟩ := ih fun x hx => h x (List.mem_cons_of_mem _ hx)
      obtain ⟨_, h4, h5⟩ := h e List.mem_cons_self
      have h4 := h4 (by decide)
      obtain ⟨a, c1, e1, ha, h5⟩ := shs_cons h5
      obtain ⟨b, c2, e2, hb, h5⟩ := shs_cons h5
      have e3 := shs_nil h5
      obtain ⟨n, rfl, n1, n2⟩ := is_i64 ha
      obtain ⟨m, rfl, m1, m2⟩ := is_i64 hb
      refine ⟨(n, m) :: l, ?_, fun p hp => ?_⟩
      · rw [List.map_cons, ← hl, h4, e1, e2, e3]; rfl
      · rcases List.mem_cons.1 hp with rfl | hp
        · exact ⟨⟨n1, n2⟩, ⟨m1, m2⟩⟩
        · exact hf p hp
  obtain ⟨l, rfl, hf⟩ := key es h2
  exact ⟨l, rfl, by simpa using h1, hf⟩
end Go.Proofs.Ytldcgjhfaledfaa
