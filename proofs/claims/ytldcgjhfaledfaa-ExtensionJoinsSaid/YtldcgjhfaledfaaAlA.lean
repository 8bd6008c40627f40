/- The plain logic (1): data, what memory it lies in, and that it stays as it is while other memory is written. Own work, over any program. -/
import Derived.WalkKit
import Derived.Below
import Derived.Laws.AppendOwn
import Derived.RangeFuncNested
import Derived.RangeFuncCalls
import Derived.RangeFuncLeaves
set_option linter.unusedVariables false
set_option linter.unusedSimpArgs false
namespace Go.Proofs.Ytldcgjhfaledfaa
open Go.RowKit

/-! ### Data -/
/-- Plain data: numbers, truths, strings, slices; a struct or an array is the list of its cells; ref: a pointer to cells that are only read; fn: a function with what it has captured, which is only read. -/
inductive D where
  | int (k : IntKind) (n : Int)
  | bool (b : Bool)
  | str (s : ByteArray)
  | sl (es : List D)
  | agg (cs : List D)
  | ref (cs : List D)
  | fn (f : Nat) (caps : List D)
deriving Inhabited
/-- The cells of an element. -/
def D.cells : D → List D
  | .agg cs => cs
  | x => [x]
def D.one : D → Bool
  | .agg _ => false
  | _ => true
theorem D.one_cells {x : D} (h : x.one = true) : x.cells = [x] := by cases x <;> first | rfl | simp [D.one] at h
/-- What a function literal has captured: data; a variable of the function's own. -/
inductive Cp where
  | d (x : D)
  | p (id sz i o : Nat)
deriving Inhabited
/-- One cell: plain data; nil; a slice of a row of the function's own; pointers: to its own variables (variable, element, offset), to a whole array of its own, to what is only read; (in results) a slice that is new memory. -/
inductive C where
  | d (x : D)
  | nil
  | own (id sz off n : Nat)
  | ptr (id sz i o : Nat)
  | pa (id sz : Nat)
  | rp (cs : List D)
  | ra (es : List D)
  | fr (sz : Nat) (es : List D)
  | cf (f : Nat) (pre post : List Cp)
deriving Inhabited
/-- A value: one cell, or plain data; a struct or an array that isn't plain. What lies in a slot: a value, several of them, or whatever. -/
inductive W where
  | c (x : C)
  | mix (cs : List C)
deriving Inhabited
inductive V where
  | w (x : W)
  | tup (ws : List W)
  | undef
deriving Inhabited
/-- A variable of the function's own: a row of elements; cells. -/
inductive Ob where
  | row (sz : Nat) (es : List D)
  | box (cs : List C)
abbrev Heap := Nat → Option Ob
structure St where
  f : Nat → V
  h : Heap
  u : Nat → Bool

inductive All2 {α β : Type} (R : α → β → Prop) : List α → List β → Prop
  | nil : All2 R [] []
  | cons {a b as bs} : R a b → All2 R as bs → All2 R (a :: as) (b :: bs)

/-! ### Where data lies -/
abbrev Cells := Nat → Nat → Prop
abbrev Mp := Nat → Option (Nat × Nat)
/-- The value v reads as x, by cells of S alone. -/
inductive Reads (S : Cells) (w : World) : Value → D → Prop
  | int (k : IntKind) (n : Int) : Reads S w (.int k n) (.int k n)
  | bool (b : Bool) : Reads S w (.bool b) (.bool b)
  | str (s : ByteArray) : Reads S w (.string s) (.str s)
  | nil : Reads S w (.slice none 0 0) (.sl [])
  | sl (a : Addr) (cap sz : Nat) (es : List D) (u : Nat → Nat → Value) (hcap : es.length ≤ cap) (hmax : cap ≤ maxLen)
      (hsz : ∀ i (h : i < es.length), es[i].cells.length = sz)
      (hS : ∀ i j, i < es.length → j < sz → S a.block (a.off + (i * sz + j)))
      (hc : ∀ i j, i < es.length → j < sz → w.cell? ⟨a.block, a.off + (i * sz + j), a.spot⟩ = some (u i j))
      (hr : ∀ i j (h : i < es.length) (h2 : j < es[i].cells.length), Reads S w (u i j) es[i].cells[j]) :
      Reads S w (.slice (some a) es.length cap) (.sl es)
  | ref (a : Addr) (cs : List D) (u : Nat → Value) (hS : ∀ j, j < cs.length → S a.block (a.off + j))
      (hc : ∀ j, j < cs.length → w.cell? ⟨a.block, a.off + j, a.spot⟩ = some (u j)) (hr : ∀ j (h : j < cs.length), Reads S w (u j) cs[j]) : Reads S w (.pointer (some a)) (.ref cs)
  | fn (f : Nat) (vs : List Value) (caps : List D) (u : Nat → Value) (hl : vs.length = caps.length) (hv : ∀ j, j < vs.length → vs[j]? = some (u j)) (hr : ∀ j (h : j < caps.length), Reads S w (u j) caps[j]) : Reads S w (.func (.func f) #[] vs.toArray) (.fn f caps)

def CellsAt (S : Cells) (w : World) (a : Addr) (cs : List D) : Prop :=
  ∀ j (h : j < cs.length), ∃ v, S a.block (a.off + j) ∧ w.cell? ⟨a.block, a.off + j, a.spot⟩ = some v ∧ Reads S w v cs[j]
def RowAt (S : Cells) (w : World) (a : Addr) (sz : Nat) (es : List D) : Prop :=
  ∀ i (h : i < es.length), es[i].cells.length = sz ∧ CellsAt S w ⟨a.block, a.off + i * sz, a.spot⟩ es[i].cells

theorem Reads.of_row {S : Cells} {w : World} {a : Addr} {cap sz : Nat} {es : List D} (h : RowAt S w a sz es) (hcap : es.length ≤ cap) (hmax : cap ≤ maxLen) : Reads S w (.slice (some a) es.length cap) (.sl es) := by
  have h1 : ∀ i j, ∃ v, ∀ (h : i < es.length) (h2 : j < es[i].cells.length), S a.block (a.off + (i * sz + j)) ∧ w.cell? ⟨a.block, a.off + (i * sz + j), a.spot⟩ = some v ∧ Reads S w v es[i].cells[j] := by
    intro i j
    by_cases hi : i < es.length
    · by_cases hj : j < es[i].cells.length
      · obtain ⟨v, a1, a2, a3⟩ := (h i hi).2 j hj
        simp only [Nat.add_assoc] at a1 a2
        exact ⟨v, fun _ _ => ⟨a1, a2, a3⟩⟩
      · exact ⟨.bool false, fun _ h2 => absurd h2 hj⟩
    · exact ⟨.bool false, fun h => absurd h hi⟩
  obtain ⟨u, hu⟩ := Classical.axiomOfChoice (fun i => Classical.axiomOfChoice (h1 i))
  refine .sl a cap sz es u hcap hmax (fun i hi => (h i hi).1) (fun i j hi hj => (hu i j hi (by rw [(h i hi).1]; exact hj)).1) (fun i j hi hj => (hu i j hi (by rw [(h i hi).1]; exact hj)).2.1) (fun i j hi h2 => (hu i j hi h2).2.2)
theorem Reads.zero {S : Cells} {w : World} (ad : Option Addr) : Reads S w (.slice ad 0 0) (.sl []) := by
  cases ad with
  | none => exact .nil
  | some a => exact Reads.of_row (es := []) (sz := 0) (fun i hi => by simp at hi) (Nat.le_refl _) (Nat.zero_le _)
theorem Reads.row {S : Cells} {w : World} {v : Value} {es : List D} (h : Reads S w v (.sl es)) :
    (v = .slice none 0 0 ∧ es = []) ∨ ∃ a cap sz, v = .slice (some a) es.length cap ∧ es.length ≤ cap ∧ cap ≤ maxLen ∧ RowAt S w a sz es := by
  cases h with
  | nil => exact .inl ⟨rfl, rfl⟩
  | sl a cap sz es u hcap hmax hsz hS hc hr =>
    refine .inr ⟨a, cap, sz, rfl, hcap, hmax, fun i hi => ⟨hsz i hi, fun j hj => ⟨u i j, ?_, ?_, hr i j hi hj⟩⟩⟩
    · rw [Nat.add_assoc]; exact hS i j hi (by rw [← hsz i hi]; exact hj)
    · simp only [Nat.add_assoc]; exact hc i j hi (by rw [← hsz i hi]; exact hj)
theorem Reads.oneCell {S : Cells} {w : World} {v : Value} {x : D} (h : Reads S w v x) : v.oneCell' = true := by cases h <;> rfl
theorem Reads.cellsOf {S : Cells} {w : World} {v : Value} {x : D} (h : Reads S w v x) : x.cells = [x] := by cases h <;> rfl

/-- Two worlds that are alike where S says. -/
structure Keeps (S : Cells) (w w' : World) : Prop where
  cell : ∀ b i v, S b i → w.cell? ⟨b, i, none⟩ = some v → w'.cell? ⟨b, i, none⟩ = some v
  shape : ∀ b s, w.shape? b = some s → w'.shape? b = some s
theorem Keeps.refl (S : Cells) (w : World) : Keeps S w w := ⟨fun _ _ _ _ h => h, fun _ _ h => h⟩
theorem Keeps.trans {S : Cells} {a b c : World} (h : Keeps S a b) (k : Keeps S b c) : Keeps S a c :=
  ⟨fun x i v hs hv => k.cell x i v hs (h.cell x i v hs hv), fun x s hs => k.shape x s (h.shape x s hs)⟩
theorem cell_spot {w : World} {b i : Nat} {s : Option Nat} {v : Value} (h : w.cell? ⟨b, i, s⟩ = some v) : s = none := by
  unfold World.cell? at h
  split at h
  · cases s with
    | none => rfl
    | some x => simp at h
  · cases h
theorem Keeps.at {S : Cells} {w w' : World} (h : Keeps S w w') {b i : Nat} {s : Option Nat} {v : Value} (hs : S b i) (hv : w.cell? ⟨b, i, s⟩ = some v) : w'.cell? ⟨b, i, s⟩ = some v := by
  have := cell_spot hv
  subst this
  exact h.cell b i v hs hv
theorem Reads.keep {S : Cells} {w w' : World} {v : Value} {x : D} (h : Reads S w v x) (k : Keeps S w w') : Reads S w' v x := by
  induction h with
  | int k n => exact .int k n
  | bool b => exact .bool b
  | str s => exact .str s
  | nil => exact .nil
  | sl a cap sz es u hcap hmax hsz hS hc hr ih => exact .sl a cap sz es u hcap hmax hsz hS (fun i j hi hj => k.at (hS i j hi hj) (hc i j hi hj)) ih
  | ref a cs u hS hc hr ih => exact .ref a cs u hS (fun j hj => k.at (hS j hj) (hc j hj)) ih
  | fn f vs caps u hl hv hr ih => exact .fn f vs caps u hl hv ih
theorem Reads.mono {S S' : Cells} {w : World} {v : Value} {x : D} (h : Reads S w v x) (k : ∀ b i, S b i → S' b i) : Reads S' w v x := by
  induction h with
  | int k n => exact .int k n
  | bool b => exact .bool b
  | str s => exact .str s
  | nil => exact .nil
  | sl a cap sz es u hcap hmax hsz hS hc hr ih => exact .sl a cap sz es u hcap hmax hsz (fun i j hi hj => k _ _ (hS i j hi hj)) hc ih
  | ref a cs u hS hc hr ih => exact .ref a cs u (fun j hj => k _ _ (hS j hj)) hc ih
  | fn f vs caps u hl hv hr ih => exact .fn f vs caps u hl hv ih
theorem CellsAt.keep {S : Cells} {w w' : World} {a : Addr} {cs : List D} (h : CellsAt S w a cs) (k : Keeps S w w') : CellsAt S w' a cs := by
  intro j hj
  obtain ⟨v, h1, h2, h3⟩ := h j hj
  exact ⟨v, h1, k.at h1 h2, h3.keep k⟩
theorem CellsAt.mono {S S' : Cells} {w : World} {a : Addr} {cs : List D} (h : CellsAt S w a cs) (k : ∀ b i, S b i → S' b i) : CellsAt S' w a cs := by
  intro j hj
  obtain ⟨v, h1, h2, h3⟩ := h j hj
  exact ⟨v, k _ _ h1, h2, h3.mono k⟩
theorem Reads.cellsAt {S : Cells} {w : World} {v : Value} {cs : List D} (h : Reads S w v (.ref cs)) : ∃ a, v = .pointer (some a) ∧ CellsAt S w a cs := by
  cases h with
  | ref a cs u hS hc hr => exact ⟨a, rfl, fun j hj => ⟨u j, hS j hj, hc j hj, hr j hj⟩⟩
theorem Reads.of_cells {S : Cells} {w : World} {a : Addr} {cs : List D} (h : CellsAt S w a cs) : Reads S w (.pointer (some a)) (.ref cs) := by
  obtain ⟨u, hu⟩ := Classical.axiomOfChoice (r := fun j v => ∀ h : j < cs.length, S a.block (a.off + j) ∧ w.cell? ⟨a.block, a.off + j, a.spot⟩ = some v ∧ Reads S w v cs[j]) (fun j => by
    by_cases hj : j < cs.length
    · obtain ⟨v, hv⟩ := h j hj; exact ⟨v, fun _ => hv⟩
    · exact ⟨.bool false, fun h => absurd h hj⟩)
  exact .ref a cs u (fun j hj => (hu j hj).1) (fun j hj => (hu j hj).2.1) (fun j hj => (hu j hj).2.2)
theorem RowAt.keep {S : Cells} {w w' : World} {a : Addr} {sz : Nat} {es : List D} (h : RowAt S w a sz es) (k : Keeps S w w') : RowAt S w' a sz es :=
  fun i hi => ⟨(h i hi).1, (h i hi).2.keep k⟩
theorem RowAt.mono {S S' : Cells} {w : World} {a : Addr} {sz : Nat} {es : List D} (h : RowAt S w a sz es) (k : ∀ b i, S b i → S' b i) : RowAt S' w a sz es :=
  fun i hi => ⟨(h i hi).1, (h i hi).2.mono k⟩

/-! ### Slots and cells -/
def OwnV (m : Mp) (w : World) (v : Value) (id sz off n : Nat) : Prop :=
  match m id with
  | none => (∃ ad, v = .slice ad 0 0) ∧ off = 0 ∧ n = 0
  | some (b, sz') => sz' = sz ∧ ∃ a cap ty N, v = .slice (some a) n cap ∧ n ≤ cap ∧ cap ≤ maxLen ∧ (0 < cap ∨ off = 0 → a = ⟨b, off * sz, none⟩) ∧ w.shape? b = some (ty, N) ∧ (off + cap) * sz ≤ N
def RCp (m : Mp) (S : Cells) (w : World) (v : Value) : Cp → Prop
  | .d x => Reads S w v x
  | .p id sz i o => ∃ b, m id = some (b, sz) ∧ v = .pointer (some ⟨b, i * sz + o, none⟩)
def RC (m : Mp) (S : Cells) (w : World) (v : Value) : C → Prop
  | .d x => Reads S w v x
  | .nil => ∃ ad, v = .slice ad 0 0
  | .own id sz off n => OwnV m w v id sz off n
  | .ptr id sz i o => ∃ b, m id = some (b, sz) ∧ v = .pointer (some ⟨b, i * sz + o, none⟩)
  | .pa id sz => ∃ b, m id = some (b, sz) ∧ v = .pointer (some ⟨b, 0, none⟩)
  | .rp cs => ∃ a, v = .pointer (some a) ∧ CellsAt S w a cs
  | .ra es => ∃ a sz, v = .pointer (some a) ∧ RowAt S w a sz es
  | .fr _ _ => False
  | .cf f pre post => ∃ us vs : List Value, v = .func (.func f) us.toArray vs.toArray ∧ All2 (RCp m S w) us pre ∧ All2 (RCp m S w) vs post
def RW (m : Mp) (S : Cells) (w : World) (v : Value) : W → Prop
  | .c (.d (.agg cs)) => ∃ us : List Value, v = .agg us.toArray ∧ All2 (Reads S w) us cs
  | .c x => RC m S w v x
  | .mix cs => ∃ us : List Value, v = .agg us.toArray ∧ All2 (RC m S w) us cs
def RV (m : Mp) (S : Cells) (w : World) (v : Value) : V → Prop
  | .w x => RW m S w v x
  | .tup ws => ∃ us : List Value, v = .tuple us.toArray ∧ All2 (RW m S w) us ws
  | .undef => True

theorem All2.length {α β : Type} {R : α → β → Prop} {l : List α} {m : List β} (h : All2 R l m) : l.length = m.length := by
  induction h with
  | nil => rfl
  | cons _ _ ih => simp [ih]
theorem All2.weak {α β : Type} {R R' : α → β → Prop} {l : List α} {m : List β} (h : All2 R l m) (k : ∀ a b, a ∈ l → b ∈ m → R a b → R' a b) : All2 R' l m := by
  induction h with
  | nil => exact .nil
  | cons h _ ih => exact .cons (k _ _ (by simp) (by simp) h) (ih fun a b ha hb => k a b (by simp [ha]) (by simp [hb]))
theorem All2.get {α β : Type} {R : α → β → Prop} {l : List α} {m : List β} (h : All2 R l m) : ∀ i (h1 : i < l.length) (h2 : i < m.length), R l[i] m[i] := by
  induction h with
  | nil => intro i h1; simp at h1
  | cons h _ ih =>
    intro i h1 h2
    cases i with
    | zero => exact h
    | succ i => exact ih i (by simpa using h1) (by simpa using h2)
theorem All2.mk {α β : Type} {R : α → β → Prop} : ∀ {l : List α} {m : List β}, l.length = m.length → (∀ i (h1 : i < l.length) (h2 : i < m.length), R l[i] m[i]) → All2 R l m
  | [], [], _, _ => .nil
  | [], _ :: _, h, _ => by simp at h
  | _ :: _, [], h, _ => by simp at h
  | a :: l, b :: m, h, k => .cons (k 0 (by simp) (by simp)) (All2.mk (by simpa using h) fun i h1 h2 => k (i + 1) (by simpa using h1) (by simpa using h2))
theorem All2.append {α β : Type} {R : α → β → Prop} {l l' : List α} {m m' : List β} (h : All2 R l m) (k : All2 R l' m') : All2 R (l ++ l') (m ++ m') := by
  induction h with
  | nil => exact k
  | cons h _ ih => exact .cons h ih
theorem All2.get? {α β : Type} {R : α → β → Prop} {l : List α} {m : List β} (h : All2 R l m) {i : Nat} {y : β} (hy : m[i]? = some y) : ∃ x, l[i]? = some x ∧ R x y := by
  obtain ⟨h2, rfl⟩ := List.getElem?_eq_some_iff.1 hy
  have h1 : i < l.length := by rw [h.length]; exact h2
  exact ⟨l[i], List.getElem?_eq_getElem h1, h.get i h1 h2⟩
theorem All2.take {α β : Type} {R : α → β → Prop} {l : List α} {m : List β} (h : All2 R l m) (n : Nat) : All2 R (l.take n) (m.take n) := by
  have hl := h.length
  refine .mk (by simp [hl]) fun i h1 h2 => ?_
  simp only [List.getElem_take]
  exact h.get i (by simp at h1; omega) (by simp at h2; omega)
theorem All2.drop {α β : Type} {R : α → β → Prop} {l : List α} {m : List β} (h : All2 R l m) (n : Nat) : All2 R (l.drop n) (m.drop n) := by
  have hl := h.length
  refine .mk (by simp [hl]) fun i h1 h2 => ?_
  simp only [List.getElem_drop]
  exact h.get _ (by simp at h1; omega) (by simp at h2; omega)

theorem OwnV.keep {m : Mp} {S : Cells} {w w' : World} {v : Value} {id sz off n : Nat} (h : OwnV m w v id sz off n) (k : Keeps S w w') : OwnV m w' v id sz off n := by
  unfold OwnV at *
  split at h
  · exact h
  · obtain ⟨h0, a, cap, ty, N, h1, h2, h3, h4, h5, h6⟩ := h
    exact ⟨h0, a, cap, ty, N, h1, h2, h3, h4, k.shape _ _ h5, h6⟩
theorem RCp.keep {m : Mp} {S : Cells} {w w' : World} {v : Value} {x : Cp} (h : RCp m S w v x) (k : Keeps S w w') : RCp m S w' v x := by
  cases x
  · exact Reads.keep h k
  · exact h
theorem RCp.mono {m : Mp} {S S' : Cells} {w : World} {v : Value} {x : Cp} (h : RCp m S w v x) (k : ∀ b i, S b i → S' b i) : RCp m S' w v x := by
  cases x
  · exact Reads.mono h k
  · exact h
theorem RC.keep {m : Mp} {S : Cells} {w w' : World} {v : Value} {x : C} (h : RC m S w v x) (k : Keeps S w w') : RC m S w' v x := by
  cases x <;> simp only [RC] at *
  · exact h.keep k
  · exact h
  · exact h.keep k
  · exact h
  · exact h
  · obtain ⟨a, h1, h2⟩ := h; exact ⟨a, h1, h2.keep k⟩
  · obtain ⟨a, sz, h1, h2⟩ := h; exact ⟨a, sz, h1, h2.keep k⟩
  · obtain ⟨us, vs, h1, h2, h3⟩ := h; exact ⟨us, vs, h1, h2.weak fun _ _ _ _ h => h.keep k, h3.weak fun _ _ _ _ h => h.keep k⟩
theorem RC.mono {m : Mp} {S S' : Cells} {w : World} {v : Value} {x : C} (h : RC m S w v x) (k : ∀ b i, S b i → S' b i) : RC m S' w v x := by
  cases x <;> simp only [RC] at *
  · exact h.mono k
  · exact h
  · exact h
  · exact h
  · exact h
  · obtain ⟨a, h1, h2⟩ := h; exact ⟨a, h1, h2.mono k⟩
  · obtain ⟨a, sz, h1, h2⟩ := h; exact ⟨a, sz, h1, h2.mono k⟩
  · obtain ⟨us, vs, h1, h2, h3⟩ := h; exact ⟨us, vs, h1, h2.weak fun _ _ _ _ h => h.mono k, h3.weak fun _ _ _ _ h => h.mono k⟩
theorem RW.keep {m : Mp} {S : Cells} {w w' : World} (k : Keeps S w w') {x : W} {v : Value} (h : RW m S w v x) : RW m S w' v x := by
  unfold RW at *
  split at h
  · obtain ⟨us, h1, h2⟩ := h
    exact ⟨us, h1, h2.weak fun _ _ _ _ h => h.keep k⟩
  · exact RC.keep h k
  · obtain ⟨us, h1, h2⟩ := h
    exact ⟨us, h1, h2.weak fun _ _ _ _ h => h.keep k⟩
theorem RW.mono {m : Mp} {S S' : Cells} {w : World} (k : ∀ b i, S b i → S' b i) {x : W} {v : Value} (h : RW m S w v x) : RW m S' w v x := by
  unfold RW at *
  split at h
  · obtain ⟨us, h1, h2⟩ := h
    exact ⟨us, h1, h2.weak fun _ _ _ _ h => h.mono k⟩
  · exact RC.mono h k
  · obtain ⟨us, h1, h2⟩ := h
    exact ⟨us, h1, h2.weak fun _ _ _ _ h => h.mono k⟩
theorem RV.keep {m : Mp} {S : Cells} {w w' : World} (k : Keeps S w w') {x : V} {v : Value} (h : RV m S w v x) : RV m S w' v x := by
  cases x with
  | w x => exact RW.keep k h
  | tup ws => obtain ⟨us, h1, h2⟩ := h; exact ⟨us, h1, h2.weak fun _ _ _ _ h => h.keep k⟩
  | undef => trivial
theorem RV.mono {m : Mp} {S S' : Cells} {w : World} (k : ∀ b i, S b i → S' b i) {x : V} {v : Value} (h : RV m S w v x) : RV m S' w v x := by
  cases x with
  | w x => exact RW.mono k h
  | tup ws => obtain ⟨us, h1, h2⟩ := h; exact ⟨us, h1, h2.weak fun _ _ _ _ h => h.mono k⟩
  | undef => trivial
end Go.Proofs.Ytldcgjhfaledfaa
