/- What the contracts say of memory: a slice of bytes that reads as a list; one that the call itself has made; lists of slices; append, and cuts. -/
import Derived.Test.YtbfmabjpjblpaaaRows
import Derived.WalkKit
import Derived.WalkSpells
import Derived.WalkLawsBesides
import Derived.Deep.Draws
import Derived.Deep.QuietTactic
import Derived.BigQuiet
import Derived.Laws.IdiomStrings
import Derived.Laws.BytesArg
import Derived.Lib.Hide
set_option linter.unusedVariables false
set_option linter.unusedSimpArgs false
namespace Go.Proofs.Ytbfmabjpjblpaaa
open Go.RowKit

/-- A contract that leaves the world as it is, for a region that only reads. -/
theorem quiet {P : Program} {f : FuncId} {args : Array Value} {w : World} {n : Nat} {v : Value}
    (h : Calls P f args (w.drewN n) fun e w' => e = .returned v ∧ w.drewN n = w') : Calls P f args (w.drewN n) fun e w'' => e = .returned v ∧ ∃ m, w'' = w.drewN m :=
  h.mono fun _ _ ⟨he, hm⟩ => ⟨he, n, hm.symm⟩

/-- w' is w behind some draws. -/
def Drawn (w w' : World) : Prop := ∃ n, w' = w.drewN n
theorem Drawn.refl (w : World) : Drawn w w := ⟨0, rfl⟩
theorem Drawn.more {w w' : World} (h : Drawn w w') (n : Nat) : Drawn w (w'.drewN n) := by
  obtain ⟨m, rfl⟩ := h
  exact ⟨m + n, by rw [World.drewN_drewN]⟩
theorem Drawn.below {w w' : World} (h : Drawn w w') {B : Nat} {w0 : World} (hb : Below B w0 w) : Below B w0 w' := by
  obtain ⟨n, rfl⟩ := h
  exact ⟨hb.os, hb.tape, hb.output, hb.size, hb.block⟩
theorem Drawn.cell {w w' : World} (h : Drawn w w') (p : Addr) : w'.cell? p = w.cell? p := by
  obtain ⟨n, rfl⟩ := h; rfl
/-- A byte as a cell; bytes as cells. -/
def bv (x : UInt8) : Value := .int .u8 (x.toNat : Int)
def vals (l : List UInt8) : List Value := l.map bv

theorem vals_length (l : List UInt8) : (vals l).length = l.length := by simp [vals]
theorem vals_append (a b : List UInt8) : vals (a ++ b) = vals a ++ vals b := by simp [vals]
theorem vals_one (l : List UInt8) : ∀ u ∈ vals l, u.oneCell' = true := by
  intro u hu; simp [vals, bv] at hu; obtain ⟨x, _, rfl⟩ := hu; rfl
theorem vals_get (l : List UInt8) (j : Nat) (h : j < l.length) : (vals l)[j]? = some (bv l[j]) := by simp [vals, h]

theorem add_plain (b o j : Nat) : (⟨b, o, none⟩ : Addr).add j = ⟨b, o + j, none⟩ := by
  unfold Addr.add; split <;> simp_all

theorem cell_new (w : World) (cs : Array Value) (t : TypeId) (i : Nat) (u : Value) (h : cs[i]? = some u) : (w.alloc (.cells cs t)).cell? ⟨w.heap.size, i, none⟩ = some u := by
  rw [cell_of_row _ _ i cs t (0, 0) (heap_alloc_new w _), h]
/-- The slice value v reads, in w, as the bytes l. -/
def Slc (w : World) (v : Value) (l : List UInt8) : Prop :=
  ∃ A c, v = .slice A l.length c ∧ l.length ≤ c ∧ c ≤ maxLen ∧ (A = none → c = 0) ∧
    (0 < l.length → ∃ b o, A = some ⟨b, o, none⟩ ∧ b < w.heap.size ∧ ∀ j (_ : j < l.length), w.cell? ⟨b, o + j, none⟩ = some (bv l[j]))

/-- The slice value v is a row of the call's own (from block B on) that holds the bytes l. -/
def Own (w : World) (B : Nat) (v : Value) (l : List UInt8) : Prop := w.ownsRow B 5 1 v l.length (vals l)

theorem Slc.nil (w : World) : Slc w (.slice none 0 0) [] := ⟨none, 0, rfl, by simp, by simp [maxLen], fun _ => rfl, by simp⟩
theorem Own.nil (w : World) (B : Nat) : Own w B (.slice none 0 0) [] := ⟨rfl, .inl ⟨rfl, rfl⟩⟩

theorem Slc.le {w : World} {v : Value} {l : List UInt8} (h : Slc w v l) : l.length ≤ maxLen := by
  obtain ⟨_, _, _, _, _, _⟩ := h
  omega

theorem Slc.keep {w w' : World} {v : Value} {l : List UInt8} (h : Slc w v l) (hs : w.heap.size ≤ w'.heap.size) (hk : ∀ b o, b < w.heap.size → w'.cell? ⟨b, o, none⟩ = w.cell? ⟨b, o, none⟩) : Slc w' v l := by
  obtain ⟨A, c, rfl, h1, h2, hn, h3⟩ := h
  refine ⟨A, c, rfl, h1, h2, hn, fun h0 => ?_⟩
  obtain ⟨b, o, rfl, hb, hc⟩ := h3 h0
  exact ⟨b, o, rfl, by omega, fun j hj => (hk _ _ hb).trans (hc j hj)⟩

theorem Slc.below {w w' : World} {v : Value} {l : List UInt8} (h : Slc w v l) (hb : Below w.heap.size w w') : Slc w' v l :=
  h.keep hb.size fun b o hlt => hb.cell (p := ⟨b, o, none⟩) hlt
theorem Slc.drew {w : World} {v : Value} {l : List UInt8} (h : Slc w v l) : Slc w.drew v l := h
theorem Slc.alloc {w : World} {v : Value} {l : List UInt8} (h : Slc w v l) (o : Obj) : Slc (w.alloc o) v l := h.below ((Below.refl _ _).alloc (Nat.le_refl _) o)

theorem Own.slc {w : World} {B : Nat} {v : Value} {l : List UInt8} (h : Own w B v l) : Slc w v l := by
  obtain ⟨hl, h⟩ := id h
  rcases h with ⟨rfl, h0⟩ | ⟨g, cap, cur, rfl, hg, hh, hn, hm, hs, ht⟩
  · have : l = [] := List.eq_nil_of_length_eq_zero h0
    subst this; exact Slc.nil w
  · refine ⟨_, _, rfl, hn, hm, by simp, fun h0 => ⟨g, 0, rfl, ?_, fun j hj => ?_⟩⟩
    · rcases Nat.lt_or_ge g w.heap.size with hlt | hge
      · exact hlt
      · rw [Array.getElem?_eq_none hge] at hh; cases hh
    · have := World.ownsRow.cellAt (g := g) (n := l.length) (cap := cap) h (0 + j) (by omega)
      rw [this, Nat.zero_add, vals_get l j hj]

theorem Own.le {w : World} {B : Nat} {v : Value} {l : List UInt8} (h : Own w B v l) : l.length ≤ maxLen := h.slc.le
theorem Own.mono {w : World} {B B' : Nat} {v : Value} {l : List UInt8} (h : Own w B v l) (hB : B' ≤ B) : Own w B' v l := by
  obtain ⟨h1, h2⟩ := h
  refine ⟨h1, ?_⟩
  rcases h2 with h2 | ⟨g, cap, cur, hv, hg, r⟩
  · exact .inl h2
  · exact .inr ⟨g, cap, cur, hv, by omega, r⟩
/-- What the call owns stays so behind whatever leaves all that was there. -/
theorem Own.below {w w' : World} {B : Nat} {v : Value} {l : List UInt8} (h : Own w B v l) (hb : Below w.heap.size w w') : Own w' B v l := by
  obtain ⟨h1, h2⟩ := h
  refine ⟨h1, ?_⟩
  rcases h2 with h2 | ⟨g, cap, cur, hv, hg, hh, r⟩
  · exact .inl h2
  · have hlt : g < w.heap.size := by
      rcases Nat.lt_or_ge g w.heap.size with hlt | hge
      · exact hlt
      · rw [Array.getElem?_eq_none hge] at hh; cases hh
    exact .inr ⟨g, cap, cur, hv, hg, (hb.block g hlt).trans hh, r⟩
theorem Own.base {w : World} {B : Nat} {v : Value} {l : List UInt8} (h : Own w B v l) : ∀ k, v.ownBlock = some k → B ≤ k := by
  intro k hk
  rcases h.2 with ⟨rfl, _⟩ | ⟨g, cap, cur, rfl, hg, _⟩
  · simp [Value.ownBlock] at hk
  · simp [Value.ownBlock] at hk; omega

theorem Own.lt {w : World} {B : Nat} {v : Value} {l : List UInt8} (h : Own w B v l) : ∀ k, v.ownBlock = some k → k < w.heap.size := by
  intro k hk
  rcases h.2 with ⟨rfl, _⟩ | ⟨g, cap, cur, rfl, hg, hh, _⟩
  · simp [Value.ownBlock] at hk
  · simp [Value.ownBlock] at hk
    subst hk
    rcases Nat.lt_or_ge g w.heap.size with hlt | hge
    · exact hlt
    · rw [Array.getElem?_eq_none hge] at hh; cases hh
/-- A cell of another block than the row that is written. -/
theorem cell_grown {w w' : World} {v : Value} (hg : w.grownBy w' v.ownBlock) {g i : Nat} {u : Value} (hne : ∀ k, v.ownBlock = some k → k ≠ g) (hc : w.cell? ⟨g, i, none⟩ = some u) (hlt : g < w.heap.size) : w'.cell? ⟨g, i, none⟩ = some u :=
  (World.cell?_of_block (w := w) (a := ⟨g, i, none⟩) (hg.block g hlt (fun e => hne _ e.symm rfl))).trans hc
theorem Slc.str {P : Program} {w : World} {v : Value} {l : List UInt8} (h : Slc w v l) (src dst e : TypeId) (hs : P.underlying src = some (.slice e)) (he : P.underlying e = some (.int .u8)) (hd : P.underlying dst = some .string) :
    (convert src dst v).run P w = .ok (.string ⟨l.toArray⟩) w := by
  obtain ⟨A, c, rfl, h1, h2, _, h3⟩ := h
  rcases A with _ | a
  · have h0 : l = [] := by
      rcases Nat.eq_zero_or_pos l.length with h0 | h0
      · exact List.eq_nil_of_length_eq_zero h0
      · obtain ⟨b, o, h, _⟩ := h3 h0; cases h
    subst h0
    rw [run_convert_bytes_nil w src e hs he _ c dst hd]; rfl
  · refine run_convert_bytes_back w src dst e a c l hs he hd fun j hj => ?_
    obtain ⟨b, o, h, _, hc⟩ := h3 (by omega)
    cases h
    rw [add_plain]
    exact hc j hj

/-- A new row. -/
theorem Own.lit (w : World) (B : Nat) (l : List UInt8) (cs : Array Value) (n : Nat) (hc : cs.toList = vals l) (hn : n = l.length) (hB : B ≤ w.heap.size) (hl : l.length ≤ maxLen) :
    Own (w.alloc (.cells cs 5)) B (.slice (some ⟨w.heap.size, 0, none⟩) n n) l := by
  subst hn
  have hs : cs.size = l.length * 1 := by rw [← Array.length_toList, hc, vals_length, Nat.mul_one]
  have := World.ownsRow_lit (e := 5) (size := 1) (base := B) w cs l.length hB hl hs
  rw [hc] at this
  exact this

theorem Own.shape {w : World} {B : Nat} {v : Value} {l : List UInt8} (h : Own w B v l) (n : Nat) (hn : l.length = n) : ∃ A c, v = .slice A n c := by
  obtain ⟨A, c, rfl, _⟩ := h.slc
  exact ⟨A, c, by rw [hn]⟩
theorem Own.alloc {w : World} {B : Nat} {v : Value} {l : List UInt8} (h : Own w B v l) (o : Obj) : Own (w.alloc o) B v l := h.below ((Below.refl _ _).alloc (Nat.le_refl _) o)
theorem Own.drewN {w : World} {B : Nat} {v : Value} {l : List UInt8} (h : Own w B v l) (n : Nat) : Own (w.drewN n) B v l := h
theorem Slc.drewN {w : World} {v : Value} {l : List UInt8} (h : Slc w v l) (n : Nat) : Slc (w.drewN n) v l := h
theorem Own.drawn {w w' : World} {B : Nat} {v : Value} {l : List UInt8} (h : Own w B v l) (hd : Drawn w w') : Own w' B v l := by
  obtain ⟨n, rfl⟩ := hd; exact h
theorem Slc.drawn {w w' : World} {v : Value} {l : List UInt8} (h : Slc w v l) (hd : Drawn w w') : Slc w' v l := by
  obtain ⟨n, rfl⟩ := hd; exact h
theorem Own.drew {w : World} {B : Nat} {v : Value} {l : List UInt8} (h : Own w B v l) : Own w.drew B v l := h
/-- One new byte, as append lays it. -/
theorem Slc.byte (w : World) (x : UInt8) : Slc (w.alloc (.cells #[.int .u8 (x.toNat : Int)] 5)) (.slice (some ⟨w.heap.size, 0, none⟩) 1 1) [x] :=
  (Own.lit w w.heap.size [x] #[.int .u8 (x.toNat : Int)] 1 rfl rfl (Nat.le_refl _) (by simp [maxLen])).slc
def slen : Value → Nat | .slice _ n _ => n | _ => 0
theorem slen_own {w : World} {B : Nat} {v : Value} {l : List UInt8} (h : Own w B v l) : slen v = l.length := by
  obtain ⟨A, c, rfl, _⟩ := h.slc; rfl

theorem info_u8 : (Try.prog.info? 5).map (fun i => (i.zero, i.size, i.bytes)) = some (some (.int .u8 0), 1, 1) := by kernel_rfl

/-- append of bytes onto a row of the call's own. -/
theorem wp_app (w : World) {o : Oper} {a : Act} {K : Act → World → Prop} {Q : Exit → Act → World → Prop} (s x : Operand)
    (ho : o.op = .call { callee := .builtin .append, args := #[s, x], argTypes := #[23, 23] })
    (B : Nat) (v : Value) (xs : List UInt8) (hs : a.eval s = v) (hown : Own w B v xs) (u : Value) (ys : List UInt8) (hx : a.eval x = u) (hu : Slc w u ys)
    (hlen : xs.length + ys.length ≤ 1099511627776) (hB : B ≤ w.heap.size)
    (h : ∀ v' w', Own w' B v' (xs ++ ys) → w.grownBy w' v.ownBlock → K (a.put o.dst v') w') : o.wp Try.prog a w K Q := by
  obtain ⟨i0, hi, hz0, hz1, hz2⟩ := info_parts info_u8
  obtain ⟨A, c, rfl, h1, h2, hn, h3⟩ := hu
  rcases A with _ | ad
  · have h0 : ys = [] := by
      rcases Nat.eq_zero_or_pos ys.length with h0 | h0
      · exact List.eq_nil_of_length_eq_zero h0
      · obtain ⟨b, o, h, _⟩ := h3 h0; cases h
    subst h0
    obtain rfl := hn rfl
    have hr := run_append_owned_none (P := Try.prog) w B 23 o.type 5 i0 1 Try.underlying23 hi v xs.length (vals xs) hown
    unfold Oper.wp execOp
    simp only [ho, resolve, invoke, builtin, Sem.run_bind, Sem.run_pure, Result.andThen_ok, List.map_toArray, List.map_cons, List.map_nil, hs, hx, List.length_nil, hr]
    exact h v w (by simpa using hown) (World.grownBy.refl w _)
  · refine wp_append_own w s x 23 ho B 5 i0 _ 1 1 Try.underlying23 hi hz0 hz1 hz2 rfl (by decide) v xs.length (vals xs) hs hown ad ys.length c (vals ys) hx (by rw [vals_length, Nat.mul_one]) ?_ (vals_one _)
      (by simp only [maxLen]; omega) (by omega) hB ?_
    · intro j z hz
      have hj : j < ys.length := by
        have := (List.getElem?_eq_some_iff.1 hz).1
        rwa [vals_length] at this
      obtain ⟨b, o, he, _, hc⟩ := h3 (by omega)
      cases he
      rw [add_plain, hc j hj, ← hz, vals_get ys j hj]
    · intro v' w' ho' hg _
      exact h v' w' (by unfold Own; rw [List.length_append, vals_append]; exact ho') hg
theorem wpList_app (w : World) {ops : Array Oper} {rest : List Oper} {o : Oper} {a : Act} {Q : Exit → Act → World → Prop} (hgd : o.guard = none) (s x : Operand)
    (ho : o.op = .call { callee := .builtin .append, args := #[s, x], argTypes := #[23, 23] })
    (B : Nat) (v : Value) (xs : List UInt8) (hs : a.eval s = v) (hown : Own w B v xs) (u : Value) (ys : List UInt8) (hx : a.eval x = u) (hu : Slc w u ys)
    (hlen : xs.length + ys.length ≤ 1099511627776) (hB : B ≤ w.heap.size)
    (h : ∀ v' w', Own w' B v' (xs ++ ys) → w.grownBy w' v.ownBlock → wpList Try.prog ops Q rest (a.put o.dst v') w') : wpList Try.prog ops Q (o :: rest) a w :=
  wpList_plain hgd fun _ hK => wp_app w s x ho B v xs hs hown u ys hx hu hlen hB fun v' w' h1 h2 => hK _ _ (h v' w' h1 h2)
theorem step_app (w : World) {ops : Array Oper} {o : Oper} {a : Act} {K : Act → World → Prop} {Q : Exit → Act → World → Prop} {E : Prop} (hgd : o.guard = none) (s x : Operand)
    (ho : o.op = .call { callee := .builtin .append, args := #[s, x], argTypes := #[23, 23] })
    (B : Nat) (v : Value) (xs : List UInt8) (hs : a.eval s = v) (hown : Own w B v xs) (u : Value) (ys : List UInt8) (hx : a.eval x = u) (hu : Slc w u ys)
    (hlen : xs.length + ys.length ≤ 1099511627776) (hB : B ≤ w.heap.size)
    (h : ∀ v' w', Own w' B v' (xs ++ ys) → w.grownBy w' v.ownBlock → K (a.put o.dst v') w') :
    if Region.wanted o (yielded ops a.tmps) = true then Oper.wp Try.prog o a w K Q else E := by
  have hw : Region.wanted o (yielded ops a.tmps) = true := by simp [Region.wanted, hgd]
  rw [if_pos hw]
  exact wp_app w s x ho B v xs hs hown u ys hx hu hlen hB h

/-- A cut of a slice at its head; at its end. -/
theorem Slc.take {w : World} {A : Option Addr} {c : Nat} {l : List UInt8} (h : Slc w (.slice A l.length c) l) (n : Nat) (hn : n ≤ l.length) : Slc w (.slice A n c) (l.take n) := by
  obtain ⟨A', c', he, h1, h2, h4, h3⟩ := h
  cases he
  have hl : (l.take n).length = n := by rw [List.length_take]; omega
  refine ⟨A, c, by rw [hl], by omega, h2, h4, fun h0 => ?_⟩
  obtain ⟨b, o, rfl, hb, hc⟩ := h3 (by omega)
  refine ⟨b, o, rfl, hb, fun j hj => ?_⟩
  rw [hc j (by omega), List.getElem_take]
theorem Slc.drop {w : World} {A : Option Addr} {c : Nat} {l : List UInt8} (h : Slc w (.slice A l.length c) l) (n : Nat) (hn : n ≤ l.length) :
    Slc w (.slice (if c = n then A else A.map (·.add n)) (l.length - n) (c - n)) (l.drop n) := by
  obtain ⟨A', c', he, h1, h2, h4, h3⟩ := h
  cases he
  refine ⟨_, c - n, by rw [List.length_drop], by rw [List.length_drop]; omega, by omega, ?_, fun h0 => ?_⟩
  · intro hA
    split at hA
    · omega
    · cases A with
      | none => have := h4 rfl; omega
      | some a => simp at hA
  · rw [List.length_drop] at h0
    obtain ⟨b, o, rfl, hb, hc⟩ := h3 (by omega)
    rw [if_neg (by omega)]
    refine ⟨b, o + n, by rw [Option.map_some, add_plain], hb, fun j hj => ?_⟩
    rw [Nat.add_assoc, hc _ (by rw [List.length_drop] at hj; omega), List.getElem_drop]

/-- The cuts of a slice, its length and its elements, as the walk meets them. -/
theorem lenV {w : World} {v : Value} {l : List UInt8} (h : Slc w v l) : ∀ W, (Builtin.len_ #[23] 3 #[v]).run Try.prog W = .ok (.int .i64 l.length) W := by
  obtain ⟨A, c, rfl, h1, h2, h4, h3⟩ := id h
  intro W
  unfold maxLen at h2
  go_simp
theorem cutH {w : World} {v : Value} {l : List UInt8} (h : Slc w v l) (n : Nat) (hn : n ≤ l.length) :
    ∃ A' c', Slc w (.slice A' n c') (l.take n) ∧ ∀ W, (Instr.slice 23 v none (some (.int .i64 n)) none).run Try.prog W = .ok (.slice A' n c') W := by
  obtain ⟨A, c, rfl, h1, h2, h4, h3⟩ := id h
  refine ⟨_, _, h.take n hn, fun W => ?_⟩
  have h0 : n ≤ c := by omega
  by_cases hc : c = 0
  · obtain rfl : n = 0 := by omega
    subst hc
    go_simp
  · cases A with
    | none => exact absurd (h4 rfl) hc
    | some a => obtain ⟨b, o, s⟩ := a; go_simp
theorem cutL {w : World} {v : Value} {l : List UInt8} (h : Slc w v l) (n : Nat) (hn : n ≤ l.length) :
    ∃ A' c', Slc w (.slice A' (l.length - n) c') (l.drop n) ∧ ∀ W, (Instr.slice 23 v (some (.int .i64 n)) none none).run Try.prog W = .ok (.slice A' (l.length - n) c') W := by
  obtain ⟨A, c, rfl, h1, h2, h4, h3⟩ := id h
  refine ⟨_, _, h.drop n hn, fun W => ?_⟩
  go_simp
theorem cutLH {w : World} {v : Value} {l : List UInt8} (h : Slc w v l) (n m : Nat) (hn : n ≤ m) (hm : m ≤ l.length) :
    ∃ A' c', Slc w (.slice A' (m - n) c') ((l.drop n).take (m - n)) ∧ ∀ W, (Instr.slice 23 v (some (.int .i64 n)) (some (.int .i64 m)) none).run Try.prog W = .ok (.slice A' (m - n) c') W := by
  obtain ⟨A, c, rfl, h1, h2, h4, h3⟩ := id h
  have hd := h.drop n (by omega)
  rw [← List.length_drop] at hd
  refine ⟨_, _, hd.take (m - n) (by rw [List.length_drop]; omega), fun W => ?_⟩
  have hmc : m ≤ c := by omega
  go_simp
theorem idxV {w : World} {v : Value} {l : List UInt8} (h : Slc w v l) (j : Nat) (hj : j < l.length) :
    ∃ p : Addr, p.block < w.heap.size ∧ (∀ W, (Instr.indexAt 23 v (.int .i64 j)).run Try.prog W = .ok (.pointer (some p)) W) ∧ w.cell? p = some (.int .u8 (l[j].toNat : Int)) := by
  obtain ⟨A, c, rfl, h1, h2, h4, h3⟩ := id h
  obtain ⟨b, o, rfl, hb, hc⟩ := h3 (by omega)
  refine ⟨⟨b, o + j, none⟩, hb, fun W => ?_, hc j hj⟩
  go_simp
/-- v reads, in w, as a list of slices of bytes. -/
def Slcs (w : World) (v : Value) (ls : List (List UInt8)) : Prop :=
  ∃ A c, v = .slice A ls.length c ∧ ls.length ≤ c ∧ c ≤ maxLen ∧ (A = none → c = 0) ∧
    (0 < ls.length → ∃ b o, A = some ⟨b, o, none⟩ ∧ b < w.heap.size ∧ ∀ j (_ : j < ls.length), ∃ u, w.cell? ⟨b, o + j, none⟩ = some u ∧ Slc w u ls[j])

theorem Slcs.keep {w w' : World} {v : Value} {l : List (List UInt8)} (h : Slcs w v l) (hs : w.heap.size ≤ w'.heap.size) (hk : ∀ b o, b < w.heap.size → w'.cell? ⟨b, o, none⟩ = w.cell? ⟨b, o, none⟩) : Slcs w' v l := by
  obtain ⟨A, c, rfl, h1, h2, hn, h3⟩ := h
  refine ⟨A, c, rfl, h1, h2, hn, fun h0 => ?_⟩
  obtain ⟨b, o, rfl, hb, hc⟩ := h3 h0
  refine ⟨b, o, rfl, by omega, fun j hj => ?_⟩
  obtain ⟨u, hu, hl⟩ := hc j hj
  exact ⟨u, (hk _ _ hb).trans hu, hl.keep hs hk⟩
theorem Slcs.below {w w' : World} {v : Value} {l : List (List UInt8)} (h : Slcs w v l) (hb : Below w.heap.size w w') : Slcs w' v l :=
  h.keep hb.size fun b o hlt => hb.cell (p := ⟨b, o, none⟩) hlt

/-- A new list of slices. -/
theorem Slcs.lit (w : World) (vs : Array Value) (ls : List (List UInt8)) (t : TypeId) (n : Nat) (hn : n = ls.length) (hm : n ≤ maxLen) (h : ∀ j (_ : j < ls.length), ∃ u, vs[j]? = some u ∧ Slc w u ls[j]) :
    Slcs (w.alloc (.cells vs t)) (.slice (some ⟨w.heap.size, 0, none⟩) n n) ls := by
  subst hn
  refine ⟨_, _, rfl, Nat.le_refl _, hm, by simp, fun _ => ⟨_, 0, rfl, by simp, fun j hj => ?_⟩⟩
  obtain ⟨u, hu, hs⟩ := h j hj
  refine ⟨u, ?_, hs.alloc _⟩
  rw [Nat.zero_add]
  have := heap_alloc_new w (.cells vs t)
  rw [cell_of_row _ _ j vs t (0, 0) this, hu]
theorem Slcs.drew {w : World} {v : Value} {l : List (List UInt8)} (h : Slcs w v l) : Slcs w.drew v l := h
theorem Slcs.alloc {w : World} {v : Value} {l : List (List UInt8)} (h : Slcs w v l) (o : Obj) : Slcs (w.alloc o) v l := h.below ((Below.refl _ _).alloc (Nat.le_refl _) o)
/-- The same by the block's number. -/
theorem Slcs.at1 (w : World) (v : Value) (l : List UInt8) (t : TypeId) (g : Nat) (hg : g = w.heap.size) (h : Slc w v l) : Slcs (w.alloc (.cells #[v] t)) (.slice (some ⟨g, 0, none⟩) 1 1) [l] := by
  subst hg
  exact Slcs.lit w #[v] [l] t 1 rfl (by simp [maxLen]) fun j hj => by
    match j, hj with
    | 0, _ => exact ⟨v, rfl, h⟩
theorem Slcs.one (w : World) (v : Value) (l : List UInt8) (t : TypeId) (h : Slc w v l) : Slcs (w.alloc (.cells #[v] t)) (.slice (some ⟨w.heap.size, 0, none⟩) 1 1) [l] :=
  Slcs.lit w #[v] [l] t 1 rfl (by simp [maxLen]) fun j hj => by
    match j, hj with
    | 0, _ => exact ⟨v, rfl, h⟩
theorem Slcs.two (w : World) (v1 v2 : Value) (l1 l2 : List UInt8) (t : TypeId) (h1 : Slc w v1 l1) (h2 : Slc w v2 l2) : Slcs (w.alloc (.cells #[v1, v2] t)) (.slice (some ⟨w.heap.size, 0, none⟩) 2 2) [l1, l2] :=
  Slcs.lit w #[v1, v2] [l1, l2] t 2 rfl (by simp [maxLen]) fun j hj => by
    match j, hj with
    | 0, _ => exact ⟨v1, rfl, h1⟩
    | 1, _ => exact ⟨v2, rfl, h2⟩
theorem Slcs.three (w : World) (v1 v2 v3 : Value) (l1 l2 l3 : List UInt8) (t : TypeId) (h1 : Slc w v1 l1) (h2 : Slc w v2 l2) (h3 : Slc w v3 l3) : Slcs (w.alloc (.cells #[v1, v2, v3] t)) (.slice (some ⟨w.heap.size, 0, none⟩) 3 3) [l1, l2, l3] :=
  Slcs.lit w #[v1, v2, v3] [l1, l2, l3] t 3 rfl (by simp [maxLen]) fun j hj => by
    match j, hj with
    | 0, _ => exact ⟨v1, rfl, h1⟩
    | 1, _ => exact ⟨v2, rfl, h2⟩
    | 2, _ => exact ⟨v3, rfl, h3⟩

end Go.Proofs.Ytbfmabjpjblpaaa
