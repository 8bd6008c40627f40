/- Lists of fields (package api) in memory; the contracts of layer 1's functions on fields. -/
import Derived.Test.YtbfmabjpjblpaaaOct2
import Derived.Deep.RegionWith
import Derived.Deep.RegionLaw
set_option linter.unusedVariables false
set_option linter.unusedSimpArgs false
namespace Go.Proofs.Ytbfmabjpjblpaaa
open Go.RowKit

theorem Slc.shape {w : World} {v : Value} {l : List UInt8} (h : Slc w v l) : ∃ A c, v = .slice A l.length c := by
  obtain ⟨A, c, rfl, _⟩ := h
  exact ⟨A, c, rfl⟩
theorem Below_al {w w' : World} {o : Obj} (h : Below (w.alloc o).heap.size (w.alloc o) w') : Below w.heap.size w w' :=
  ((Below.refl _ _).alloc (Nat.le_refl _) _).trans (h.mono (by simp))
abbrev Fs := List (Int × List UInt8)
/-- v reads, in w, as the list of fields fs. -/
def SlcF (w : World) (v : Value) (fs : Fs) : Prop :=
  ∃ A c, v = .slice A fs.length c ∧ fs.length ≤ c ∧ c ≤ maxLen ∧ (A = none → c = 0) ∧
    (0 < fs.length → ∃ b o, A = some ⟨b, o, none⟩ ∧ b < w.heap.size ∧ ∀ j (_ : j < fs.length), ∃ u, w.cell? ⟨b, o + j * 2, none⟩ = some (.int .i64 fs[j].1) ∧ w.cell? ⟨b, o + j * 2 + 1, none⟩ = some u ∧ Slc w u fs[j].2)
theorem SlcF.keep {w w' : World} {v : Value} {l : Fs} (h : SlcF w v l) (hs : w.heap.size ≤ w'.heap.size) (hk : ∀ b o, b < w.heap.size → w'.cell? ⟨b, o, none⟩ = w.cell? ⟨b, o, none⟩) : SlcF w' v l := by
  obtain ⟨A, c, rfl, h1, h2, hn, h3⟩ := h
  refine ⟨A, c, rfl, h1, h2, hn, fun h0 => ?_⟩
  obtain ⟨b, o, rfl, hb, hc⟩ := h3 h0
  refine ⟨b, o, rfl, by omega, fun j hj => ?_⟩
  obtain ⟨u, hu, hu2, hl⟩ := hc j hj
  exact ⟨u, (hk _ _ hb).trans hu, (hk _ _ hb).trans hu2, hl.keep hs hk⟩
theorem SlcF.below {w w' : World} {v : Value} {l : Fs} (h : SlcF w v l) (hb : Below w.heap.size w w') : SlcF w' v l :=
  h.keep hb.size fun b o hlt => hb.cell (p := ⟨b, o, none⟩) hlt
theorem lenF {w : World} {v : Value} {l : Fs} (h : SlcF w v l) : ∀ W, (Builtin.len_ #[39] 3 #[v]).run Try.prog W = .ok (.int .i64 l.length) W := by
  obtain ⟨A, c, rfl, h1, h2, h4, h3⟩ := id h
  intro W
  unfold maxLen at h2
  go_simp
theorem SlcF.le {w : World} {v : Value} {l : Fs} (h : SlcF w v l) : l.length ≤ maxLen := by
  obtain ⟨_, _, _, _, _, _⟩ := h
  omega
theorem idxF {w : World} {v : Value} {l : Fs} (h : SlcF w v l) (j : Nat) (hj : j < l.length) :
    ∃ b q u, b < w.heap.size ∧ (∀ W, (Instr.indexAt 39 v (.int .i64 j)).run Try.prog W = .ok (.pointer (some ⟨b, q, none⟩)) W) ∧
      w.cell? ⟨b, q, none⟩ = some (.int .i64 l[j].1) ∧ w.cell? ⟨b, q + 1, none⟩ = some u ∧ Slc w u l[j].2 := by
  obtain ⟨A, c, rfl, h1, h2, h4, h3⟩ := id h
  obtain ⟨b, o, rfl, hb, hc⟩ := h3 (by omega)
  obtain ⟨u, c1, c2, hs⟩ := hc j hj
  refine ⟨b, o + j * 2, u, hb, fun W => ?_, c1, c2, hs⟩
  have hjc : j < c := by omega
  go_simp

/-- The cells of a row of fields. -/
def rowF (fs : Fs) (us : List Value) : List Value := (fs.zip us).flatMap fun x => [.int .i64 x.1.1, x.2]
theorem rowF_snoc (fs : Fs) (us : List Value) (t : Int) (l : List UInt8) (u : Value) (h : us.length = fs.length) : rowF (fs ++ [(t, l)]) (us ++ [u]) = rowF fs us ++ [.int .i64 t, u] := by
  unfold rowF
  rw [List.zip_append h.symm]
  simp
theorem rowF_get (fs : Fs) : ∀ (us : List Value) (_ : us.length = fs.length) (j : Nat) (hj : j < fs.length), (rowF fs us)[j * 2]? = some (.int .i64 fs[j].1) ∧ (rowF fs us)[j * 2 + 1]? = us[j]? := by
  induction fs with
  | nil => intro us h j hj; simp at hj
  | cons f fs ih =>
    intro us h j hj
    cases us with
    | nil => simp at h
    | cons u us =>
      have e : rowF (f :: fs) (u :: us) = .int .i64 f.1 :: u :: rowF fs us := rfl
      rw [e]
      cases j with
      | zero => exact ⟨rfl, rfl⟩
      | succ j =>
        obtain ⟨h1, h2⟩ := ih us (by simpa using h) j (by simpa using hj)
        rw [show (j + 1) * 2 = j * 2 + 1 + 1 by omega]
        exact ⟨h1, h2⟩
/-- v is a row of the call's own (from block B on), whose Data are rows of its own, too. -/
def OwnF (w : World) (B : Nat) (v : Value) (fs : Fs) : Prop :=
  ∃ us : List Value, us.length = fs.length ∧ w.ownsRow B 41 2 v fs.length (rowF fs us) ∧ ∀ j (_ : j < fs.length), ∃ u, us[j]? = some u ∧ Own w B u fs[j].2
theorem OwnF.nil (w : World) (B : Nat) : OwnF w B (.slice none 0 0) [] := ⟨[], rfl, ⟨rfl, .inl ⟨rfl, rfl⟩⟩, fun j hj => by simp at hj⟩
theorem OwnF.slcF {w : World} {B : Nat} {v : Value} {fs : Fs} (h : OwnF w B v fs) : SlcF w v fs := by
  obtain ⟨us, hl, ho, hd⟩ := h
  obtain ⟨hlen, hr⟩ := id ho
  rcases hr with ⟨rfl, h0⟩ | ⟨g, cap, cur, rfl, hg, hh, hn, hm, hs, ht⟩
  · have : fs = [] := List.eq_nil_of_length_eq_zero h0
    subst this
    exact ⟨none, 0, rfl, by simp, by simp [maxLen], fun _ => rfl, by simp⟩
  · refine ⟨_, _, rfl, hn, hm, by simp, fun h0 => ⟨g, 0, rfl, ?_, fun j hj => ?_⟩⟩
    · rcases Nat.lt_or_ge g w.heap.size with hlt | hge
      · exact hlt
      · rw [Array.getElem?_eq_none hge] at hh; cases hh
    · obtain ⟨h1, h2⟩ := rowF_get fs us hl j hj
      obtain ⟨u, hu, hou⟩ := hd j hj
      refine ⟨u, ?_, ?_, hou.slc⟩
      · rw [World.ownsRow.cellAt ho (0 + j * 2) (by omega), Nat.zero_add, h1]
      · rw [World.ownsRow.cellAt ho (0 + j * 2 + 1) (by omega), Nat.zero_add, h2, hu]
theorem OwnF.mono {w : World} {B B' : Nat} {v : Value} {l : Fs} (h : OwnF w B v l) (hB : B' ≤ B) : OwnF w B' v l := by
  obtain ⟨us, hl, ⟨h1, h2⟩, hd⟩ := h
  refine ⟨us, hl, ⟨h1, ?_⟩, fun j hj => ?_⟩
  · rcases h2 with h2 | ⟨g, cap, cur, hv, hg, r⟩
    · exact .inl h2
    · exact .inr ⟨g, cap, cur, hv, by omega, r⟩
  · obtain ⟨u, hu, ho⟩ := hd j hj
    exact ⟨u, hu, ho.mono hB⟩
theorem OwnF.below {w w' : World} {B : Nat} {v : Value} {l : Fs} (h : OwnF w B v l) (hb : Below w.heap.size w w') : OwnF w' B v l := by
  obtain ⟨us, hl, ⟨h1, h2⟩, hd⟩ := h
  refine ⟨us, hl, ⟨h1, ?_⟩, fun j hj => ?_⟩
  · rcases h2 with h2 | ⟨g, cap, cur, hv, hg, hh, r⟩
    · exact .inl h2
    · have hlt : g < w.heap.size := by
        rcases Nat.lt_or_ge g w.heap.size with hlt | hge
        · exact hlt
        · rw [Array.getElem?_eq_none hge] at hh; cases hh
      exact .inr ⟨g, cap, cur, hv, hg, (hb.block g hlt).trans hh, r⟩
  · obtain ⟨u, hu, ho⟩ := hd j hj
    exact ⟨u, hu, ho.below hb⟩
theorem OwnF.alloc {w : World} {B : Nat} {v : Value} {l : Fs} (h : OwnF w B v l) (o : Obj) : OwnF (w.alloc o) B v l := h.below ((Below.refl _ _).alloc (Nat.le_refl _) o)
theorem OwnF.drew {w : World} {B : Nat} {v : Value} {l : Fs} (h : OwnF w B v l) : OwnF w.drew B v l := h
theorem OwnF.base {w : World} {B : Nat} {v : Value} {l : Fs} (h : OwnF w B v l) : ∀ k, v.ownBlock = some k → B ≤ k := by
  intro k hk
  obtain ⟨us, hl, h, hd⟩ := h
  rcases h.2 with ⟨rfl, _⟩ | ⟨g, cap, cur, rfl, hg, _⟩
  · simp [Value.ownBlock] at hk
  · simp [Value.ownBlock] at hk; omega
/-- A row of bytes is not the row of another type that is written. -/
theorem Own.other {w w' : World} {B : Nat} {v : Value} {l : List UInt8} (h : Own w B v l) {B' n size : Nat} {e : TypeId} {v' : Value} {xs : List Value} (ho : w.ownsRow B' e size v' n xs) (he : e ≠ 5) (hg : w.grownBy w' v'.ownBlock) : Own w' B v l := by
  obtain ⟨h1, h2⟩ := h
  refine ⟨h1, ?_⟩
  rcases h2 with h2 | ⟨g, cap, cur, hv, hb, hh, r⟩
  · exact .inl h2
  · have hlt : g < w.heap.size := by
      rcases Nat.lt_or_ge g w.heap.size with hlt | hge
      · exact hlt
      · rw [Array.getElem?_eq_none hge] at hh; cases hh
    refine .inr ⟨g, cap, cur, hv, hb, (hg.block g hlt ?_).trans hh, r⟩
    intro hr
    rcases ho.2 with ⟨rfl, _⟩ | ⟨g', cap', cur', rfl, _, hh', _⟩
    · simp [Value.ownBlock] at hr
    · simp [Value.ownBlock] at hr
      subst hr
      rw [hh] at hh'
      injection hh' with hh'
      injection hh' with _ ht
      exact he ht.symm

theorem info_fld : (Try.prog.info? 41).map (fun i => (i.zero, i.size, i.bytes)) = some (some (.agg #[.int .i64 0, .slice none 0 0]), 2, 32) := by kernel_rfl
/-- append of one field. -/
theorem wp_appF (w : World) {o : Oper} {a : Act} {K : Act → World → Prop} {Q : Exit → Act → World → Prop} (s x : Operand)
    (ho : o.op = .call { callee := .builtin .append, args := #[s, x], argTypes := #[39, 39] })
    (B : Nat) (v : Value) (fs : Fs) (hs : a.eval s = v) (hown : OwnF w B v fs) (g : Nat) (t : Int) (u : Value) (l : List UInt8) (hx : a.eval x = .slice (some ⟨g, 0, none⟩) 1 1)
    (hc1 : w.cell? ⟨g, 0, none⟩ = some (.int .i64 t)) (hc2 : w.cell? ⟨g, 1, none⟩ = some u) (hu : Own w B u l)
    (hlen : fs.length ≤ 1099511627776) (hB : B ≤ w.heap.size)
    (h : ∀ v' w', OwnF w' B v' (fs ++ [(t, l)]) → w.grownBy w' v.ownBlock → K (a.put o.dst v') w') : o.wp Try.prog a w K Q := by
  obtain ⟨i0, hi, hz0, hz1, hz2⟩ := info_parts info_fld
  obtain ⟨us, hl, hro, hd⟩ := hown
  refine wp_append_own w s x 39 ho B 41 i0 _ 2 32 Try.underlying39 hi hz0 hz1 hz2 rfl (by decide) v fs.length (rowF fs us) hs hro ⟨g, 0, none⟩ 1 1 [.int .i64 t, u] hx rfl ?_ ?_
      (by simp only [maxLen]; omega) (by omega) hB ?_
  · intro j z hz
    match j, hz with
    | 0, hz => simp at hz; subst hz; rw [add_plain]; exact hc1
    | 1, hz => simp at hz; subst hz; rw [add_plain]; exact hc2
  · obtain ⟨A, c, rfl, _⟩ := hu.slc
    intro z hz
    simp at hz
    rcases hz with rfl | rfl <;> rfl
  · intro v' w' ho' hg _
    refine h v' w' ⟨us ++ [u], by simp [hl], ?_, fun j hj => ?_⟩ hg
    · rw [rowF_snoc _ _ _ _ _ hl, List.length_append]; exact ho'
    · by_cases hjl : j < fs.length
      · obtain ⟨z, hz, hoz⟩ := hd j hjl
        refine ⟨z, by rw [List.getElem?_append_left (by omega)]; exact hz, ?_⟩
        rw [List.getElem_append_left hjl]
        exact hoz.other hro (by decide) hg
      · obtain rfl : j = fs.length := by simp at hj; omega
        refine ⟨u, by rw [← hl]; simp, ?_⟩
        rw [List.getElem_append_right (Nat.le_refl _)]
        simpa using hu.other hro (by decide) hg
theorem wpList_appF (w : World) {ops : Array Oper} {rest : List Oper} {o : Oper} {a : Act} {Q : Exit → Act → World → Prop} (hgd : o.guard = none) (s x : Operand)
    (ho : o.op = .call { callee := .builtin .append, args := #[s, x], argTypes := #[39, 39] })
    (B : Nat) (v : Value) (fs : Fs) (hs : a.eval s = v) (hown : OwnF w B v fs) (g : Nat) (t : Int) (u : Value) (l : List UInt8) (hx : a.eval x = .slice (some ⟨g, 0, none⟩) 1 1)
    (hc1 : w.cell? ⟨g, 0, none⟩ = some (.int .i64 t)) (hc2 : w.cell? ⟨g, 1, none⟩ = some u) (hu : Own w B u l)
    (hlen : fs.length ≤ 1099511627776) (hB : B ≤ w.heap.size)
    (h : ∀ v' w', OwnF w' B v' (fs ++ [(t, l)]) → w.grownBy w' v.ownBlock → wpList Try.prog ops Q rest (a.put o.dst v') w') : wpList Try.prog ops Q (o :: rest) a w :=
  wpList_plain hgd fun _ hK => wp_appF w s x ho B v fs hs hown g t u l hx hc1 hc2 hu hlen hB fun v' w' h1 h2 => hK _ _ (h v' w' h1 h2)
theorem step_appF (w : World) {ops : Array Oper} {o : Oper} {a : Act} {K : Act → World → Prop} {Q : Exit → Act → World → Prop} {E : Prop} (hgd : o.guard = none) (s x : Operand)
    (ho : o.op = .call { callee := .builtin .append, args := #[s, x], argTypes := #[39, 39] })
    (B : Nat) (v : Value) (fs : Fs) (hs : a.eval s = v) (hown : OwnF w B v fs) (g : Nat) (t : Int) (u : Value) (l : List UInt8) (hx : a.eval x = .slice (some ⟨g, 0, none⟩) 1 1)
    (hc1 : w.cell? ⟨g, 0, none⟩ = some (.int .i64 t)) (hc2 : w.cell? ⟨g, 1, none⟩ = some u) (hu : Own w B u l)
    (hlen : fs.length ≤ 1099511627776) (hB : B ≤ w.heap.size)
    (h : ∀ v' w', OwnF w' B v' (fs ++ [(t, l)]) → w.grownBy w' v.ownBlock → K (a.put o.dst v') w') :
    if Region.wanted o (yielded ops a.tmps) = true then Oper.wp Try.prog o a w K Q else E := by
  have hw : Region.wanted o (yielded ops a.tmps) = true := by simp [Region.wanted, hgd]
  rw [if_pos hw]
  exact wp_appF w s x ho B v fs hs hown g t u l hx hc1 hc2 hu hlen hB h

/-! ### The errors of a field, and its bytes -/
def chk (f : Int × List UInt8) : Int := if f.1 < 0 ∨ 65535 < f.1 then 4 else if 65535 < f.2.length then 2 else 0
def fldL (f : Int × List UInt8) : List UInt8 := putL f.1.toNat 2 ++ putL f.2.length 2 ++ f.2
set_option maxHeartbeats 400000 in
theorem check_any (t : Int) (u : Value) (l : List UInt8) (w : World) (hu : Slc w u l) :
    Calls Try.prog 35 #[.agg #[.int .i64 t, u]] w fun e w' => e = .returned (.int .i64 (chk (t, l))) ∧ Below w.heap.size w w' := by
  have hle := hu.le
  unfold maxLen at hle
  obtain ⟨A, c, rfl, _⟩ := id hu
  by_cases h1 : t < 0
  · have e : chk (t, l) = 4 := by unfold chk; rw [if_pos (.inl h1)]
    rw [e]
    go_enter Try.func35, Try.ntmps35
    go_wp2
    go_ret
    exact ⟨rfl, (Below.refl _ _).alloc (Nat.le_refl _) _⟩
  · by_cases h2 : 65535 < t
    · have e : chk (t, l) = 4 := by unfold chk; rw [if_pos (.inr h2)]
      rw [e]
      go_enter Try.func35, Try.ntmps35
      go_wp2
      go_ret
      exact ⟨rfl, (Below.refl _ _).alloc (Nat.le_refl _) _⟩
    · by_cases h3 : 65535 < l.length
      · have e : chk (t, l) = 2 := by unfold chk; rw [if_neg (by simp only; omega), if_pos h3]
        rw [e]
        go_enter Try.func35, Try.ntmps35
        go_wp2
        go_ret
        exact ⟨rfl, (Below.refl _ _).alloc (Nat.le_refl _) _⟩
      · have e : chk (t, l) = 0 := by unfold chk; rw [if_neg (by simp only; omega), if_neg h3]
        rw [e]
        go_enter Try.func35, Try.ntmps35
        go_wp2
        go_ret
        exact ⟨rfl, (Below.refl _ _).alloc (Nat.le_refl _) _⟩

/-! ### SameFields -/
def sameF (a b : Fs) : Bool := decide (a = b)
theorem samef_step (l m : Fs) (i : Nat) (h1 : i < l.length) (h2 : i < m.length) (ht : l.take i = m.take i) (a : l[i].1 = m[i].1) (b : l[i].2 = m[i].2) : l.take (i + 1) = m.take (i + 1) := by
  rw [List.take_succ_eq_append_getElem h1, List.take_succ_eq_append_getElem h2, ht, Prod.ext a b]
theorem samef_stop (l m : Fs) (i : Nat) (h1 : i < l.length) (h2 : i < m.length) (h : l[i] ≠ m[i]) : sameF l m = false := by
  apply decide_eq_false
  intro e
  subst e
  exact h rfl
set_option maxHeartbeats 800000 in
theorem samef_any (a b : Value) (l m : Fs) (w : World) (ha : SlcF w a l) (hb : SlcF w b m) :
    Calls Try.prog 30 #[a, b] w fun e w' => e = .returned (.bool (sameF l m)) ∧ Drawn w w' := by
  have hla := lenF ha
  have hlb := lenF hb
  have hle := ha.le
  unfold maxLen at hle
  by_cases hl : l.length = m.length
  · have hn : ((l.length : Int) != m.length) = false := by rw [bne_eq_false_iff_eq]; omega
    have Hl := Lib.hid hl; clear hl
    go_enter Try.func30, Try.ntmps30
    go_wp2
    go_loopw [5] (fun k wi => ∃ i : Nat, i ≤ l.length ∧ k = .int .i64 i ∧ l.take i = m.take i ∧ Drawn w wi) (fun k _ => l.length - (intOf k).toNat)
    case atStart => exact ⟨0, Nat.zero_le _, rfl, rfl, Drawn.refl _⟩
    case round =>
      obtain ⟨i, hi, rfl, ht, hdr⟩ := hrel
      have Ht := Lib.hid ht; clear ht
      by_cases hlt : i < l.length
      · obtain ⟨b1, q1, u1, _, e1, c1, d1, s1⟩ := idxF ha i hlt
        obtain ⟨b2, q2, u2, _, e2, c2, d2, s2⟩ := idxF hb i (by rw [← Hl.out]; exact hlt)
        have Hil := Lib.hid (show i < m.length by rw [← Hl.out]; exact hlt)
        replace c1 := (hdr.cell _).trans c1
        replace d1 := (hdr.cell _).trans d1
        replace c2 := (hdr.cell _).trans c2
        replace d2 := (hdr.cell _).trans d2
        replace s1 := s1.drawn hdr
        replace s2 := s2.drawn hdr
        have Hst := Lib.hid (fun h1 h2 => samef_step l m i hlt Hil.out Ht.out h1 h2)
        have Hno := Lib.hid (fun h => samef_stop l m i hlt Hil.out h)
        generalize l[i] = f1 at *
        generalize m[i]'_ = f2 at *
        obtain ⟨t1, x1⟩ := f1
        obtain ⟨t2, x2⟩ := f2
        by_cases ht : t1 = t2
        · have hne : (t1 != t2) = false := by rw [bne_eq_false_iff_eq]; exact ht
          have Ht2 := Lib.hid ht; clear ht
          by_cases hx : x1 = x2
          · have Hx := Lib.hid hx; clear hx
            have hxx : (x1 == x2) = true := by rw [beq_iff_eq]; exact Hx.out
            go_wp2
            go_quiet ((go_at_call 18; exact quiet (rsame_any _ _ _ _ _ (s1.drewN _) (s2.drewN _))))
            have hd' := hdr.more nq
            go_wp2
            go_roundw
            case rel => exact ⟨i + 1, by omega, by go_num, Hst.out Ht2.out Hx.out, hd'⟩
            case measure => simp [intOf] <;> omega
          · have Hx := Lib.hid hx; clear hx
            have hxx : (x1 == x2) = false := by rw [beq_eq_false_iff_ne]; exact Hx.out
            have E := Lib.hid (Hno.out (fun h => Hx.out (by injection h)))
            go_wp2
            go_quiet ((go_at_call 18; exact quiet (rsame_any _ _ _ _ _ (s1.drewN _) (s2.drewN _))))
            have hd' := hdr.more nq
            go_wp2
            go_ret
            exact ⟨by rw [E.out]; rfl, hd'⟩
        · have hne : (t1 != t2) = true := by rw [bne_iff_ne]; exact ht
          have E := Lib.hid (Hno.out (fun h => ht (by injection h)))
          clear ht
          go_wp2
          go_quiet ((go_at_call 18; exact quiet (rsame_any _ _ _ _ _ (s1.drewN _) (s2.drewN _))))
          have hd' := hdr.more nq
          go_wp2
          go_ret
          exact ⟨by rw [E.out]; rfl, hd'⟩
      · obtain rfl : i = l.length := by omega
        have E : Hid (sameF l m = true) := by
          apply decide_eq_true
          have := Ht.out
          rw [List.take_length, Hl.out, List.take_length] at this
          exact this
        go_wp2
        go_ret
        exact ⟨by rw [E.out]; rfl, hdr⟩
  · have hn : ((l.length : Int) != m.length) = true := by rw [bne_iff_ne]; omega
    have E : Hid (sameF l m = false) := decide_eq_false (fun h => hl (by rw [h]))
    clear hl
    go_enter Try.func30, Try.ntmps30
    go_wp2
    go_ret
    exact ⟨by rw [E.out]; rfl, Drawn.refl _⟩

end Go.Proofs.Ytbfmabjpjblpaaa
