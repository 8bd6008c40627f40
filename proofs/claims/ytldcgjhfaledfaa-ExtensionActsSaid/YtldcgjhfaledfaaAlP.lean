/- The plain logic (16): regions, in the order of the text and in any order that the edges allow. Own work. -/
import Derived.Test.YtldcgjhfaledfaaAlO
import Derived.Orders
import Derived.OrdersIn
set_option linter.unusedVariables false
set_option linter.unusedSimpArgs false
namespace Go.Proofs.Ytldcgjhfaledfaa
open Go.RowKit

/-! ### A region, made static -/
def dstOk (N : Nat) : Option Nat → Bool | some d => decide (d < N) | none => true
def compOper (P : Program) (H : Hint) (ops : Array Oper) (N : Nat) (o : Oper) : Option SOper :=
  match compOp P H o with
  | some so => if dstOk N o.dst = true then
      match o.guard with
      | none => some ⟨o.dst, so, none⟩
      | some (j, want) => match (ops[j]?).bind (·.dst) with
        | some t => some ⟨o.dst, so, some (t, want)⟩
        | none => none
    else none
  | none => none
def maskOf (ms : List Nat) (o : Oper) : Nat := o.after.toList.foldl (fun m e => if Region.binds .any e = true then m ||| (2 ^ e.on) ||| ms.getD e.on 0 else m) 0
def masks : List Oper → List Nat → List Nat
  | [], acc => acc
  | o :: r, acc => masks r (acc ++ [maskOf acc o])
/-- Each two operations that no edge orders can change places. -/
def confl (ms : List Nat) (ops : List Oper) (cs : List SOper) : Bool :=
  (List.range ops.length).all fun i => match ops[i]?, cs[i]? with
    | some o, some so => (ms.getD i 0 == maskOf ms o) && o.after.toList.all (fun e => !Region.binds .any e || decide (e.on < i)) &&
        (List.range i).all fun j => (ms.getD i 0).testBit j || (match cs[j]? with | some sj => sj.indep so | none => false)
    | _, _ => false
def compRegion (P : Program) (H : Hint) (N : Nat) (ops : Array Oper) (draws : Bool) : Option (List SOper) :=
  match allSome (compOper P H ops N) ops.toList with
  | some cs => if draws = false then some cs else if P.follows .mixedOrders = true ∧ confl (masks ops.toList []) ops.toList cs = true then some cs else none
  | none => none

section
variable {P : Program} {G : Glob} {N : Nat} {Sin : Cells} {w0 : Gh} {σ : St} {a : Act} {w : World} {S : Cells} {m : Mp} {H : Hint} {ops : Array Oper} {K : St → Prop} {Q : Exit → Act → World → Prop}

theorem compOper_ok {o : Oper} {so : SOper} (h : compOper P H ops N o = some so) : compOp P H o = some so.op ∧ so.dst = o.dst ∧ (∀ t, o.dst = some t → t < N) ∧
    ((o.guard = none ∧ so.guard = none) ∨ ∃ j t want, o.guard = some (j, want) ∧ so.guard = some (t, want) ∧ (ops[j]?).bind (·.dst) = some t) := by
  unfold compOper at h
  split at h
  · rename_i s hs
    split at h
    · rename_i hd
      have hd' : ∀ t, o.dst = some t → t < N := by
        intro t ht
        rw [ht] at hd
        simpa [dstOk] using hd
      split at h
      · rename_i hg
        cases h
        exact ⟨hs, rfl, hd', .inl ⟨hg, rfl⟩⟩
      · rename_i j want hg
        split at h
        · rename_i t ht
          cases h
          exact ⟨hs, rfl, hd', .inr ⟨j, t, want, hg, rfl, ht⟩⟩
        · cases h
    · cases h
  · cases h
theorem step_sound {i : Nat} {o : Oper} {so : SOper} (hi : ops[i]? = some o) (hc : compOper P H ops N o = some so) (hx : ∀ t, so.dst = some t → w0.fx t = none) (h : Inv G N Sin w0 σ a w S m) {r : R} (hr : outR P G so σ r) (hK : K (σ.put so.dst r)) : wpOp P ops Q i (Nx G N Sin w0 K) a w := by
  obtain ⟨h1, h2, h3', h4⟩ := compOper_ok hc
  have h3 : ∀ t, o.dst = some t → t < N ∧ w0.fx t = none := fun t ht => ⟨h3' t ht, hx t (by rw [h2]; exact ht)⟩
  rw [h2] at hK
  unfold wpOp
  simp only [hi]
  unfold outR at hr
  rcases h4 with ⟨g1, g2⟩ | ⟨j, t, want, g1, g2, g3⟩
  · rw [g2] at hr
    have hw : Region.wanted o (yielded ops a.tmps) = true := by simp [Region.wanted, g1]
    rw [if_pos hw]
    exact .inl (op_sound h h3 h1 (opw_iff.2 ⟨r, h2 ▸ hr, hK⟩))
  · rw [g2] at hr
    have hgone : RV m S w undef (.tup []) := ⟨[], rfl, .nil⟩
    rcases hr with ⟨b, hb, hr⟩ | ⟨hu, rfl⟩
    · have hv := asB_ok (h.slot t) hb
      have hy : yielded ops a.tmps j = some b := by
        unfold yielded
        rw [g3]
        have : a.tmps[t]? = some (.bool b) := by
          rw [Array.getD_eq_getD_getElem?] at hv
          cases ht : a.tmps[t]? with
          | none => rw [ht] at hv; simp [undef] at hv
          | some v => rw [ht] at hv; simpa using hv
        simp [this]
      by_cases e : b = want
      · have hw : Region.wanted o (yielded ops a.tmps) = true := by simp [Region.wanted, g1, hy, e]
        rw [if_pos hw]
        rcases hr with ⟨_, hr⟩ | ⟨hne, _⟩
        · exact .inl (op_sound h h3 h1 (opw_iff.2 ⟨r, h2 ▸ hr, hK⟩))
        · exact absurd e hne
      · have hw : ¬ Region.wanted o (yielded ops a.tmps) = true := by simp [Region.wanted, g1, hy, e]
        rw [if_neg hw]
        rcases hr with ⟨he, _⟩ | ⟨_, rfl⟩
        · exact absurd he e
        · exact ⟨_, _, _, hK, h.put (x := .tup []) o.dst h3 hgone fun i hi => by cases hi⟩
    · have hv : a.tmps.getD t undef = undef := by
        have := h.slot t
        rw [hu] at this
        obtain ⟨us, h5, h6⟩ := this
        cases h6
        exact h5
      have hy : yielded ops a.tmps j = none := by
        unfold yielded
        rw [g3]
        rw [Array.getD_eq_getD_getElem?] at hv
        cases ht : a.tmps[t]? with
        | none => simp [ht]
        | some v => rw [ht] at hv; simp only [Option.getD_some] at hv; subst hv; simp [ht, undef]
      have hw : ¬ Region.wanted o (yielded ops a.tmps) = true := by simp [Region.wanted, g1, hy]
      rw [if_neg hw]
      exact ⟨_, _, _, hK, h.put (x := .tup []) o.dst h3 hgone fun i hi => by cases hi⟩
/-- What lies ahead is there. -/
theorem wpOp_any {i : Nat} {J : Act → World → Prop} (h : wpOp P ops (fun _ _ _ => False) i J a w) : ∃ a w, J a w := by
  unfold wpOp at h
  split at h
  · exact ⟨_, _, h⟩
  · rename_i o ho
    split at h
    · rcases h with h | ⟨_, _, _, h⟩
      · unfold Oper.wp at h
        cases hr : (execOp a.eval o).run P w with
        | ok n w' =>
          rw [hr] at h
          cases n <;> simp only [Oper.upon] at h <;> first | exact ⟨_, _, h⟩ | exact h.elim | skip
          · obtain ⟨e, w2, fr, h1, _⟩ := h []
            cases e with
            | returned v => exact ⟨_, _, h1⟩
            | panicked c => exact h1.elim
            | outgrown => obtain ⟨_, _, h2⟩ := h1; exact h2.elim
          · obtain ⟨v, w2, h1, _⟩ := h default []
            exact ⟨_, _, h1⟩
        | halt x w' =>
          rw [hr] at h
          cases x <;> simp only [Oper.upon] at h <;> exact h.elim
      · exact h.elim
    · exact ⟨_, _, h⟩
theorem step_inv {i : Nat} {o : Oper} {so : SOper} (hi : ops[i]? = some o) (hc : compOper P H ops N o = some so) (hx : ∀ t, so.dst = some t → w0.fx t = none) (h : Inv G N Sin w0 σ a w S m) {r : R} (hr : outR P G so σ r) : ∃ a1 w1 S1 m1, Inv G N Sin w0 (σ.put so.dst r) a1 w1 S1 m1 := by
  obtain ⟨a1, w1, σ1, S1, m1, h1, h2⟩ := wpOp_any (step_sound (K := fun s => s = σ.put so.dst r) hi hc hx h hr rfl)
  subst h1
  exact ⟨a1, w1, S1, m1, h2⟩

def Compd (P : Program) (H : Hint) (N : Nat) (fx : Nat → Option Value) (ops : Array Oper) (l : List (Nat × SOper)) : Prop := ∀ p ∈ l, ∃ o, ops[p.1]? = some o ∧ compOper P H ops N o = some p.2 ∧ ∀ t, p.2.dst = some t → fx t = none
theorem ops_sound (hQ : ∀ a w, Nx G N Sin w0 K a w → Q .normal a w) : ∀ (l : List (Nat × SOper)) {σ : St} {a : Act} {w : World} {S : Cells} {m : Mp}, Compd P H N w0.fx ops l → Inv G N Sin w0 σ a w S m → aops P G (l.map (·.2)) K σ → wpOps P ops Q (l.map (·.1)) a w
  | [], σ, a, w, S, m, _, h, e => hQ _ _ ⟨_, _, _, e, h⟩
  | p :: l, σ, a, w, S, m, hc, h, e => by
    rw [List.map_cons, wpOps_cons]
    rw [List.map_cons] at e
    obtain ⟨r, h1, h2⟩ := aop_iff.1 e
    obtain ⟨o, ho, hco, hfx⟩ := hc p (by simp)
    refine wpOp_mono ?_ (step_sound ho hco hfx h h1 h2)
    rintro a1 w1 ⟨σ1, S1, m1, k1, k2⟩
    exact ops_sound hQ l (fun q hq => hc q (by simp [hq])) k2 k1
theorem used_all (h : Inv G N Sin w0 σ a w S m) {z : SOper} (hz : z.sound = true) : ∀ o ∈ z.op.xs, ∀ id ∈ (ev G σ.f o).ids, σ.u id = true := by
  intro o ho id hid
  cases o with
  | t n => exact h.used n id hid
  | k v =>
    simp only [SOper.sound, Bool.and_eq_true, List.all_eq_true] at hz
    have := hz.1 _ ho
    simp only [SX.kok, List.isEmpty_iff] at this
    have hid' : id ∈ v.ids := hid
    rw [this] at hid'
    cases hid'
  | g n =>
    simp only [ev] at hid
    split at hid
    · rename_i c hc
      unfold Glob.at at hc
      simp only [Option.map_eq_some_iff] at hc
      obtain ⟨p, hp, rfl⟩ := hc
      have hk := h.glob p (List.mem_of_find?_eq_some hp)
      have := (hk.1.rpra (m' := m) hk.2.1).2
      have hid' : id ∈ p.2.ids := hid
      rw [this] at hid'
      cases hid'
    · cases hid
  | u => cases hid
theorem move_front {p : Nat × SOper} {l2 : List (Nat × SOper)} : ∀ (l1 : List (Nat × SOper)) {σ : St} {a : Act} {w : World} {S : Cells} {m : Mp}, Compd P H N w0.fx ops (l1 ++ p :: l2) → (∀ q ∈ l1, q.2.indep p.2 = true) → Inv G N Sin w0 σ a w S m →
    aops P G ((l1 ++ p :: l2).map (·.2)) K σ → aop P G p.2 (aops P G ((l1 ++ l2).map (·.2)) K) σ
  | [], σ, a, w, S, m, _, _, _, e => e
  | q :: l1, σ, a, w, S, m, hc, hi, h, e => by
    rw [List.cons_append, List.map_cons] at e
    obtain ⟨r1, h1, h2⟩ := aop_iff.1 e
    obtain ⟨o, ho, hco, hfx⟩ := hc q (by simp)
    obtain ⟨a1, w1, S1, m1, hinv⟩ := step_inv ho hco hfx h h1
    have ih := move_front l1 (fun z hz => hc z (by simp only [List.cons_append, List.mem_cons]; exact .inr hz)) (fun z hz => hi z (by simp [hz])) hinv h2
    obtain ⟨r2, h3, h4⟩ := aop_iff.1 ih
    have hin := hi q (by simp)
    have hs : q.2.sound = true ∧ p.2.sound = true := by
      simp only [SOper.indep, Bool.and_eq_true] at hin
      exact ⟨hin.1.2, hin.2⟩
    obtain ⟨r2', r1', g1, g2, g3⟩ := swap hin (fun z hz => by
      rcases hz with rfl | rfl
      · exact used_all h hs.1
      · exact used_all h hs.2) h1 h3
    refine aop_iff.2 ⟨r2', g1, ?_⟩
    rw [List.cons_append, List.map_cons]
    refine aop_iff.2 ⟨r1', g2, ?_⟩
    rw [g3]
    exact h4
end

/-! ### Any order -/
section
variable {P : Program} {G : Glob} {N : Nat} {Sin : Cells} {w0 : Gh} {σ : St} {a : Act} {w : World} {S : Cells} {m : Mp} {H : Hint} {ops : Array Oper} {K : St → Prop} {Q : Exit → Act → World → Prop}
theorem maskOf_bit {ms : List Nat} {o : Oper} {j : Nat} (h : (maskOf ms o).testBit j = true) : ∃ e ∈ o.after, Region.binds .any e = true ∧ (e.on = j ∨ (ms.getD e.on 0).testBit j = true) := by
  have key : ∀ (l : List Edge) (k : Nat), (l.foldl (fun m e => if Region.binds .any e = true then m ||| (2 ^ e.on) ||| ms.getD e.on 0 else m) k).testBit j = true → k.testBit j = true ∨ ∃ e ∈ l, Region.binds .any e = true ∧ (e.on = j ∨ (ms.getD e.on 0).testBit j = true) := by
    intro l
    induction l with
    | nil => intro k h; exact .inl h
    | cons e l ih =>
      intro k h
      rw [List.foldl_cons] at h
      rcases ih _ h with h | ⟨e', h1, h2⟩
      · split at h
        · rename_i hb
          rw [Nat.testBit_or, Nat.testBit_or, Bool.or_eq_true, Bool.or_eq_true] at h
          rcases h with (h | h) | h
          · exact .inl h
          · rw [Nat.testBit_two_pow] at h
            exact .inr ⟨e, by simp, hb, .inl (by simpa using h)⟩
          · exact .inr ⟨e, by simp, hb, .inr h⟩
        · exact .inl h
      · exact .inr ⟨e', by simp [h1], h2⟩
  rcases key _ _ h with h | ⟨e, h1, h2⟩
  · simp at h
  · exact ⟨e, by simpa using h1, h2⟩
theorem confl_ok {ms : List Nat} {cs : List SOper} (h : confl ms ops.toList cs = true) : ∀ i o so, ops[i]? = some o → cs[i]? = some so → ms.getD i 0 = maskOf ms o ∧ (∀ e ∈ o.after, Region.binds .any e = true → e.on < i) ∧ ∀ j sj, j < i → cs[j]? = some sj → (ms.getD i 0).testBit j = true ∨ sj.indep so = true := by
  intro i o so ho hso
  unfold confl at h
  simp only [List.all_eq_true, List.mem_range] at h
  have hi : i < ops.toList.length := by
    have := (Array.getElem?_eq_some_iff.1 ho).1
    simpa using this
  have h1 := h i hi
  rw [Array.getElem?_toList, ho, hso] at h1
  simp only [Bool.and_eq_true, beq_iff_eq, List.all_eq_true, Bool.or_eq_true, Bool.not_eq_true', decide_eq_true_eq, List.mem_range] at h1
  obtain ⟨⟨h2, h3⟩, h4⟩ := h1
  refine ⟨h2, fun e he hb => ?_, fun j sj hj hsj => ?_⟩
  · rcases h3 e (by simpa using he) with h5 | h5
    · rw [hb] at h5; cases h5
    · exact h5
  · have := h4 j hj
    rw [hsj] at this
    exact this
theorem anc_listed {ms : List Nat} {cs : List SOper} (hm : ∀ i o so, ops[i]? = some o → cs[i]? = some so → ms.getD i 0 = maskOf ms o ∧ (∀ e ∈ o.after, Region.binds .any e = true → e.on < i) ∧ ∀ j sj, j < i → cs[j]? = some sj → (ms.getD i 0).testBit j = true ∨ sj.indep so = true) (hlen : cs.length = ops.size)
    {listed : Array Bool} (hcl : ∀ k o, ops[k]? = some o → listed.getD k false = true → ∀ e ∈ o.after, Region.binds .any e = true → listed.getD e.on false = true) :
    ∀ i o, ops[i]? = some o → (∀ e ∈ o.after, Region.binds .any e = true → listed.getD e.on false = true) → ∀ j, (ms.getD i 0).testBit j = true → listed.getD j false = true := by
  intro i
  induction i using Nat.strongRecOn with
  | _ i ih =>
    intro o ho hd j hj
    have hi := (Array.getElem?_eq_some_iff.1 ho).1
    have hso : cs[i]? = some cs[i] := List.getElem?_eq_getElem (by omega)
    obtain ⟨h1, h2, _⟩ := hm i o _ ho hso
    rw [h1] at hj
    obtain ⟨e, he, hb, h3⟩ := maskOf_bit hj
    rcases h3 with rfl | h3
    · exact hd e he hb
    · have hlt := h2 e he hb
      have hoe : ops[e.on]? = some ops[e.on] := Array.getElem?_eq_getElem (by omega)
      exact ih e.on hlt _ hoe (hcl _ _ hoe (hd e he hb)) j h3
theorem mem_split_sorted {l : List (Nat × SOper)} {p : Nat × SOper} (hs : l.Pairwise fun x y => x.1 < y.1) (hp : p ∈ l) : ∃ l1 l2, l = l1 ++ p :: l2 ∧ ∀ q ∈ l1, q.1 < p.1 := by
  obtain ⟨l1, l2, rfl⟩ := List.append_of_mem hp
  refine ⟨l1, l2, rfl, fun q hq => ?_⟩
  rw [List.pairwise_append] at hs
  exact hs.2.2 q hq p (by simp)
theorem game_sound {ms : List Nat} {cs : List SOper} (hlen : cs.length = ops.size) (hm : ∀ i o so, ops[i]? = some o → cs[i]? = some so → ms.getD i 0 = maskOf ms o ∧ (∀ e ∈ o.after, Region.binds .any e = true → e.on < i) ∧ ∀ j sj, j < i → cs[j]? = some sj → (ms.getD i 0).testBit j = true ∨ sj.indep so = true)
    (hQ : ∀ a w, Nx G N Sin w0 K a w → Q .normal a w) : ∀ (n : Nat) (l : List (Nat × SOper)) (listed : Array Bool) {σ : St} {a : Act} {w : World} {S : Cells} {m : Mp}, l.length = n → Compd P H N w0.fx ops l → (∀ p ∈ l, cs[p.1]? = some p.2) → (l.Pairwise fun x y => x.1 < y.1) →
      listed.size = ops.size → (∀ j, listed.getD j true = false ↔ ∃ so, (j, so) ∈ l) → (∀ k o, ops[k]? = some o → listed.getD k false = true → ∀ e ∈ o.after, Region.binds .any e = true → listed.getD e.on false = true) →
      Inv G N Sin w0 σ a w S m → aops P G (l.map (·.2)) K σ → wpAny P .any ops Q n listed a w
  | 0, l, listed, σ, a, w, S, m, hn, _, _, _, _, hl, _, h, e => by
    have : l = [] := List.length_eq_zero_iff.1 hn
    subst this
    refine ⟨?_, hQ _ _ ⟨_, _, _, e, h⟩⟩
    refine List.eq_nil_iff_forall_not_mem.2 fun i hi => ?_
    obtain ⟨h1, _⟩ := mem_ready.1 hi
    obtain ⟨so, hso⟩ := (hl i).1 h1
    cases hso
  | n + 1, l, listed, σ, a, w, S, m, hn, hc, hcs, hsort, hsz, hl, hcl, h, e => by
    have tf : ∀ j, j < ops.size → ¬ (∃ so, (j, so) ∈ l) → listed.getD j false = true := by
      intro j hj hne
      have h1 : ¬ listed.getD j true = false := fun h => hne ((hl j).1 h)
      rw [Array.getD_eq_getD_getElem?] at h1 ⊢
      have : listed[j]? = some listed[j] := Array.getElem?_eq_getElem (by omega)
      rw [this] at h1 ⊢
      simpa using h1
    refine ⟨fun hr => ?_, fun i hi => ?_⟩
    · cases l with
      | nil => simp at hn
      | cons p rest =>
        exfalso
        obtain ⟨o, ho, hco, hfx⟩ := hc p (by simp)
        have hp : p.1 ∈ Region.ready .any ops listed := by
          refine mem_ready.2 ⟨(hl p.1).2 ⟨p.2, by simp⟩, o, ho, fun ed he hb => ?_⟩
          have hlt := (hm p.1 o p.2 ho (hcs p (by simp))).2.1 ed he hb
          have hsize := (Array.getElem?_eq_some_iff.1 ho).1
          refine tf _ (by omega) ?_
          rintro ⟨so, hso⟩
          rw [List.pairwise_cons] at hsort
          rcases List.mem_cons.1 hso with heq | hin
          · have : ed.on = p.1 := congrArg Prod.fst heq
            omega
          · have := hsort.1 _ hin
            simp only at this
            omega
        rw [hr] at hp
        cases hp
    · obtain ⟨hun, o, ho, hedges⟩ := mem_ready.1 hi
      obtain ⟨so, hso⟩ := (hl i).1 hun
      obtain ⟨l1, l2, hsplit, hlt⟩ := mem_split_sorted hsort hso
      have hanc := anc_listed hm hlen hcl i o ho hedges
      have hind : ∀ q ∈ l1, q.2.indep so = true := by
        intro q hq
        have hqi := hlt q hq
        have hq2 := hcs q (by rw [hsplit]; simp [hq])
        rcases (hm i o so ho (hcs _ hso)).2.2 q.1 q.2 hqi hq2 with h1 | h1
        · have h2 := hanc q.1 h1
          have h3 := (hl q.1).2 ⟨q.2, by rw [hsplit]; simp [hq]⟩
          rw [Array.getD_eq_getD_getElem?] at h2 h3
          cases hg : listed[q.1]? <;> rw [hg] at h2 h3 <;> simp_all
        · exact h1
      rw [hsplit] at e
      have hc' : Compd P H N w0.fx ops (l1 ++ (i, so) :: l2) := hsplit ▸ hc
      have hmv := move_front (p := (i, so)) (l2 := l2) (K := K) l1 hc' hind h e
      obtain ⟨r, h1, h2⟩ := aop_iff.1 hmv
      obtain ⟨o', ho', hco, hfx⟩ := hc (i, so) hso
      refine wpOp_mono ?_ (step_sound ho' hco hfx h h1 h2)
      rintro a1 w1 ⟨σ1, S1, m1, k1, k2⟩
      have hsub : ∀ p, p ∈ l1 ++ l2 → p ∈ l := fun p hp => by
        rw [hsplit]
        rcases List.mem_append.1 hp with hp | hp <;> simp [hp]
      have hsort2 : (l1 ++ l2).Pairwise fun x y => x.1 < y.1 := by
        rw [hsplit] at hsort
        refine hsort.sublist ?_
        exact List.Sublist.append (List.Sublist.refl _) (List.sublist_cons_self _ _)
      have hnot : ∀ s, (i, s) ∉ l1 ++ l2 := by
        intro s hs
        rw [hsplit, List.pairwise_append, List.pairwise_cons] at hsort
        rcases List.mem_append.1 hs with hs | hs
        · have := hlt _ hs
          simp only at this
          omega
        · have := hsort.2.1.1 _ hs
          simp only at this
          omega
      have hisz : i < listed.size := by rw [hsz]; exact (Array.getElem?_eq_some_iff.1 ho).1
      refine game_sound hlen hm hQ n (l1 ++ l2) _ (by rw [hsplit] at hn; simp at hn ⊢; omega) (fun p hp => hc p (hsub p hp)) (fun p hp => hcs p (hsub p hp)) hsort2 (by simp [hsz]) (fun j => ?_) (fun k ok hok hk ed he hb => ?_) k2 k1
      · by_cases hji : j = i
        · subst hji
          constructor
          · intro hh
            rw [Array.getD_eq_getD_getElem?] at hh
            simp [hisz] at hh
          · rintro ⟨s, hs⟩; exact absurd hs (hnot s)
        · rw [getD_set_ne true (fun h => hji h.symm), hl j, hsplit]
          constructor
          · rintro ⟨s, hs⟩
            refine ⟨s, ?_⟩
            rcases List.mem_append.1 hs with hs | hs
            · exact List.mem_append_left _ hs
            · rcases List.mem_cons.1 hs with hs | hs
              · exact absurd (congrArg Prod.fst hs) hji
              · exact List.mem_append_right _ hs
          · rintro ⟨s, hs⟩
            refine ⟨s, ?_⟩
            rcases List.mem_append.1 hs with hs | hs
            · exact List.mem_append_left _ hs
            · exact List.mem_append_right _ (List.mem_cons_of_mem _ hs)
      · have up : ∀ x, listed.getD x false = true → (listed.setIfInBounds i true).getD x false = true := by
          intro x hx
          by_cases hxi : i = x
          · subst hxi
            rw [Array.getD_eq_getD_getElem?]
            simp [hisz]
          · rw [getD_set_ne false hxi]; exact hx
        by_cases hki : i = k
        · subst hki
          rw [ho] at hok
          cases hok
          exact up _ (hedges ed he hb)
        · rw [getD_set_ne false hki] at hk
          exact up _ (hcl k ok hok hk ed he hb)

theorem zip_map_fst {α β : Type} : ∀ (l : List α) (k : List β), l.length = k.length → (l.zip k).map (·.1) = l
  | [], _, _ => by simp
  | a :: l, [], h => by simp at h
  | a :: l, b :: k, h => by simp only [List.zip_cons_cons, List.map_cons, zip_map_fst l k (by simpa using h)]
theorem zip_map_snd {α β : Type} : ∀ (l : List α) (k : List β), l.length = k.length → (l.zip k).map (·.2) = k
  | [], [], _ => rfl
  | [], _ :: _, h => by simp at h
  | a :: l, [], h => by simp at h
  | a :: l, b :: k, h => by simp only [List.zip_cons_cons, List.map_cons, zip_map_snd l k (by simpa using h)]
/-! ### In a round of a range over a function too -/
/-- The frame of a function, or of a round. -/
def Fr (r : Option Nat) : Fence := { fn := fun _ => True, depth := none, alive := false, round := r }
theorem wpOp_in {r : Option Nat} {n i : Nat} {K : Act → World → Prop} (hnd : ∀ o : Oper, ops[i]? = some o → ∀ c, o.op ≠ .defer c) (hQ : ¬ LetsOut Q) (h : wpOp P ops Q i K a w) : wpOpIn (Fr r) n P ops Q i K a w := by
  unfold wpOp at h
  unfold wpOpIn
  cases ho : ops[i]? with
  | none => rw [ho] at h; exact h
  | some o =>
    rw [ho] at h
    simp only at h ⊢
    split
    · rename_i hw
      rw [if_pos hw] at h
      have h := h.resolve_right fun k => hQ k.2
      refine ⟨fun _ _ => trivial, ?_⟩
      have hs : o.semAt (Fr r).round a.eval = execOp a.eval o := by
        cases r with
        | none => rfl
        | some l => exact Oper.semAt_some l a.eval o (hnd o ho)
      rw [hs]
      unfold Oper.wp at h
      cases hr : (execOp a.eval o).run P w with
      | ok x w' =>
        rw [hr] at h
        cases x with
        | value v => exact h
        | skip => exact h
        | defer d => exact h
        | enter f args => exact ⟨fun h => (by cases h), (callsIn_wide (n := n - 1)).2 h⟩
        | row row args => exact ⟨fun h => (by cases h), fun c cs _ => let ⟨v, w2, r, s⟩ := h c cs; ⟨v, w2, r, stepsIn_wide.2 s⟩⟩
        | _ => exact h.elim
      | halt x w' =>
        rw [hr] at h
        cases x <;> first | exact h | exact h.elim
    · rename_i hw
      rw [if_neg hw] at h
      exact ⟨fun _ _ => trivial, h⟩
theorem wpOps_in {r : Option Nat} {n : Nat} (hnd : ∀ (i : Nat) (o : Oper), ops[i]? = some o → ∀ c, o.op ≠ .defer c) (hQ : ¬ LetsOut Q) : ∀ (l : List Nat) {a : Act} {w : World}, wpOps P ops Q l a w → wpOpsIn (Fr r) n P ops Q l a w
  | [], _, _, h => h
  | i :: l, a, w, h => by
    rw [wpOps_cons] at h
    rw [wpOpsIn_cons]
    exact wpOp_in (hnd i) hQ (wpOp_mono (fun _ _ h => wpOps_in hnd hQ l h) h)
theorem wpAny_in {r : Option Nat} {n : Nat} (hnd : ∀ (i : Nat) (o : Oper), ops[i]? = some o → ∀ c, o.op ≠ .defer c) (hQ : ¬ LetsOut Q) : ∀ (k : Nat) {listed : Array Bool} {a : Act} {w : World}, wpAny P .any ops Q k listed a w → wpAnyIn (Fr r) n P .any ops Q k listed a w
  | 0, _, _, _, h => h
  | k + 1, listed, a, w, h => ⟨h.1, fun i hi => wpOp_in (hnd i) hQ (wpOp_mono (fun _ _ h => wpAny_in hnd hQ k h) (h.2 i hi))⟩
theorem comp_nodefer {o : Oper} {so : SOper} (h : compOper P H ops N o = some so) : ∀ c, o.op ≠ .defer c := by
  intro c e
  have := (compOper_ok h).1
  simp [compOp, e] at this
/-- Off the end alone. -/
def Off (K : Act → World → Prop) : Exit → Act → World → Prop | .normal, a, w => K a w | _, _, _ => False
theorem off_no {K : Act → World → Prop} : ¬ LetsOut (Off K) := fun ⟨_, _, h⟩ => h

theorem region_sound {r : Option Nat} {n id : Nat} {draws : Bool} {cs : List SOper} (hc : compRegion P H N ops draws = some cs) (hfx : ∀ so ∈ cs, ∀ t, so.dst = some t → w0.fx t = none) (h : Inv G N Sin w0 σ a w S m) (e : aops P G cs K σ) (hQ : ∀ a w, Nx G N Sin w0 K a w → Q .normal a w) : (Code.region id ops draws).wpIn (Fr r) n P Q a w := by
  refine wpIn_mono (Q := Off (Nx G N Sin w0 K)) ?_ fun e a w h => by cases e <;> first | exact hQ _ _ h | exact h.elim
  clear hQ
  have hQ : ∀ a w, Nx G N Sin w0 K a w → Off (Nx G N Sin w0 K) .normal a w := fun _ _ h => h
  unfold compRegion at hc
  split at hc
  · rename_i cs' hcs
    have hall : All2 (fun o so => compOper P H ops N o = some so) ops.toList cs' := allSome_ok (fun _ _ h => h) hcs
    have hlen : cs'.length = ops.size := by have := hall.length; simpa using this.symm
    have hzl : (List.range ops.size).length = cs'.length := by simp [hlen]
    have hmem : ∀ p ∈ (List.range ops.size).zip cs', p.1 < ops.size ∧ cs'[p.1]? = some p.2 := by
      intro p hp
      obtain ⟨i, hi, rfl⟩ := List.getElem_of_mem hp
      simp only [List.getElem_zip, List.getElem_range]
      have h1 : i < cs'.length := by simp at hi; omega
      exact ⟨by omega, List.getElem?_eq_getElem h1⟩
    have hfx' : ∀ so ∈ cs', ∀ t, so.dst = some t → w0.fx t = none := by
      split at hc
      · cases hc; exact hfx
      · split at hc
        · cases hc; exact hfx
        · cases hc
    have hnd : ∀ (i : Nat) (o : Oper), ops[i]? = some o → ∀ c, o.op ≠ .defer c := by
      intro i o ho
      obtain ⟨so, h1, h2⟩ : ∃ so, cs'[i]? = some so ∧ compOper P H ops N o = some so := by
        have h1 : i < cs'.length := by rw [hlen]; exact (Array.getElem?_eq_some_iff.1 ho).1
        obtain ⟨o', h2, h3⟩ := hall.get? (List.getElem?_eq_getElem h1)
        rw [Array.getElem?_toList, ho] at h2
        cases h2
        exact ⟨_, List.getElem?_eq_getElem h1, h3⟩
      exact comp_nodefer h2
    have hcomp : Compd P H N w0.fx ops ((List.range ops.size).zip cs') := by
      intro p hp
      obtain ⟨h1, h2⟩ := hmem p hp
      obtain ⟨o, h3, h4⟩ := hall.get? h2
      exact ⟨o, by rw [← Array.getElem?_toList]; exact h3, h4, hfx' p.2 (List.mem_of_getElem? h2)⟩
    have e' : cs' = cs → aops P G (((List.range ops.size).zip cs').map (·.2)) K σ := by
      rintro rfl
      rw [zip_map_snd _ _ hzl]; exact e
    split at hc
    · rename_i hd
      cases hc
      subst hd
      have := ops_sound hQ _ hcomp h (e' rfl)
      rw [zip_map_fst _ _ hzl] at this
      exact wpIn_region (wpOps_in hnd off_no _ this)
    · rename_i hd
      have hd' : draws = true := by simpa using hd
      subst hd'
      split at hc
      · rename_i hk
        cases hc
        refine wpIn_region_any hk.1 (wpAny_in hnd off_no _ ?_)
        have hm := confl_ok hk.2
        have hzn : ((List.range ops.size).zip cs).length = ops.size := by simp [hlen]
        refine game_sound (G := G) (N := N) (Sin := Sin) (w0 := w0) (H := H) (K := K) (Q := Off (Nx G N Sin w0 K)) hlen hm hQ ops.size ((List.range ops.size).zip cs) (Array.replicate ops.size false) hzn hcomp (fun p hp => (hmem p hp).2) ?_ (by simp) (fun j => ?_) (fun k o ho hk => ?_) (h.drew) (e' rfl)
        · rw [List.pairwise_iff_getElem]
          intro i j hi hj hij
          simp only [List.getElem_zip, List.getElem_range]
          exact hij
        · constructor
          · intro hh
            have hj : j < ops.size := by
              rcases Nat.lt_or_ge j ops.size with hlt | hge
              · exact hlt
              · rw [Array.getD_eq_getD_getElem?, Array.getElem?_eq_none (by simpa using hge)] at hh
                simp at hh
            refine ⟨cs[j]'(by omega), ?_⟩
            have h2 : j < ((List.range ops.size).zip cs).length := by simp; omega
            have : ((List.range ops.size).zip cs)[j] = (j, cs[j]'(by omega)) := by simp
            rw [← this]
            exact List.getElem_mem h2
          · rintro ⟨so, hso⟩
            have := (hmem _ hso).1
            simp only at this
            rw [Array.getD_eq_getD_getElem?]
            simp [this]
        · exfalso
          rw [Array.getD_eq_getD_getElem?] at hk
          have := (Array.getElem?_eq_some_iff.1 ho).1
          simp [this] at hk
      · cases hc
  · cases hc
end
end Go.Proofs.Ytldcgjhfaledfaa
