/- The plain logic (17): code and functions. Own work. -/
import Derived.Test.YtkaaiefeinoocaaDoorAlP
set_option linter.unusedVariables false
set_option linter.unusedSimpArgs false
namespace Go.Proofs.YtkaaiefeinoocaaDoor
open Go.RowKit

/-! ### Code, made static -/
section
variable (P : Program) (H : Hint) (N : Nat)
def compCode : Code → Option SCode
  | .skip => some .skip
  | .region _ ops draws => (compRegion P H N ops draws).map .reg
  | .seq a b => match compCode a, compCode b with | some x, some y => some (.seq x y) | _, _ => none
  | .cond c a b => match compX c, compCode a, compCode b with | some c, some x, some y => some (.cond c x y) | _, _, _ => none
  | .block id c => (compCode c).map (.block id)
  | .loop c => (compCode c).map .loop
  | .exit id => some (.exit id)
  | .ret => some .ret
  | _ => none
def compRes : ResultVar → Option (Nat × Option Kd)
  | .tmp t => some (t, none)
  | .cell t ty => (tyKd P ty).map fun kd => (t, some kd)
def compFn (fn : Func) : Option SFn :=
  match fn.body with
  | some c => match compCode P H fn.ntmps c, allSome (compRes P) fn.results.toList with
    | some body, some res => if fn.params.size ≤ fn.ntmps then some ⟨fn.params.size, fn.ntmps, body, res⟩ else none
    | _, _ => none
  | none => none
end

section
variable {P : Program} {G : Glob} {N : Nat} {Sin : Cells} {w0 : World} {σ : St} {a : Act} {w : World} {S : Cells} {m : Mp} {H : Hint}

/-! ### Less is said -/
theorem ren_get {g : Nat → Nat} {cs : List C} {us : List Value} {m : Mp} (h : All2 (RC m S w) us (cs.map (C.ren g))) (k : ∀ v c, RC m S w v (c.ren g) → RC (fun i => m (g i)) S w v c) : All2 (RC (fun i => m (g i)) S w) us cs := by
  have hl := h.length
  rw [List.length_map] at hl
  refine .mk hl fun i h1 h2 => ?_
  have := h.get i h1 (by simpa using h2)
  rw [List.getElem_map] at this
  exact k _ _ this
theorem RC.ren {g : Nat → Nat} {v : Value} {c : C} (h : RC m S w v (c.ren g)) : RC (fun i => m (g i)) S w v c := by
  cases c <;> exact h
theorem RW.ren {g : Nat → Nat} {v : Value} {x : W} (h : RW m S w v (x.ren g)) : RW (fun i => m (g i)) S w v x := by
  cases x with
  | c c =>
    cases c with
    | d x => cases x <;> exact h
    | _ => exact h
  | mix cs =>
    obtain ⟨us, h1, h2⟩ := h
    exact ⟨us, h1, ren_get h2 fun _ _ h => h.ren⟩
theorem RV.ren {g : Nat → Nat} {v : Value} {x : V} (h : RV m S w v (x.ren g)) : RV (fun i => m (g i)) S w v x := by
  cases x with
  | w x => exact RW.ren h
  | tup ws =>
    obtain ⟨us, h1, h2⟩ := h
    have hl := h2.length
    rw [List.length_map] at hl
    refine ⟨us, h1, .mk hl fun i k1 k2 => ?_⟩
    have := h2.get i k1 (by simpa using k2)
    rw [List.getElem_map] at this
    exact this.ren
  | undef => trivial
theorem CellsOk.ren {g : Nat → Nat} {sz : Nat} {cur : Array Value} {o : Ob} (h : CellsOk m S w sz cur (o.ren g)) : CellsOk (fun i => m (g i)) S w sz cur o := by
  cases o with
  | row s es => exact h
  | box cs =>
    obtain ⟨h1, h2⟩ := h
    rw [List.length_map] at h1
    refine ⟨h1, fun j hj => ?_⟩
    obtain ⟨v, k1, k2⟩ := h2 j (by simpa using hj)
    rw [List.getElem_map] at k2
    exact ⟨v, k1, k2.ren⟩
theorem Inv.ent {τ : St} (h : Inv G N Sin w0 σ a w S m) (e : Ent σ τ) : ∃ m', Inv G N Sin w0 τ a w S m' := by
  obtain ⟨⟨g, g1, g2, g3⟩, g4, g5⟩ := e
  refine ⟨fun i => m (g i), h.size, h.defers, fun t => ?_, g4, fun i o ho => ⟨?_, g5 i o ho⟩, fun i j b s s' h1 h2 h3 h4 => ?_, h.sin, h.sub, h.glob, h.below⟩
  · rcases g1 t with e | e
    · rw [e]; trivial
    · have := h.slot t
      rw [e] at this
      exact this.ren
  · have hob := (h.obj (g i) _ (g2 i o ho)).1
    unfold ObjOk at hob ⊢
    show match m (g i) with | none => _ | some (b, sz) => _
    split at hob
    · obtain ⟨sz, e⟩ := hob
      rename_i hm
      rw [hm]
      cases o with
      | row s es => exact ⟨sz, e⟩
      | box cs => cases e
    · rename_i b sz hm
      rw [hm]
      obtain ⟨k1, k2, k3, cur, ty, fz, k4, k5, k6⟩ := hob
      refine ⟨?_, k2, k3, cur, ty, fz, k4, k5, k6.ren⟩
      rw [← k1]
      cases o <;> rfl
  · refine g3 i j h1 h2 ?_
    obtain ⟨oi, hi⟩ := Option.ne_none_iff_exists'.1 h1
    obtain ⟨oj, hj⟩ := Option.ne_none_iff_exists'.1 h2
    exact h.inj (g i) (g j) b s s' (by rw [g2 i oi hi]; simp) (by rw [g2 j oj hj]; simp) h3 h4

/-! ### Loops by a number that falls, which the memory need not show -/
theorem least_ex {p : Nat → Prop} (h : ∃ n, p n) : ∃ n, p n ∧ ∀ k, p k → n ≤ k := by
  obtain ⟨n, hn⟩ := h
  induction n using Nat.strongRecOn with
  | _ n ih =>
    by_cases h2 : ∃ k, k < n ∧ p k
    · obtain ⟨k, hk, hp⟩ := h2
      exact ih k hk hp
    · refine ⟨n, hn, fun k hk => ?_⟩
      rcases Nat.lt_or_ge k n with hlt | hge
      · exact absurd ⟨k, hlt, hk⟩ h2
      · exact hge
theorem wp_loop_n {c : Code} {Q : Exit → Act → World → Prop} (I : Nat → Act → World → Prop) {n : Nat} (h : I n a w) (round : ∀ n a w, I n a w → c.wp P (Exit.then (fun a' w' => ∃ n', n' < n ∧ I n' a' w') Q) a w) : (Code.loop c).wp P Q a w := by
  have hμ : ∃ μ : Act → World → Nat, ∀ a w, (∃ n, I n a w) → I (μ a w) a w ∧ ∀ k, I k a w → μ a w ≤ k := by
    have : ∀ p : Act × World, ∃ k, (∃ n, I n p.1 p.2) → I k p.1 p.2 ∧ ∀ j, I j p.1 p.2 → k ≤ j := by
      intro p
      by_cases hp : ∃ n, I n p.1 p.2
      · obtain ⟨k, h1, h2⟩ := least_ex hp
        exact ⟨k, fun _ => ⟨h1, h2⟩⟩
      · exact ⟨0, fun h => absurd h hp⟩
    obtain ⟨f, hf⟩ := Classical.axiomOfChoice this
    exact ⟨fun a w => f (a, w), fun a w => hf (a, w)⟩
  obtain ⟨μ, hμ⟩ := hμ
  refine wp_loop (fun a w => ∃ n, I n a w) μ ⟨n, h⟩ fun a w hI => ?_
  refine wp_mono (round _ a w (hμ a w hI).1) fun e a' w' he => ?_
  cases e with
  | normal =>
    obtain ⟨n', h1, h2⟩ := he
    exact ⟨⟨n', h2⟩, Nat.lt_of_le_of_lt ((hμ a' w' ⟨n', h2⟩).2 n' h2) h1⟩
  | _ => exact he

/-! ### Code -/
def AX.toExit : AX → Exit
  | .nrm => .normal
  | .ex id => .exit id
  | .ret => .ret
def Post (G : Glob) (N : Nat) (Sin : Cells) (w0 : World) (Q' : AX → St → Prop) (Q : Exit → Act → World → Prop) : Prop := ∀ e σ a w S m, Q' e σ → Inv G N Sin w0 σ a w S m → Q e.toExit a w
theorem code_sound : ∀ (c : Code) {sc : SCode}, compCode P H N c = some sc → ∀ {Q' : AX → St → Prop} {Q : Exit → Act → World → Prop} {σ : St} {a : Act} {w : World} {S : Cells} {m : Mp}, Post G N Sin w0 Q' Q → Inv G N Sin w0 σ a w S m → awp P G sc Q' σ → c.wp P Q a w
  | .skip, sc, hc, Q', Q, σ, a, w, S, m, hp, h, e => by
    simp only [compCode, Option.some.injEq] at hc
    subst hc
    exact wp_skip (hp _ _ _ _ _ _ e h)
  | .region id ops draws, sc, hc, Q', Q, σ, a, w, S, m, hp, h, e => by
    simp only [compCode, Option.map_eq_some_iff] at hc
    obtain ⟨cs, hcs, rfl⟩ := hc
    refine region_sound hcs h e ?_
    rintro a1 w1 ⟨σ1, S1, m1, k1, k2⟩
    exact hp _ _ _ _ _ _ k1 k2
  | .seq x y, sc, hc, Q', Q, σ, a, w, S, m, hp, h, e => by
    simp only [compCode] at hc
    split at hc
    · rename_i x' y' hx hy
      cases hc
      refine wp_seq (code_sound x hx ?_ h e)
      intro ax σ1 a1 w1 S1 m1 k1 k2
      cases ax with
      | nrm => exact code_sound y hy hp k2 k1
      | ex id => exact hp _ _ _ _ _ _ k1 k2
      | ret => exact hp _ _ _ _ _ _ k1 k2
    · cases hc
  | .cond x y z, sc, hc, Q', Q, σ, a, w, S, m, hp, h, e => by
    simp only [compCode] at hc
    split at hc
    · rename_i x' y' z' hx hy hz
      cases hc
      simp only [awp] at e
      cases ht : asB (ev G σ.f x') with
      | none => rw [ht] at e; exact e.elim
      | some t =>
        rw [ht] at e
        have hv := asB_ok (h.operand hx).1 ht
        exact wp_cond_split hv (fun g => code_sound y hy hp h (e.1 g)) fun g => code_sound z hz hp h (e.2 g)
    · cases hc
  | .block id c, sc, hc, Q', Q, σ, a, w, S, m, hp, h, e => by
    simp only [compCode, Option.map_eq_some_iff] at hc
    obtain ⟨c', hcc, rfl⟩ := hc
    refine wp_block (code_sound c hcc ?_ h e)
    intro ax σ1 a1 w1 S1 m1 k1 k2
    cases ax with
    | nrm => exact hp _ _ _ _ _ _ k1 k2
    | ex i =>
      show Exit.inBlock id Q (.exit i) a1 w1
      unfold Exit.inBlock
      simp only at k1 ⊢
      by_cases hi : i = id
      · rw [if_pos hi] at k1 ⊢
        exact hp _ _ _ _ _ _ k1 k2
      · rw [if_neg hi] at k1 ⊢
        exact hp _ _ _ _ _ _ k1 k2
    | ret => exact hp _ _ _ _ _ _ k1 k2
  | .loop c, sc, hc, Q', Q, σ, a, w, S, m, hp, h, e => by
    simp only [compCode, Option.map_eq_some_iff] at hc
    obtain ⟨c', hcc, rfl⟩ := hc
    obtain ⟨I, ⟨n, τ, he, hI⟩, hround⟩ := e
    obtain ⟨m', hinv⟩ := h.ent he
    refine wp_loop_n (fun n a w => ∃ τ S m, I n τ ∧ Inv G N Sin w0 τ a w S m) ⟨τ, S, m', hI, hinv⟩ ?_
    rintro n a1 w1 ⟨τ, S1, m1, k1, k2⟩
    refine code_sound c hcc ?_ k2 (hround n τ k1)
    intro ax σ2 a2 w2 S2 m2 q1 q2
    cases ax with
    | nrm =>
      obtain ⟨n', τ', g1, g2, g3⟩ := q1
      obtain ⟨m3, hinv3⟩ := q2.ent g2
      exact ⟨n', g1, τ', S2, m3, g3, hinv3⟩
    | ex i => exact hp _ _ _ _ _ _ q1 q2
    | ret => exact hp _ _ _ _ _ _ q1 q2
  | .exit id, sc, hc, Q', Q, σ, a, w, S, m, hp, h, e => by
    simp only [compCode, Option.some.injEq] at hc
    subst hc
    exact wp_exit (hp _ _ _ _ _ _ e h)
  | .ret, sc, hc, Q', Q, σ, a, w, S, m, hp, h, e => by
    simp only [compCode, Option.some.injEq] at hc
    subst hc
    exact wp_ret (hp _ _ _ _ _ _ e h)
  | .rangeFunc _ _ _ _, sc, hc, Q', Q, σ, a, w, S, m, hp, h, e => by simp [compCode] at hc
  | .scope _, sc, hc, Q', Q, σ, a, w, S, m, hp, h, e => by simp [compCode] at hc
  | .label _, sc, hc, Q', Q, σ, a, w, S, m, hp, h, e => by simp [compCode] at hc
  | .goto _, sc, hc, Q', Q, σ, a, w, S, m, hp, h, e => by simp [compCode] at hc
  | .refuse _, sc, hc, Q', Q, σ, a, w, S, m, hp, h, e => by simp [compCode] at hc

/-! ### The end -/
def resF (tmps : Array Value) : ResultVar → Sem Value
  | .tmp t => pure (tmps.getD t undef)
  | .cell a t => do loadVar t (← asAddr (tmps.getD a undef))
theorem res_one (h : Inv G N Sin w0 σ a w S m) {r : ResultVar} {l : Nat × Option Kd} (hc : compRes P r = some l) {x : W} (hx : resW σ l = some x) : ∃ u, (resF a.tmps r).run P w = .ok u w ∧ RW m S w u x ∧ ∀ i ∈ x.ids, σ.u i = true := by
  cases r with
  | tmp t =>
    simp only [compRes, Option.some.injEq] at hc
    subst hc
    obtain ⟨h1, h2⟩ := asW_ok (h.slot t) hx
    refine ⟨_, rfl, h1, fun i hi => h.used t i ?_⟩
    rw [h2]; exact hi
  | cell t ty =>
    simp only [compRes, Option.map_eq_some_iff] at hc
    obtain ⟨kd, hk, rfl⟩ := hc
    obtain ⟨ad, us, h1, h2, h3, h4, h5⟩ := ld_ok h (h.slot t) hx
    refine ⟨valOf kd us, ?_, h4, h5⟩
    simp only [resF, h1, asAddr]
    simp [run_loadVar hk ad us h2 h3]
theorem res_all (h : Inv G N Sin w0 σ a w S m) : ∀ {rs : List ResultVar} {l : List (Nat × Option Kd)} {ws : List W}, allSome (compRes P) rs = some l → allSome (resW σ) l = some ws → ∃ us : List Value, (rs.mapM (resF a.tmps)).run P w = .ok us w ∧ All2 (RW m S w) us ws ∧ ∀ i ∈ ws.flatMap W.ids, σ.u i = true
  | [], l, ws, h1, h2 => by
    simp only [allSome, Option.some.injEq] at h1
    subst h1
    simp only [allSome, Option.some.injEq] at h2
    subst h2
    exact ⟨[], rfl, .nil, fun i hi => by cases hi⟩
  | r :: rs, l, ws, h1, h2 => by
    simp only [allSome] at h1
    split at h1
    · rename_i y l' hy hl
      cases h1
      simp only [allSome] at h2
      split at h2
      · rename_i x ws' hx hws
        cases h2
        obtain ⟨u, k1, k2, k3⟩ := res_one h hy hx
        obtain ⟨us, q1, q2, q3⟩ := res_all h hl hws
        refine ⟨u :: us, ?_, .cons k2 q2, fun i hi => ?_⟩
        · simp [List.mapM_cons, k1, q1]
        · rw [List.flatMap_cons] at hi
          rcases List.mem_append.1 hi with hi | hi
          · exact k3 i hi
          · exact q3 i hi
      · cases h2
    · cases h1
theorem results_run (fn : Func) (tmps : Array Value) : results fn tmps = (do let vs ← fn.results.mapM (resF tmps); pure (if h : vs.size = 1 then vs[0] else .tuple vs)) := by
  unfold results
  congr 1
/-- The blocks of these variables. -/
def Bls (σ : St) (m : Mp) (ids : List Nat) (bl : List Nat) : Prop := bl.Nodup ∧ ∀ b ∈ bl, ∃ id ∈ ids, ∃ s, m id = some (b, s) ∧ σ.h id ≠ none
theorem Bls.append (h : Inv G N Sin w0 σ a w S m) {l1 l2 b1 b2 : List Nat} (hn : (l1 ++ l2).Nodup) (h1 : Bls σ m l1 b1) (h2 : Bls σ m l2 b2) : Bls σ m (l1 ++ l2) (b1 ++ b2) := by
  refine ⟨List.nodup_append.2 ⟨h1.1, h2.1, fun b hb c hc e => ?_⟩, fun b hb => ?_⟩
  · subst e
    obtain ⟨i, hi, s, e1, e2⟩ := h1.2 b hb
    obtain ⟨j, hj, s', e3, e4⟩ := h2.2 b hc
    have := h.inj i j b s s' e2 e4 e1 e3
    subst this
    exact (List.nodup_append.1 hn).2.2 i hi i hj rfl
  · rcases List.mem_append.1 hb with hb | hb
    · obtain ⟨i, hi, r⟩ := h1.2 b hb
      exact ⟨i, List.mem_append_left _ hi, r⟩
    · obtain ⟨i, hi, r⟩ := h2.2 b hb
      exact ⟨i, List.mem_append_right _ hi, r⟩
theorem Bls.none (σ : St) (m : Mp) (ids : List Nat) : Bls σ m ids [] := ⟨.nil, fun b hb => by cases hb⟩
theorem exC_ok (h : Inv G N Sin w0 σ a w S m) {u : Value} {c r : C} (hv : RC m S w u c) (he : exC σ.h c r) : ∃ bl, ResC S w w0.heap.size u r bl ∧ Bls σ m c.ids bl := by
  unfold exC at he
  split at he
  · rename_i id sz off n sz' es
    obtain ⟨rfl, rfl, he⟩ := he
    split at he
    · rename_i o ho
      obtain ⟨he1, he2⟩ := he
      cases o with
      | box cs => exact he2.elim
      | row s0 es0 =>
        simp only [obSl] at he1
        split at he1
        · rename_i hle
          cases he1
          have hv' : OwnV m w u id _ 0 n := hv
          have hob := (h.obj id _ ho).1
          unfold OwnV at hv'
          unfold ObjOk at hob
          split at hv'
          · obtain ⟨⟨ad, rfl⟩, _, rfl⟩ := hv'
            exact ⟨[], .inl ⟨⟨ad, rfl⟩, by simp, rfl⟩, Bls.none _ _ _⟩
          · rename_i b sz2 hm
            obtain ⟨rfl, ad, cap, ty, M, rfl, g2, g3, g4, g5, g6⟩ := hv'
            rw [hm] at hob
            obtain ⟨k1, k2, k3, cur, ty', fz, k4, k5, k6⟩ := hob
            have had := g4 (.inr rfl)
            rw [Nat.zero_mul] at had
            subst had
            have hlen : ((es0.drop 0).take n).length = n := by rw [List.length_take, List.drop_zero]; omega
            refine ⟨[b], .inr ⟨b, cap, ty, M, rfl, by rw [hlen], by rw [hlen]; exact g2, g3, g5, by simpa using g6, k2, k3, cur, ty', fz, k4, k5, ?_, fun i hi => ?_⟩, ⟨by simp, fun b' hb' => ⟨id, by simp [C.ids], sz2, ?_, by rw [ho]; simp⟩⟩⟩
            · rw [hlen]
              exact Nat.le_trans (Nat.mul_le_mul_right _ (by omega)) k6.1
            · have hi' : i < es0.length := by rw [hlen] at hi; omega
              have he : ((es0.drop 0).take n)[i] = es0[i] := by simp
              rw [he]
              exact k6.2 i hi'
            · simp only [List.mem_singleton] at hb'
              rw [hb']; exact hm
        · cases he1
    · exact he.elim
  · subst he
    exact ⟨[], .inl ⟨hv, rfl, rfl⟩, Bls.none _ _ _⟩
  · subst he
    refine ⟨[], ⟨?_, rfl⟩, Bls.none _ _ _⟩
    obtain ⟨ad, rfl⟩ : ∃ ad, u = .slice ad 0 0 := hv
    exact Reads.zero ad
  · subst he
    exact ⟨[], ⟨hv, rfl⟩, Bls.none _ _ _⟩
  · exact he.elim
theorem exCs_ok (h : Inv G N Sin w0 σ a w S m) : ∀ {us : List Value} {cs rs : List C}, All2 (RC m S w) us cs → All2 (exC σ.h) cs rs → (cs.flatMap C.ids).Nodup → ∃ bl, ResCs S w w0.heap.size us rs bl ∧ Bls σ m (cs.flatMap C.ids) bl
  | _, _, _, .nil, .nil, _ => ⟨[], .nil, Bls.none _ _ _⟩
  | _, _, _, .cons h1 h2, .cons k1 k2, hn => by
    rw [List.flatMap_cons] at hn ⊢
    obtain ⟨b1, e1, e2⟩ := exC_ok h h1 k1
    obtain ⟨b2, e3, e4⟩ := exCs_ok h h2 k2 (List.nodup_append.1 hn).2.1
    exact ⟨b1 ++ b2, .cons e1 e3, Bls.append h hn e2 e4⟩
theorem exW_ok (h : Inv G N Sin w0 σ a w S m) {u : Value} {x r : W} (hv : RW m S w u x) (he : exW σ.h x r) (hn : x.ids.Nodup) : ∃ bl, ResW S w w0.heap.size u r bl ∧ Bls σ m x.ids bl := by
  unfold exW at he
  split at he
  · rename_i c d
    cases c with
    | d y =>
      cases d with
      | d z =>
        have : y = z := he
        subst this
        cases y with
        | agg cs => exact ⟨[], ⟨hv, rfl⟩, Bls.none _ _ _⟩
        | _ => exact ⟨[], ⟨hv, rfl⟩, Bls.none _ _ _⟩
      | _ => exact he.elim
    | nil =>
      obtain ⟨bl, h1, h2⟩ := exC_ok (c := .nil) h hv he
      refine ⟨bl, ?_, h2⟩
      cases d with
      | d z =>
        have : z = .sl [] := he
        subst this
        exact h1
      | _ => exact h1
    | own id sz off n =>
      obtain ⟨bl, h1, h2⟩ := exC_ok (c := .own id sz off n) h hv he
      refine ⟨bl, ?_, h2⟩
      cases d with
      | fr s es => exact h1
      | _ => exact he.elim
    | _ => exact he.elim
  · rename_i cs ds
    obtain ⟨us, rfl, h2⟩ := hv
    obtain ⟨bl, k1, k2⟩ := exCs_ok h h2 he hn
    exact ⟨bl, ⟨us, rfl, k1⟩, k2⟩
  · rename_i cs ds
    obtain ⟨us, h1, h2⟩ := pureW_ok (x := .mix cs) hv (d := .agg ds) (by simp [pureW, he])
    obtain ⟨us', rfl, _⟩ := hv
    have : us' = us := by simpa [Value.cells] using h1
    subst this
    exact ⟨[], ⟨⟨us', rfl, h2⟩, rfl⟩, Bls.none _ _ _⟩
  · exact he.elim
theorem exWs_ok (h : Inv G N Sin w0 σ a w S m) : ∀ {us : List Value} {ws rs : List W}, All2 (RW m S w) us ws → All2 (exW σ.h) ws rs → (ws.flatMap W.ids).Nodup → ∃ bl, ResWs S w w0.heap.size us rs bl ∧ Bls σ m (ws.flatMap W.ids) bl
  | _, _, _, .nil, .nil, _ => ⟨[], .nil, Bls.none _ _ _⟩
  | _, _, _, .cons h1 h2, .cons k1 k2, hn => by
    rw [List.flatMap_cons] at hn ⊢
    obtain ⟨b1, e1, e2⟩ := exW_ok h h1 k1 (List.nodup_append.1 hn).1
    obtain ⟨b2, e3, e4⟩ := exWs_ok h h2 k2 (List.nodup_append.1 hn).2.1
    exact ⟨b1 ++ b2, .cons e1 e3, Bls.append h hn e2 e4⟩
def oneOr (us : List Value) : Value := if h : us.toArray.size = 1 then us.toArray[0] else .tuple us.toArray
theorem exD_one (h : Inv G N Sin w0 σ a w S m) {u : Value} {x : W} {d : D} (hv : RW m S w u x) (e : toW σ.h x = some d) : ResW (Shat σ.h m S) w w0.heap.size u (.c (.d d)) [] := by
  have := toW_ok h (T := Shat σ.h m S) (fun _ _ h => .inl h) (fun id _ o b s i h1 h2 => .inr ⟨id, o, s, h1, h2⟩) hv e
  cases d with
  | agg cs => exact ⟨this, rfl⟩
  | _ => exact ⟨this, rfl⟩
theorem exD_all (h : Inv G N Sin w0 σ a w S m) : ∀ {us : List Value} {ws rs : List W}, All2 (RW m S w) us ws → All2 (fun x z => ∃ d, z = .c (.d d) ∧ toW σ.h x = some d) ws rs → ResWs (Shat σ.h m S) w w0.heap.size us rs []
  | _, _, _, .nil, .nil => .nil
  | _, _, _, .cons h1 h2, .cons k1 k2 => by
    obtain ⟨d, rfl, e⟩ := k1
    exact .cons (b1 := []) (b2 := []) (exD_one h h1 e) (exD_all h h2 k2)
theorem ret_ok (h : Inv G N Sin w0 σ a w S m) {us : List Value} {ws : List W} {res : V} (hv : All2 (RW m S w) us ws) (he : ((ws.flatMap W.ids).Nodup ∧ exV σ.h ws res) ∨ exDs σ.h ws res) :
    ∃ S' bl, (∀ b i, S' b i → (Sin b i ∨ w0.heap.size ≤ b) ∧ b < w.heap.size) ∧ bl.Nodup ∧ ResV S' w w0.heap.size (oneOr us) res bl := by
  have shat : ∀ b i, Shat σ.h m S b i → (Sin b i ∨ w0.heap.size ≤ b) ∧ b < w.heap.size := by
    rintro b i (hs | ⟨id, ob, s, ho, hm⟩)
    · exact ⟨(h.sin b i hs).2, (h.sin b i hs).1⟩
    · have hk := (h.obj id ob ho).1
      refine ⟨.inr ?_, hk.lt hm⟩
      unfold ObjOk at hk
      rw [hm] at hk
      exact hk.2.1
  rcases he with ⟨hn, he⟩ | he
  · unfold exV at he
    split at he
    · rename_i x y
      cases hv with
      | cons h1 h2 =>
        cases h2
        have hids : x.ids.Nodup := by simpa using hn
        obtain ⟨bl, k1, k2⟩ := exW_ok h h1 he hids
        exact ⟨S, bl, fun b i hs => ⟨(h.sin b i hs).2, (h.sin b i hs).1⟩, k2.1, k1⟩
    · rename_i x y r ws'
      have hl := hv.length
      obtain ⟨bl, k1, k2⟩ := exWs_ok h hv he hn
      refine ⟨S, bl, fun b i hs => ⟨(h.sin b i hs).2, (h.sin b i hs).1⟩, k2.1, us, ?_, k1⟩
      unfold oneOr
      rw [dif_neg (by simp at hl ⊢; omega)]
    · subst he
      cases hv
      exact ⟨S, [], fun b i hs => ⟨(h.sin b i hs).2, (h.sin b i hs).1⟩, .nil, [], rfl, .nil⟩
    · exact he.elim
  · unfold exDs at he
    split at he
    · rename_i x d
      cases hv with
      | cons h1 h2 =>
        cases h2
        exact ⟨_, [], shat, .nil, exD_one h h1 he⟩
    · rename_i x y r ws'
      have hl := hv.length
      refine ⟨_, [], shat, .nil, us, ?_, exD_all h hv he⟩
      unfold oneOr
      rw [dif_neg (by simp at hl ⊢; omega)]
    · exact he.elim

/-- A function's contract, from its code on data. -/
theorem den_of {f : FuncId} {fn : Func} {sf : SFn} (hf : P.funcs[f]? = some fn) (hc : compFn P H fn = some sf) {args : List D} {res : V} (hlen : args.length = sf.np)
    (e : awp P G sf.body (fun ax σ => match ax with | .nrm => RetOk σ sf.res res | .ret => RetOk σ sf.res res | .ex _ => False) (entry args)) : Den P G f args res := by
  unfold compFn at hc
  split at hc
  · rename_i c hb
    split at hc
    · rename_i body rs hbody hres
      split at hc
      · rename_i hnp
        cases hc
        intro w S vs hS hG hargs
        refine calls_of_wp hf hb ?_
        have hvl : vs.length = args.length := hargs.length
        have hnp' : vs.length ≤ fn.ntmps := by simp only at hlen; omega
        have hsize : (vs.toArray ++ Array.replicate (fn.ntmps - vs.toArray.size) undef).size = fn.ntmps := by simp; omega
        have hinv : Inv G fn.ntmps S w (entry args) { tmps := vs.toArray ++ Array.replicate (fn.ntmps - vs.toArray.size) undef, defers := [] } w S (fun _ => none) := by
          refine ⟨hsize, rfl, fun t => ?_, fun t i hi => ?_, fun id o ho => (by cases ho), fun i j b s s' h1 => absurd rfl h1, fun b i hs => ⟨hS b i hs, .inl hs⟩, fun _ _ h => h, hG, Below.refl _ _⟩
          · simp only [entry]
            cases ht : args[t]? with
            | none => trivial
            | some x =>
              obtain ⟨v, h1, h2⟩ := hargs.get? ht
              have hlt := (List.getElem?_eq_some_iff.1 h1).1
              have : (vs.toArray ++ Array.replicate (fn.ntmps - vs.toArray.size) undef).getD t undef = v := by
                rw [Array.getD_eq_getD_getElem?, Array.getElem?_append_left (by simpa using hlt)]
                simp [h1]
              rw [this]
              exact h2
          · simp only [entry] at hi
            split at hi <;> cases hi
        refine code_sound c hbody ?_ hinv e
        intro ax σ a w1 S1 m q h
        have key : RetOk σ rs res → a.defers = [] ∧ ∃ v, (results fn a.tmps).run P w1 = .ok v w1 ∧ (∃ v', ∃ (S' : Cells) (bl : List Nat), Ending.returned v = .returned v' ∧ Below w.heap.size w w1 ∧ (∀ b i, S' b i → (S b i ∨ w.heap.size ≤ b) ∧ b < w1.heap.size) ∧ bl.Nodup ∧ ResV S' w1 w.heap.size v' res bl) := by
          rintro ⟨ws, hws, hex⟩
          obtain ⟨us, h1, h2, h3⟩ := res_all h hres hws
          obtain ⟨S', bl, k1, k2, k3⟩ := ret_ok h h2 hex
          refine ⟨h.defers, oneOr us, ?_, _, S', bl, rfl, h.below, k1, k2, k3⟩
          rw [results_run]
          simp [Array.mapM_eq_mapM_toList, h1, oneOr]
        cases ax with
        | nrm => exact key q
        | ret => exact key q
        | ex _ => exact q.elim
      · cases hc
    · cases hc
  · cases hc
end
end Go.Proofs.YtkaaiefeinoocaaDoor
