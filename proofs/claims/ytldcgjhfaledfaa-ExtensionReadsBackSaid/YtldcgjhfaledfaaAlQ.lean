/- The plain logic (17): code and functions. Own work. -/
import Derived.Test.YtldcgjhfaledfaaAlP
set_option linter.unusedVariables false
set_option linter.unusedSimpArgs false
namespace Go.Proofs.Ytldcgjhfaledfaa
open Go.RowKit

/-! ### Code, made static -/
section
variable (P : Program) (H : Hint) (N : Nat)
def compCode (inr : Bool) : Code → Option SCode
  | .skip => some .skip
  | .region _ ops draws => match compRegion P H N ops draws with | some l => some (.reg l) | none => if H.bad = true then some (.reg [⟨none, .lenStr .u, none⟩]) else none
  | .seq a b => match compCode inr a, compCode inr b with | some x, some y => some (.seq x y) | _, _ => none
  | .cond c a b => match compX c, compCode inr a, compCode inr b with | some c, some x, some y => some (.cond c x y) | _, _, _ => none
  | .block id c => (compCode inr c).map (.block id)
  | .loop c => (compCode inr c).map .loop
  | .exit id => some (.exit id)
  | .ret => some .ret
  | .rangeFunc g ps a b => if inr = false ∧ ps.all (fun t => decide (t < N)) = true then match compX g, compCode true a, compCode true b with | some x, some a, some b => some (.rangeF x ps.toList a b) | _, _, _ => none else none
  | _ => none
def compRes : ResultVar → Option (Nat × Option Kd)
  | .tmp t => some (t, none)
  | .cell t ty => (tyKd P ty).map fun kd => (t, some kd)
def compFn (fn : Func) : Option SFn :=
  match fn.body with
  | some c => match compCode P H fn.ntmps false c, allSome (compRes P) fn.results.toList with
    | some body, some res => if fn.params.size + fn.nfree ≤ fn.ntmps then some ⟨fn.params.size + fn.nfree, fn.ntmps, body, res⟩ else none
    | _, _ => none
  | none => none
end

section
variable {P : Program} {G : Glob} {N : Nat} {Sin : Cells} {w0 : Gh} {σ : St} {a : Act} {w : World} {S : Cells} {m : Mp} {H : Hint}

/-! ### Less is said -/
theorem Inv.ent {τ : St} (h : Inv G N Sin w0 σ a w S m) (e : Ent σ τ) : ∃ m', Inv G N Sin w0 τ a w S m' := by
  obtain ⟨⟨g, g1, g2, g3⟩, g4, g5⟩ := e
  refine ⟨fun i => m (g i), h.size, h.defers, fun t => ?_, g4, fun i o ho => ⟨?_, g5 i o ho⟩, fun i j b s s' h1 h2 h3 h4 => ?_, h.sin, h.sub, h.glob, h.below, h.oth, h.kso, h.sso, h.fix⟩
  · rcases g1 t with e | e
    · rw [e]; trivial
    · have := h.slot t
      rw [e] at this
      exact this.ren
  · have hob := (h.obj (g i) _ (g2 i o ho)).1
    unfold ObjOk at hob ⊢
    show match m (g i) with | none => _ | some (b, sz) => _
    split at hob
    · obtain ⟨sz, e⟩ := hob
      rename_i hm
      rw [hm]
      cases o with
      | row s es => exact ⟨sz, e⟩
      | box cs => cases e
    · rename_i b sz hm
      rw [hm]
      obtain ⟨k1, k2, k3, cur, ty, fz, k4, k5, k6⟩ := hob
      refine ⟨?_, k2, k3, cur, ty, fz, k4, k5, k6.ren⟩
      rw [← k1]
      cases o <;> rfl
  · refine g3 i j h1 h2 ?_
    obtain ⟨oi, hi⟩ := Option.ne_none_iff_exists'.1 h1
    obtain ⟨oj, hj⟩ := Option.ne_none_iff_exists'.1 h2
    exact h.inj (g i) (g j) b s s' (by rw [g2 i oi hi]; simp) (by rw [g2 j oj hj]; simp) h3 h4

/-! ### Loops by a number that falls, which the memory need not show -/
theorem least_ex {p : Nat → Prop} (h : ∃ n, p n) : ∃ n, p n ∧ ∀ k, p k → n ≤ k := by
  obtain ⟨n, hn⟩ := h
  induction n using Nat.strongRecOn with
  | _ n ih =>
    by_cases h2 : ∃ k, k < n ∧ p k
    · obtain ⟨k, hk, hp⟩ := h2
      exact ih k hk hp
    · refine ⟨n, hn, fun k hk => ?_⟩
      rcases Nat.lt_or_ge k n with hlt | hge
      · exact absurd ⟨k, hlt, hk⟩ h2
      · exact hge
theorem wpIn_loop_n {F : Fence} {k : Nat} {c : Code} {Q : Exit → Act → World → Prop} (I : Nat → Act → World → Prop) {n : Nat} (h : I n a w) (round : ∀ n a w, I n a w → c.wpIn F k P (Exit.then (fun a' w' => ∃ n', n' < n ∧ I n' a' w') Q) a w) : (Code.loop c).wpIn F k P Q a w := by
  have hμ : ∃ μ : Act → World → Nat, ∀ a w, (∃ n, I n a w) → I (μ a w) a w ∧ ∀ k, I k a w → μ a w ≤ k := by
    have : ∀ p : Act × World, ∃ k, (∃ n, I n p.1 p.2) → I k p.1 p.2 ∧ ∀ j, I j p.1 p.2 → k ≤ j := by
      intro p
      by_cases hp : ∃ n, I n p.1 p.2
      · obtain ⟨k, h1, h2⟩ := least_ex hp
        exact ⟨k, fun _ => ⟨h1, h2⟩⟩
      · exact ⟨0, fun h => absurd h hp⟩
    obtain ⟨f, hf⟩ := Classical.axiomOfChoice this
    exact ⟨fun a w => f (a, w), fun a w => hf (a, w)⟩
  obtain ⟨μ, hμ⟩ := hμ
  refine wpIn_loop (fun a w => ∃ n, I n a w) μ ⟨n, h⟩ fun a w hI => ?_
  refine wpIn_mono (round _ a w (hμ a w hI).1) fun e a' w' he => ?_
  cases e with
  | normal =>
    obtain ⟨n', h1, h2⟩ := he
    exact ⟨⟨n', h2⟩, Nat.lt_of_le_of_lt ((hμ a' w' ⟨n', h2⟩).2 n' h2) h1⟩
  | _ => exact he

/-! ### Code -/
def AX.toExit : AX → Exit
  | .nrm => .normal
  | .ex id => .exit id
  | .ret => .ret
def AX.toCode : AX → Code
  | .nrm => .skip
  | .ex id => .exit id
  | .ret => .ret
def Post (G : Glob) (N : Nat) (Sin : Cells) (w0 : Gh) (Q' : AX → St → Prop) (Q : Exit → Act → World → Prop) : Prop := ∀ e σ a w S m, Q' e σ → Inv G N Sin w0 σ a w S m → Q e.toExit a w

/-! ### Rounds -/
/-- Whatever is no cells lies as it lay, but for block l. -/
structure KeepsBut (l : Nat) (W W' : World) : Prop where
  size : W.heap.size ≤ W'.heap.size
  same : ∀ (k : Nat) (o : Obj), k ≠ l → W.heap[k]? = some o → o.isCells = false → W'.heap[k]? = some o
theorem KeepsBut.of {l : Nat} {A B : World} (h : KeepsOthers A B) : KeepsBut l A B := ⟨h.size, fun k o _ hk ho => h.same k o hk ho⟩
theorem KeepsBut.trans {l : Nat} {A B C : World} (h : KeepsBut l A B) (k : KeepsBut l B C) : KeepsBut l A C :=
  ⟨Nat.le_trans h.size k.size, fun i o hl hi ho => k.same i o hl (h.same i o hl hi ho) ho⟩
theorem KeepsBut.put (W : World) (l : Nat) (o : Obj) : KeepsBut l W (W.putObj l o) :=
  ⟨(grownBy_putObj' W l o).size, fun k _ hl hk _ => (World.putObj_heap_other hl).trans hk⟩
theorem KeepsBut.old {l : Nat} {A B C : World} (h : KeepsOthers A B) (k : KeepsBut l B C) (hl : A.heap.size ≤ l) : KeepsOthers A C :=
  ⟨Nat.le_trans h.size k.size, fun i o hi ho => k.same i o (fun e => by have := (Array.getElem?_eq_some_iff.1 hi).1; omega) (h.same i o hi ho) ho⟩
theorem DefOk.but {B l : Nat} {w w' : World} (k : KeepsBut l w w') (hl : ∀ ds, w.heap[l]? ≠ some (.deferred ds)) : ∀ {ds : List Deferred}, DefOk B w ds → DefOk B w' ds
  | [], _ => trivial
  | _ :: _, ⟨⟨D, h1, h2, h3, h4⟩, h5⟩ => ⟨⟨D, h1, h2, k.same _ _ (fun e => hl _ (e ▸ h3)) h3 rfl, h4⟩, h5.but k hl⟩
/-- Cells lie as they lay. -/
def SameCells (w w' : World) : Prop := ∀ (b : Nat) cur ty fz, w.heap[b]? = some (.cells cur ty fz) → w'.heap[b]? = some (.cells cur ty fz)
theorem SameCells.keeps {w w' : World} (h : SameCells w w') (S : Cells) : Keeps S w w' := by
  refine ⟨fun b i v _ hv => ?_, fun b s hs => ?_⟩
  · unfold World.cell? at hv ⊢
    cases hb : w.heap[b]? with
    | none => simp [hb] at hv
    | some o =>
      cases o with
      | cells cur ty fz => rw [h b cur ty fz hb]; rw [hb] at hv; exact hv
      | _ => simp [hb] at hv
  · unfold World.shape? at hs ⊢
    cases hb : w.heap[b]? with
    | none => simp [hb] at hs
    | some o =>
      cases o with
      | cells cur ty fz => rw [h b cur ty fz hb]; rw [hb] at hs; exact hs
      | _ => simp [hb] at hs
theorem SameCells.put {w : World} {l : Nat} {o o' : Obj} (hl : w.heap[l]? = some o) (ho : o.isCells = false) : SameCells w (w.putObj l o') := fun b cur ty fz hb => by
  refine (World.putObj_heap_other fun e => ?_).trans hb
  subst e; rw [hl] at hb; cases hb; cases ho
theorem below_put {B : Nat} {w : World} {l : Nat} {o : Obj} (o' : Obj) (hl : B ≤ l) (h : w.heap[l]? = some o) : Below B w (w.putObj l o') :=
  (Below.refl B w).grown (grownBy_putObj' w l o') (by have := (Array.getElem?_eq_some_iff.1 h).1; omega) (fun k e => by cases e; omega)
/-- What is no cells turns; the base and the frame too. -/
theorem Inv.turn (h : Inv G N Sin w0 σ a w S m) {w' : World} (hc : SameCells w w') (hsz : w.heap.size ≤ w'.heap.size) {w1 : Gh} (e1 : w1.toWorld = w0.toWorld) (below : Bel w0.heap.size w0.ext w0 w') {a' : Act} (hts : a'.tmps.size = a.tmps.size)
    (ht : ∀ t, σ.f t = .undef ∨ a'.tmps.getD t undef = a.tmps.getD t undef) (hdef : DefOk w0.heap.size w' a'.defers) (oth : KeepsOthers w1.wo w') (kso : Keeps w1.so w1.wo w') (sso : ∀ b i, w1.so b i → S b i) (fix : ∀ t v, w1.fx t = some v → a'.tmps.getD t undef = v) (e2 : w1.ext = w0.ext := by rfl) :
    Inv G N Sin w1 σ a' w' S m := by
  have k := hc.keeps S
  have hmay : w1.may = w0.may := by unfold Gh.may; rw [e1, e2]
  refine ⟨hts.trans h.size, by rw [e1]; exact hdef, fun t => ?_, h.used, fun id o ho => ?_, h.inj, fun b i hs => ?_, h.sub, h.glob.step k (fun _ _ h => h), by rw [e1, e2]; exact below, oth, kso, sso, fix⟩
  · rcases ht t with e | e
    · rw [e]; trivial
    · rw [e]; exact (h.slot t).keep k
  · refine ⟨?_, (h.obj id o ho).2⟩
    rw [hmay]
    refine (h.obj id o ho).1.step k (fun _ _ h => h) (fun _ _ => rfl) rfl fun b s hm => ⟨?_, (h.obj id o ho).1.apart hm⟩
    have := (h.obj id o ho).1
    unfold ObjOk at this
    rw [hm] at this
    obtain ⟨_, _, _, cur, ty, fz, h4, _⟩ := this
    rw [hc b cur ty fz h4, h4]
  · rw [hmay]
    exact ⟨Nat.lt_of_lt_of_le (h.sin b i hs).1 hsz, (h.sin b i hs).2⟩
/-- The parameters of a round. -/
theorem Inv.puts : ∀ {ps : List Nat} {us : List Value} {r : List D} {σ : St} {a : Act}, Inv G N Sin w0 σ a w S m → All2 (fun v x => RW (fun _ => none) S w v (.c (.d x))) us r → (∀ t ∈ ps, t < N ∧ w0.fx t = none) → r.length = ps.length →
    Inv G N Sin w0 ⟨parsL σ.f ps r, σ.h, σ.u⟩ { a with tmps := (ps.zip us).foldl (fun t p => t.setIfInBounds p.1 p.2) a.tmps } w S m
  | [], us, r, σ, a, h, hr, _, hl => by
    have : r = [] := List.length_eq_zero_iff.1 hl
    subst this
    exact h
  | p :: ps, us, r, σ, a, h, hr, hp, hl => by
    cases hr with
    | nil => cases hl
    | cons h1 h2 =>
      have := h.put (some p) (fun t e => by cases e; exact hp p (by simp)) (RV.mono (S := S) (fun _ _ h => h) (x := vd _) (RW.congr h1 (fun i hi => by cases hi))) (fun i hi => by cases hi)
      exact this.puts h2 (fun t ht => hp t (by simp [ht])) (by simpa using hl)
theorem range_sound {g : Operand} {ps : Array Tmp} {asg body : Code} {x : SX} {sa sb : SCode} (hx : compX g = some x) (hps : ∀ t ∈ ps.toList, t < N)
    (ha : ∀ {w1 : Gh} {r : Option Nat} {n : Nat} {Q' : AX → St → Prop} {Q : Exit → Act → World → Prop} {σ : St} {a : Act} {w : World} {S : Cells} {m : Mp}, (∀ t ∈ sa.writes, w1.fx t = none) → Post G N Sin w1 Q' Q → Inv G N Sin w1 σ a w S m → awp P G sa Q' σ → asg.wpIn (Fr r) n P Q a w)
    (hb : ∀ {w1 : Gh} {r : Option Nat} {n : Nat} {Q' : AX → St → Prop} {Q : Exit → Act → World → Prop} {σ : St} {a : Act} {w : World} {S : Cells} {m : Mp}, (∀ t ∈ sb.writes, w1.fx t = none) → Post G N Sin w1 Q' Q → Inv G N Sin w1 σ a w S m → awp P G sb Q' σ → body.wpIn (Fr r) n P Q a w)
    {n : Nat} {Q' : AX → St → Prop} {Q : Exit → Act → World → Prop} (hp : Post G N Sin w0 Q' Q) (h : Inv G N Sin w0 σ a w S m) (e : awp P G (.rangeF x ps.toList sa sb) Q' σ) : (Code.rangeFunc g ps asg body).wpIn (Fr none) n P Q a w := by
  obtain ⟨gf, caps, xs, f0, h0, u0, I, hev, hseq, hlen, hent, hun, hI0, hround, hdone⟩ := e
  have hop : RV m S w (a.eval g) (ev G σ.f x) := (h.operand hx).1
  rw [hev] at hop
  obtain ⟨lb, hg, hlb⟩ := reads_fn_inv (show Reads S w (a.eval g) (.fn gf caps) from hop)
  obtain ⟨m0, hinv0⟩ := h.ent hent
  refine wpIn_rangeFunc fun fn hfn => ?_
  obtain ⟨rec, hrec⟩ : ∃ rec : LoopState → Option Code → Loop, rec = fun st pe => { state := st, pending := pe, fn, tmps := a.tmps, params := ps, assign := asg, body, defers := w.heap.size } := ⟨_, rfl⟩
  obtain ⟨W1, hW1⟩ : ∃ W1, (w.alloc (.deferred (some []))).alloc (.loop (rec .ready none)) = W1 := ⟨_, rfl⟩
  obtain ⟨a2, ha2⟩ : ∃ a2 : Act, { a with defers := { target := .collected w.heap.size, args := #[] } :: a.defers } = a2 := ⟨_, rfl⟩
  have hL1 : W1.heap[w.heap.size + 1]? = some (.loop (rec .ready none)) := by
    rw [← hW1]; have := World.alloc_heap_new (w.alloc (.deferred (some []))) (.loop (rec .ready none)); rwa [World.size_alloc] at this
  have hK1 : W1.heap[w.heap.size]? = some (.deferred (some [])) := by
    rw [← hW1]; exact (Below.heap_alloc _ _ _ (by simp)).trans (World.alloc_heap_new w _)
  have hold : ∀ b, b < w.heap.size → W1.heap[b]? = w.heap[b]? := fun b hlt => by
    rw [← hW1]; exact (Below.heap_alloc _ _ _ (by simp; omega)).trans (Below.heap_alloc w _ b hlt)
  have hs1 : W1.heap.size = w.heap.size + 2 := by rw [← hW1]; simp
  have hko1 : KeepsOthers w W1 := keepsO_heap hold (by omega)
  have hw0 : w0.heap.size ≤ w.heap.size := h.bsize
  have hbel1 : Bel w0.heap.size w0.ext w0 W1 := by
    rw [← hW1]; exact (h.below.step (Nat.le_refl _) ((Below.refl _ _).alloc (Nat.le_refl _) _)).step (Nat.le_refl _) ((Below.refl _ _).alloc (Nat.le_refl _) _)
  have hsame1 : SameCells w W1 := fun b cur ty fz hb => (hold b (Array.getElem?_eq_some_iff.1 hb).1).trans hb
  have hinv1 : Inv G N Sin w0 ⟨f0, h0, u0⟩ a2 W1 S m0 := by
    subst ha2
    refine hinv0.turn hsame1 (by omega) rfl hbel1 rfl (fun t => .inr rfl) ⟨⟨w.heap.size, rfl, hw0, hK1, fun d' hd' e => ?_⟩, h.defers.keep hko1⟩ (h.oth.trans hko1) ?_ h.sso h.fix
    · have key : ∀ {ds : List Deferred}, DefOk w0.heap.size w ds → d' ∈ ds → d'.target ≠ .collected w.heap.size := by
        intro ds
        induction ds with
        | nil => intro _ h; cases h
        | cons d ds ih =>
          rintro ⟨⟨D, h1, h2, h3, h4⟩, h5⟩ hm e
          rcases List.mem_cons.1 hm with rfl | hm
          · rw [h1] at e
            simp only [Target.collected.injEq] at e
            have := (Array.getElem?_eq_some_iff.1 h3).1
            omega
          · exact ih h5 hm e
      exact key h.defers hd' e
    · exact h.kso.trans (hsame1.keeps _)
  have hat : a2.tmps = a.tmps := by subst ha2; rfl
  refine ⟨w.heap.size + 1, [{ target := .collected w.heap.size, args := #[] }], W1, { target := .fn (.func gf) lb.toArray, args := #[.func (.yield (w.heap.size + 1)) #[] #[]] }, W1, gf,
    #[.func (.yield (w.heap.size + 1)) #[] #[]] ++ lb.toArray, W1, ?_, ?_, fun _ _ => trivial, ?_, fun h => (by cases h), ?_⟩
  · rw [← hW1, hrec]; exact run_enterLoop_outer _ _ _ _ _
  · simp only [resolve, hg]
    simp [go_sem]
  · simp [invoke, go_sem, hseq.1]
  · -- the rounds
    obtain ⟨J, hJ⟩ : ∃ J : LoopState → Option Code → (Heap → (Nat → Bool) → Prop) → World → Prop, J = fun st pe R W =>
      ∃ h u S' m', R h u ∧ Inv G N Sin w0 ⟨f0, h, u⟩ a2 W S' m' ∧ W.heap[w.heap.size + 1]? = some (.loop (rec st pe)) ∧ (∀ b i, S b i → S' b i) ∧ Keeps S W1 W ∧ W1.heap.size ≤ W.heap.size := ⟨_, rfl⟩
    have Jgrow : ∀ st pe R W W', J st pe R W → Below W.heap.size W W' → J st pe R W' := by
      intro st pe R W W' hj hbl
      rw [hJ] at hj ⊢
      obtain ⟨h', u', S', m', k1, k2, k3, k4, k5, k6⟩ := hj
      have hb : ∀ b, b < W.heap.size → W'.heap[b]? = W.heap[b]? := fun b hlt => hbl.block b hlt
      refine ⟨h', u', S', m', k1, k2.grow hb (k2.below.step (Nat.le_refl _) hbl) hbl.size, (hb _ (Array.getElem?_eq_some_iff.1 k3).1).trans k3, k4, k5.trans (keeps_of_heap (fun b i hs => (k2.sin b i (k4 b i hs)).1) hb), Nat.le_trans k6 hbl.size⟩
    have key := hseq.2 (n - 1) W1 S lb (fun b i hs => by have := (h.sin b i hs).1; omega) (h.glob.step (hsame1.keeps S) (fun _ _ h => h)) ?_ (w.heap.size + 1) (fun k => J .ready none (I k)) (fun W => ∃ c : AX, J .done (some c.toCode) (fun h u => Q' c ⟨f0, h, u⟩ ∧ c ≠ .nrm) W) ?_ (fun k W W' => Jgrow _ _ _ W W') (fun W W' => ?_) ?_ ?_
    · refine CallsIn.mono key ?_
      rintro e W2 ⟨⟨v, rfl⟩, hj | ⟨c, hj⟩⟩
      · rw [hJ] at hj
        obtain ⟨h', u', S', m', k1, k2, k3, k4, k5, k6⟩ := hj
        refine ⟨none, _, by have := run_endLoop (P := P) k3 (by rw [hrec]; simp); rw [hrec] at this; exact this, ?_⟩
        show Q .normal { a with defers := [{ target := .collected w.heap.size, args := #[] }] ++ a.defers } _
        rw [List.singleton_append, ha2]
        refine hp .nrm _ _ _ S' m' (hdone h' u' k1) (k2.turn (SameCells.put k3 rfl) (grownBy_putObj' _ _ _).size rfl (k2.below.trans (Bel.of (below_put _ (by omega) k3))) rfl (fun t => .inr rfl) (k2.defers.but (KeepsBut.put _ _ _) fun ds e => by rw [k3] at e; cases e)
          ((KeepsBut.old k2.oth (KeepsBut.put _ _ _) (by have := h.oth.size; omega))) (k2.kso.trans ((SameCells.put k3 rfl).keeps _)) k2.sso k2.fix)
      · rw [hJ] at hj
        obtain ⟨h', u', S', m', ⟨k1, kc⟩, k2, k3, k4, k5, k6⟩ := hj
        refine ⟨some c.toCode, _, by have := run_endLoop (P := P) k3 (by rw [hrec]; simp); rw [hrec] at this; exact this, ?_⟩
        show c.toCode.wpIn (Fr none) n P Q { a with defers := [{ target := .collected w.heap.size, args := #[] }] ++ a.defers } _
        rw [List.singleton_append, ha2]
        have hq := hp c _ _ _ S' m' k1 (k2.turn (SameCells.put (o' := .loop { rec .done (some c.toCode) with state := .exhausted }) k3 rfl) (grownBy_putObj' _ _ _).size rfl (k2.below.trans (Bel.of (below_put _ (by omega) k3))) rfl (fun t => .inr rfl) (k2.defers.but (KeepsBut.put _ _ _) fun ds e => by rw [k3] at e; cases e)
          ((KeepsBut.old k2.oth (KeepsBut.put _ _ _) (by have := h.oth.size; omega))) (k2.kso.trans ((SameCells.put k3 rfl).keeps _)) k2.sso k2.fix)
        rw [hrec] at hq
        cases c with
        | nrm => exact absurd rfl kc
        | ex id => exact wpIn_exit hq
        | ret => exact wpIn_ret hq
    · refine hlb.weak fun v d _ _ hr => ?_
      exact Reads.rw (hr.keep (hsame1.keeps S))
    · intro k W hj
      rw [hJ] at hj
      obtain ⟨h', u', S', m', k1, k2, k3, k4, k5, k6⟩ := hj
      exact ⟨k5, k6⟩
    · rintro ⟨c, hj⟩ hbl
      exact ⟨c, Jgrow _ _ _ W W' hj hbl⟩
    · -- one round
      intro k r W us hr hj hus
      rw [hJ] at hj
      obtain ⟨h', u', S', m', k1, k2, k3, k4, k5, k6⟩ := hj
      have hrl : r.length = ps.toList.length := hlen r (List.mem_of_getElem? hr)
      have hul : us.length = ps.toList.length := hus.length.trans hrl
      have hy := run_yield (P := P) (args := us.toArray) k3 (by rw [hrec]; simpa using hul)
      rw [hrec] at hy
      obtain ⟨wr, hwr⟩ : ∃ wr, wr = ps.toList ++ sa.writes ++ sb.writes := ⟨_, rfl⟩
      let fx : Nat → Option Value := fun t => if t ∈ wr then none else some (a.tmps.getD t undef)
      have hfx : ∀ t ∈ wr, fx t = none := fun t ht => if_pos ht
      let wA : Gh := { w0 with wo := W, so := S', fx := fx }
      have hfold : (ps.zip us.toArray).foldl (fun tmps (x : Tmp × Value) => tmps.setIfInBounds x.1 x.2) a.tmps = (ps.toList.zip us).foldl (fun t p => t.setIfInBounds p.1 p.2) a.tmps := by
        rw [← Array.foldl_toList]; simp
      have hinvA : Inv G N Sin wA ⟨parsL f0 ps.toList r, h', u'⟩ { tmps := (ps.zip us.toArray).foldl (fun tmps (x : Tmp × Value) => tmps.setIfInBounds x.1 x.2) a.tmps, defers := [] } W S' m' := by
        rw [hfold]
        have := k2.turn (w1 := wA) (a' := { tmps := a.tmps, defers := [] }) (w' := W) (fun _ _ _ _ h => h) (Nat.le_refl _) rfl k2.below (by rw [hat]) (fun t => .inr (by rw [hat])) trivial (KeepsOthers.refl W) (Keeps.refl _ _) (fun _ _ h => h) (fun t v ht => by
          have ht' : fx t = some v := ht
          simp only [fx] at ht'
          split at ht'
          · cases ht'
          · cases ht'; rfl)
        refine this.puts (hus.weak fun v d _ _ hv => RW.mono k4 hv) (fun t ht => ⟨hps t ht, hfx t ?_⟩) hrl
        rw [hwr]; simp [ht]
      refine ⟨fn, _, asg, body, hy, roundIn_of_wpIn trivial ?_⟩
      refine ha (w1 := wA) (r := some (w.heap.size + 1)) (fun t ht => hfx t (by rw [hwr]; simp [ht])) ?_ hinvA (hround k r h' u' hr k1)
      rintro e1 σ1 a1 V1 S1 m1 q1 hinv1'
      cases e1 with
      | ex id => exact q1.elim
      | ret => exact q1.elim
      | nrm =>
        have hl1 : V1.heap[w.heap.size + 1]? = some (.loop (rec .ready none)) := hinv1'.oth.same _ _ k3 rfl
        refine ⟨_, run_beginRound hl1 (by rw [hrec]), ?_⟩
        obtain ⟨V2, hV2⟩ : ∃ V2, V1.putObj (w.heap.size + 1) (.loop { rec .ready none with state := .busy }) = V2 := ⟨_, rfl⟩
        rw [hV2]
        have hl2 : V2.heap[w.heap.size + 1]? = some (.loop { rec .ready none with state := .busy }) := by rw [← hV2]; exact World.putObj_heap_same (Array.getElem?_eq_some_iff.1 hl1).1
        have hsc2 : SameCells V1 V2 := by rw [← hV2]; exact SameCells.put hl1 rfl
        have hkb2 : KeepsBut (w.heap.size + 1) V1 V2 := by rw [← hV2]; exact KeepsBut.put _ _ _
        let wB : Gh := { w0 with wo := V2, so := S1, fx := fx }
        have hbelB : Bel w0.heap.size w0.ext w0 V2 := by
          rw [← hV2]; exact Bel.trans (show Bel w0.heap.size w0.ext w0 V1 from hinv1'.below) (Bel.of (below_put _ (by omega) hl1))
        have hinvB : Inv G N Sin wB σ1 a1 V2 S1 m1 := by
          exact hinv1'.turn (w1 := wB) hsc2 hkb2.size rfl hbelB rfl (fun t => .inr rfl) (hinv1'.defers.but hkb2 fun ds e => by rw [hl1] at e; cases e) (KeepsOthers.refl V2) (Keeps.refl _ _) (fun _ _ h => h) hinv1'.fix
        refine hb (w1 := wB) (r := some (w.heap.size + 1)) (fun t ht => hfx t (by rw [hwr]; simp [ht])) ?_ hinvB q1
        rintro e2 σ2 a3 V3 S3 m3 q2 hinv3
        have hl3 : V3.heap[w.heap.size + 1]? = some (.loop { rec .ready none with state := .busy }) := hinv3.oth.same _ _ hl2 rfl
        -- what holds behind the round, whatever the record says then
        have fin : ∀ (st : LoopState) (pe : Option Code) (R : Heap → (Nat → Bool) → Prop) (h2 : Heap) (u2 : Nat → Bool), R h2 u2 → Ent σ2 ⟨f0, h2, u2⟩ → J st pe R (V3.putObj (w.heap.size + 1) (.loop (rec st pe))) := by
          intro st pe R h2 u2 hR hent2
          obtain ⟨m4, hinv4⟩ := hinv3.ent hent2
          have hsc4 : SameCells V3 (V3.putObj (w.heap.size + 1) (.loop (rec st pe))) := SameCells.put hl3 rfl
          have hkb : KeepsBut (w.heap.size + 1) W (V3.putObj (w.heap.size + 1) (.loop (rec st pe))) :=
            ((KeepsBut.of hinv1'.oth).trans hkb2).trans ((KeepsBut.of hinv3.oth).trans (KeepsBut.put _ _ _))
          have hkp : Keeps S' W (V3.putObj (w.heap.size + 1) (.loop (rec st pe))) := by
            have c1 : Keeps S' W V1 := hinv1'.kso
            have c2 : Keeps S' V1 V2 := hsc2.keeps _
            have c3 : Keeps S1 V2 V3 := hinv3.kso
            have c4 : Keeps S' V3 _ := hsc4.keeps _
            exact ((c1.trans c2).trans ⟨fun b i v hs hv => c3.cell b i v (hinv1'.sso b i hs) hv, c3.shape⟩).trans c4
          rw [hJ]
          refine ⟨h2, u2, S3, m4, hR, ?_, World.putObj_heap_same (Array.getElem?_eq_some_iff.1 hl3).1, fun b i hs => hinv3.sso b i (hinv1'.sso b i (k4 b i hs)), k5.trans ⟨fun b i v hs hv => hkp.cell b i v (k4 b i hs) hv, hkp.shape⟩, Nat.le_trans k6 hkb.size⟩
          have hbel4 : Bel w0.heap.size w0.ext w0 (V3.putObj (w.heap.size + 1) (.loop (rec st pe))) := Bel.trans (show Bel w0.heap.size w0.ext w0 V3 from hinv3.below) (Bel.of (below_put _ (by omega) hl3))
          refine hinv4.turn (w1 := w0) hsc4 (grownBy_putObj' _ _ _).size rfl hbel4 (by rw [hat, h.size]; exact hinv3.size.symm) (fun t => ?_) (k2.defers.but hkb fun ds e => by rw [k3] at e; cases e) (KeepsBut.old k2.oth hkb (by have := h.oth.size; omega))
            (k2.kso.trans ⟨fun b i v hs hv => hkp.cell b i v (k2.sso b i hs) hv, hkp.shape⟩) (fun b i hs => hinv3.sso b i (hinv1'.sso b i (k2.sso b i hs))) (fun t v ht => ?_)
          · by_cases hm : t ∈ wr
            · left; exact hun t (by rw [← hwr]; exact hm)
            · right
              rw [hat]
              exact (hinv3.fix t (a.tmps.getD t undef) (if_neg hm)).symm
          · rw [hat]; exact h.fix t v ht
        have hend := fun (jump : Option Code) => run_endRound (P := P) jump hl3
        cases e2 with
        | nrm =>
          obtain ⟨h2, u2, hent2, hI2⟩ := q2
          refine ⟨_, _, hend none, .inl ⟨rfl, ?_⟩⟩
          have := fin .ready none (I (k + 1)) h2 u2 hI2 hent2
          rw [hrec] at this ⊢
          exact this
        | ex id =>
          obtain ⟨h2, u2, hent2, hI2⟩ := q2
          refine ⟨_, _, hend (some (.exit id)), .inr ⟨rfl, .ex id, ?_⟩⟩
          have := fin .done (some (.exit id)) (fun h u => Q' (.ex id) ⟨f0, h, u⟩ ∧ AX.ex id ≠ .nrm) h2 u2 ⟨hI2, by simp⟩ hent2
          rw [hrec] at this ⊢
          exact this
        | ret =>
          obtain ⟨h2, u2, hent2, hI2⟩ := q2
          refine ⟨_, _, hend (some .ret), .inr ⟨rfl, .ret, ?_⟩⟩
          have := fin .done (some .ret) (fun h u => Q' .ret ⟨f0, h, u⟩ ∧ AX.ret ≠ .nrm) h2 u2 ⟨hI2, by simp⟩ hent2
          rw [hrec] at this ⊢
          exact this
    · rw [hJ]
      exact ⟨h0, u0, S, m0, hI0, hinv1, hL1, fun _ _ h => h, Keeps.refl _ _, Nat.le_refl _⟩

theorem code_sound : ∀ (c : Code) {inr : Bool} {sc : SCode}, compCode P H N inr c = some sc → ∀ {r : Option Nat} {n : Nat} {w0 : Gh} {Q' : AX → St → Prop} {Q : Exit → Act → World → Prop} {σ : St} {a : Act} {w : World} {S : Cells} {m : Mp}, (inr = false → r = none) → (∀ t ∈ sc.writes, w0.fx t = none) → Post G N Sin w0 Q' Q → Inv G N Sin w0 σ a w S m → awp P G sc Q' σ → c.wpIn (Fr r) n P Q a w
  | .skip, inr, sc, hc, r, n, w0, Q', Q, σ, a, w, S, m, hr, hf, hp, h, e => by
    simp only [compCode, Option.some.injEq] at hc
    subst hc
    exact wpIn_skip (hp _ _ _ _ _ _ e h)
  | .region id ops draws, inr, sc, hc, r, n, w0, Q', Q, σ, a, w, S, m, hr, hf, hp, h, e => by
    simp only [compCode] at hc
    split at hc
    case h_2 => split at hc <;> cases hc; exact False.elim e
    rename_i cs hcs
    cases hc
    refine region_sound hcs (fun so hs t ht => hf t (List.mem_filterMap.2 ⟨so, hs, ht⟩)) h e ?_
    rintro a1 w1 ⟨σ1, S1, m1, k1, k2⟩
    exact hp _ _ _ _ _ _ k1 k2
  | .seq x y, inr, sc, hc, r, n, w0, Q', Q, σ, a, w, S, m, hr, hf, hp, h, e => by
    simp only [compCode] at hc
    split at hc
    · rename_i x' y' hx hy
      cases hc
      refine wpIn_seq (code_sound x hx hr (fun t ht => hf t (List.mem_append_left _ ht)) ?_ h e)
      intro ax σ1 a1 w1 S1 m1 k1 k2
      cases ax with
      | nrm => exact code_sound y hy hr (fun t ht => hf t (List.mem_append_right _ ht)) hp k2 k1
      | ex id => exact hp _ _ _ _ _ _ k1 k2
      | ret => exact hp _ _ _ _ _ _ k1 k2
    · cases hc
  | .cond x y z, inr, sc, hc, r, n, w0, Q', Q, σ, a, w, S, m, hr, hf, hp, h, e => by
    simp only [compCode] at hc
    split at hc
    · rename_i x' y' z' hx hy hz
      cases hc
      simp only [awp] at e
      cases ht : asB (ev G σ.f x') with
      | none => rw [ht] at e; exact e.elim
      | some t =>
        rw [ht] at e
        have hv := asB_ok (h.operand hx).1 ht
        exact wpIn_cond_split hv (fun g => code_sound y hy hr (fun t ht => hf t (List.mem_append_left _ ht)) hp h (e.1 g)) fun g => code_sound z hz hr (fun t ht => hf t (List.mem_append_right _ ht)) hp h (e.2 g)
    · cases hc
  | .block id c, inr, sc, hc, r, n, w0, Q', Q, σ, a, w, S, m, hr, hf, hp, h, e => by
    simp only [compCode, Option.map_eq_some_iff] at hc
    obtain ⟨c', hcc, rfl⟩ := hc
    refine wpIn_block (code_sound c hcc hr hf ?_ h e)
    intro ax σ1 a1 w1 S1 m1 k1 k2
    cases ax with
    | nrm => exact hp _ _ _ _ _ _ k1 k2
    | ex i =>
      show Exit.inBlock id Q (.exit i) a1 w1
      unfold Exit.inBlock
      simp only at k1 ⊢
      by_cases hi : i = id
      · rw [if_pos hi] at k1 ⊢
        exact hp _ _ _ _ _ _ k1 k2
      · rw [if_neg hi] at k1 ⊢
        exact hp _ _ _ _ _ _ k1 k2
    | ret => exact hp _ _ _ _ _ _ k1 k2
  | .loop c, inr, sc, hc, r, n, w0, Q', Q, σ, a, w, S, m, hr, hf, hp, h, e => by
    simp only [compCode, Option.map_eq_some_iff] at hc
    obtain ⟨c', hcc, rfl⟩ := hc
    obtain ⟨I, ⟨n0, τ, he, hI⟩, hround⟩ := e
    obtain ⟨m', hinv⟩ := h.ent he
    refine wpIn_loop_n (fun n a w => ∃ τ S m, I n τ ∧ Inv G N Sin w0 τ a w S m) ⟨τ, S, m', hI, hinv⟩ ?_
    rintro n a1 w1 ⟨τ, S1, m1, k1, k2⟩
    refine code_sound c hcc hr hf ?_ k2 (hround n τ k1)
    intro ax σ2 a2 w2 S2 m2 q1 q2
    cases ax with
    | nrm =>
      obtain ⟨n', τ', g1, g2, g3⟩ := q1
      obtain ⟨m3, hinv3⟩ := q2.ent g2
      exact ⟨n', g1, τ', S2, m3, g3, hinv3⟩
    | ex i => exact hp _ _ _ _ _ _ q1 q2
    | ret => exact hp _ _ _ _ _ _ q1 q2
  | .exit id, inr, sc, hc, r, n, w0, Q', Q, σ, a, w, S, m, hr, hf, hp, h, e => by
    simp only [compCode, Option.some.injEq] at hc
    subst hc
    exact wpIn_exit (hp _ _ _ _ _ _ e h)
  | .ret, inr, sc, hc, r, n, w0, Q', Q, σ, a, w, S, m, hr, hf, hp, h, e => by
    simp only [compCode, Option.some.injEq] at hc
    subst hc
    exact wpIn_ret (hp _ _ _ _ _ _ e h)
  | .rangeFunc g ps x y, inr, sc, hc, r, n, w0, Q', Q, σ, a, w, S, m, hr, hf, hp, h, e => by
    simp only [compCode] at hc
    split at hc
    · rename_i hi
      obtain rfl := hr hi.1
      split at hc
      · rename_i g' x' y' hg hx hy
        cases hc
        refine range_sound hg (fun t ht => ?_) (fun hf => code_sound x hx (fun h => by cases h) hf) (fun hf => code_sound y hy (fun h => by cases h) hf) hp h e
        have := hi.2
        rw [← Array.all_toList, List.all_eq_true] at this
        simpa using this t ht
      · cases hc
    · cases hc
  | .scope _, inr, sc, hc, r, n, w0, Q', Q, σ, a, w, S, m, hr, hf, hp, h, e => by simp [compCode] at hc
  | .label _, inr, sc, hc, r, n, w0, Q', Q, σ, a, w, S, m, hr, hf, hp, h, e => by simp [compCode] at hc
  | .goto _, inr, sc, hc, r, n, w0, Q', Q, σ, a, w, S, m, hr, hf, hp, h, e => by simp [compCode] at hc
  | .refuse _, inr, sc, hc, r, n, w0, Q', Q, σ, a, w, S, m, hr, hf, hp, h, e => by simp [compCode] at hc

/-! ### The end -/
def resF (tmps : Array Value) : ResultVar → Sem Value
  | .tmp t => pure (tmps.getD t undef)
  | .cell a t => do loadVar t (← asAddr (tmps.getD a undef))
theorem res_one (h : Inv G N Sin w0 σ a w S m) {r : ResultVar} {l : Nat × Option Kd} (hc : compRes P r = some l) {x : W} (hx : resW σ l = some x) : ∃ u, (resF a.tmps r).run P w = .ok u w ∧ RW m S w u x ∧ ∀ i ∈ x.ids, σ.u i = true := by
  cases r with
  | tmp t =>
    simp only [compRes, Option.some.injEq] at hc
    subst hc
    obtain ⟨h1, h2⟩ := asW_ok (h.slot t) hx
    refine ⟨_, rfl, h1, fun i hi => h.used t i ?_⟩
    rw [h2]; exact hi
  | cell t ty =>
    simp only [compRes, Option.map_eq_some_iff] at hc
    obtain ⟨kd, hk, rfl⟩ := hc
    obtain ⟨ad, us, h1, h2, h3, h4, h5⟩ := ld_ok h (h.slot t) hx
    refine ⟨valOf kd us, ?_, h4, h5⟩
    simp only [resF, h1, asAddr]
    simp [run_loadVar hk ad us h2 h3]
theorem res_all (h : Inv G N Sin w0 σ a w S m) : ∀ {rs : List ResultVar} {l : List (Nat × Option Kd)} {ws : List W}, allSome (compRes P) rs = some l → allSome (resW σ) l = some ws → ∃ us : List Value, (rs.mapM (resF a.tmps)).run P w = .ok us w ∧ All2 (RW m S w) us ws ∧ ∀ i ∈ ws.flatMap W.ids, σ.u i = true
  | [], l, ws, h1, h2 => by
    simp only [allSome, Option.some.injEq] at h1
    subst h1
    simp only [allSome, Option.some.injEq] at h2
    subst h2
    exact ⟨[], rfl, .nil, fun i hi => by cases hi⟩
  | r :: rs, l, ws, h1, h2 => by
    simp only [allSome] at h1
    split at h1
    · rename_i y l' hy hl
      cases h1
      simp only [allSome] at h2
      split at h2
      · rename_i x ws' hx hws
        cases h2
        obtain ⟨u, k1, k2, k3⟩ := res_one h hy hx
        obtain ⟨us, q1, q2, q3⟩ := res_all h hl hws
        refine ⟨u :: us, ?_, .cons k2 q2, fun i hi => ?_⟩
        · simp [List.mapM_cons, k1, q1]
        · rw [List.flatMap_cons] at hi
          rcases List.mem_append.1 hi with hi | hi
          · exact k3 i hi
          · exact q3 i hi
      · cases h2
    · cases h1
theorem results_run (fn : Func) (tmps : Array Value) : results fn tmps = (do let vs ← fn.results.mapM (resF tmps); pure (if h : vs.size = 1 then vs[0] else .tuple vs)) := by
  unfold results
  congr 1
/-- The blocks of these variables. -/
def Bls (σ : St) (m : Mp) (ids : List Nat) (bl : List Nat) : Prop := bl.Nodup ∧ ∀ b ∈ bl, ∃ id ∈ ids, ∃ s, m id = some (b, s) ∧ σ.h id ≠ none
theorem Bls.append (h : Inv G N Sin w0 σ a w S m) {l1 l2 b1 b2 : List Nat} (hn : (l1 ++ l2).Nodup) (h1 : Bls σ m l1 b1) (h2 : Bls σ m l2 b2) : Bls σ m (l1 ++ l2) (b1 ++ b2) := by
  refine ⟨List.nodup_append.2 ⟨h1.1, h2.1, fun b hb c hc e => ?_⟩, fun b hb => ?_⟩
  · subst e
    obtain ⟨i, hi, s, e1, e2⟩ := h1.2 b hb
    obtain ⟨j, hj, s', e3, e4⟩ := h2.2 b hc
    have := h.inj i j b s s' e2 e4 e1 e3
    subst this
    exact (List.nodup_append.1 hn).2.2 i hi i hj rfl
  · rcases List.mem_append.1 hb with hb | hb
    · obtain ⟨i, hi, r⟩ := h1.2 b hb
      exact ⟨i, List.mem_append_left _ hi, r⟩
    · obtain ⟨i, hi, r⟩ := h2.2 b hb
      exact ⟨i, List.mem_append_right _ hi, r⟩
theorem Bls.none (σ : St) (m : Mp) (ids : List Nat) : Bls σ m ids [] := ⟨.nil, fun b hb => by cases hb⟩
theorem exC_ok (h : Inv G N Sin w0 σ a w S m) (hx : ∀ b, ¬ w0.ext b) {u : Value} {c r : C} (hv : RC m S w u c) (he : exC σ.h c r) : ∃ bl, ResC S w w0.heap.size u r bl ∧ Bls σ m c.ids bl := by
  unfold exC at he
  split at he
  · rename_i id sz off n sz' es
    obtain ⟨rfl, rfl, he⟩ := he
    split at he
    · rename_i o ho
      obtain ⟨he1, he2⟩ := he
      cases o with
      | box cs => exact he2.elim
      | row s0 es0 =>
        simp only [obSl] at he1
        split at he1
        · rename_i hle
          cases he1
          have hv' : OwnV m w u id _ 0 n := hv
          have hob := (h.obj id _ ho).1
          unfold OwnV at hv'
          unfold ObjOk at hob
          split at hv'
          · obtain ⟨⟨ad, rfl⟩, _, rfl⟩ := hv'
            exact ⟨[], .inl ⟨⟨ad, rfl⟩, by simp, rfl⟩, Bls.none _ _ _⟩
          · rename_i b sz2 hm
            obtain ⟨rfl, ad, cap, ty, M, rfl, g2, g3, g4, g5, g6⟩ := hv'
            rw [hm] at hob
            obtain ⟨k1, k2, k3, cur, ty', fz, k4, k5, k6⟩ := hob
            have had := g4 (.inr rfl)
            rw [Nat.zero_mul] at had
            subst had
            have hlen : ((es0.drop 0).take n).length = n := by rw [List.length_take, List.drop_zero]; omega
            refine ⟨[b], .inr ⟨b, cap, ty, M, rfl, by rw [hlen], by rw [hlen]; exact g2, g3, g5, by simpa using g6, k2.resolve_right (hx _), k3, cur, ty', fz, k4, k5, ?_, fun i hi => ?_⟩, ⟨by simp, fun b' hb' => ⟨id, by simp [C.ids], sz2, ?_, by rw [ho]; simp⟩⟩⟩
            · rw [hlen]
              exact Nat.le_trans (Nat.mul_le_mul_right _ (by omega)) k6.1
            · have hi' : i < es0.length := by rw [hlen] at hi; omega
              have he : ((es0.drop 0).take n)[i] = es0[i] := by simp
              rw [he]
              exact k6.2 i hi'
            · simp only [List.mem_singleton] at hb'
              rw [hb']; exact hm
        · cases he1
    · exact he.elim
  · subst he
    exact ⟨[], .inl ⟨hv, rfl, rfl⟩, Bls.none _ _ _⟩
  · subst he
    refine ⟨[], ⟨?_, rfl⟩, Bls.none _ _ _⟩
    obtain ⟨ad, rfl⟩ : ∃ ad, u = .slice ad 0 0 := hv
    exact Reads.zero ad
  · subst he
    exact ⟨[], ⟨hv, rfl⟩, Bls.none _ _ _⟩
  · exact he.elim
theorem exCs_ok (h : Inv G N Sin w0 σ a w S m) (hx : ∀ b, ¬ w0.ext b) : ∀ {us : List Value} {cs rs : List C}, All2 (RC m S w) us cs → All2 (exC σ.h) cs rs → (cs.flatMap C.ids).Nodup → ∃ bl, ResCs S w w0.heap.size us rs bl ∧ Bls σ m (cs.flatMap C.ids) bl
  | _, _, _, .nil, .nil, _ => ⟨[], .nil, Bls.none _ _ _⟩
  | _, _, _, .cons h1 h2, .cons k1 k2, hn => by
    rw [List.flatMap_cons] at hn ⊢
    obtain ⟨b1, e1, e2⟩ := exC_ok h hx h1 k1
    obtain ⟨b2, e3, e4⟩ := exCs_ok h hx h2 k2 (List.nodup_append.1 hn).2.1
    exact ⟨b1 ++ b2, .cons e1 e3, Bls.append h hn e2 e4⟩
theorem exW_ok (h : Inv G N Sin w0 σ a w S m) (hx : ∀ b, ¬ w0.ext b) {u : Value} {x r : W} (hv : RW m S w u x) (he : exW σ.h x r) (hn : x.ids.Nodup) : ∃ bl, ResW S w w0.heap.size u r bl ∧ Bls σ m x.ids bl := by
  unfold exW at he
  split at he
  · rename_i c d
    cases c with
    | d y =>
      cases d with
      | d z =>
        have : y = z := he
        subst this
        cases y with
        | agg cs => exact ⟨[], ⟨hv, rfl⟩, Bls.none _ _ _⟩
        | _ => exact ⟨[], ⟨hv, rfl⟩, Bls.none _ _ _⟩
      | _ => exact he.elim
    | nil =>
      obtain ⟨bl, h1, h2⟩ := exC_ok (c := .nil) h hx hv he
      refine ⟨bl, ?_, h2⟩
      cases d with
      | d z =>
        have : z = .sl [] := he
        subst this
        exact h1
      | _ => exact h1
    | own id sz off n =>
      obtain ⟨bl, h1, h2⟩ := exC_ok (c := .own id sz off n) h hx hv he
      refine ⟨bl, ?_, h2⟩
      cases d with
      | fr s es => exact h1
      | _ => exact he.elim
    | _ => exact he.elim
  · rename_i cs ds
    obtain ⟨us, rfl, h2⟩ := hv
    obtain ⟨bl, k1, k2⟩ := exCs_ok h hx h2 he hn
    exact ⟨bl, ⟨us, rfl, k1⟩, k2⟩
  · rename_i cs ds
    obtain ⟨us, h1, h2⟩ := pureW_ok (x := .mix cs) hv (d := .agg ds) (by simp [pureW, he])
    obtain ⟨us', rfl, _⟩ := hv
    have : us' = us := by simpa [Value.cells] using h1
    subst this
    exact ⟨[], ⟨⟨us', rfl, h2⟩, rfl⟩, Bls.none _ _ _⟩
  · exact he.elim
theorem exWs_ok (h : Inv G N Sin w0 σ a w S m) (hx : ∀ b, ¬ w0.ext b) : ∀ {us : List Value} {ws rs : List W}, All2 (RW m S w) us ws → All2 (exW σ.h) ws rs → (ws.flatMap W.ids).Nodup → ∃ bl, ResWs S w w0.heap.size us rs bl ∧ Bls σ m (ws.flatMap W.ids) bl
  | _, _, _, .nil, .nil, _ => ⟨[], .nil, Bls.none _ _ _⟩
  | _, _, _, .cons h1 h2, .cons k1 k2, hn => by
    rw [List.flatMap_cons] at hn ⊢
    obtain ⟨b1, e1, e2⟩ := exW_ok h hx h1 k1 (List.nodup_append.1 hn).1
    obtain ⟨b2, e3, e4⟩ := exWs_ok h hx h2 k2 (List.nodup_append.1 hn).2.1
    exact ⟨b1 ++ b2, .cons e1 e3, Bls.append h hn e2 e4⟩
def oneOr (us : List Value) : Value := if h : us.toArray.size = 1 then us.toArray[0] else .tuple us.toArray
theorem exD_one (h : Inv G N Sin w0 σ a w S m) {u : Value} {x : W} {d : D} (hv : RW m S w u x) (e : toW σ.h x = some d) : ResW (Shat σ.h m S) w w0.heap.size u (.c (.d d)) [] := by
  have := toW_ok h (T := Shat σ.h m S) (fun _ _ h => .inl h) (fun id _ o b s i h1 h2 => .inr ⟨id, o, s, h1, h2⟩) hv e
  cases d with
  | agg cs => exact ⟨this, rfl⟩
  | _ => exact ⟨this, rfl⟩
theorem exD_all (h : Inv G N Sin w0 σ a w S m) : ∀ {us : List Value} {ws rs : List W}, All2 (RW m S w) us ws → All2 (fun x z => ∃ d, z = .c (.d d) ∧ toW σ.h x = some d) ws rs → ResWs (Shat σ.h m S) w w0.heap.size us rs []
  | _, _, _, .nil, .nil => .nil
  | _, _, _, .cons h1 h2, .cons k1 k2 => by
    obtain ⟨d, rfl, e⟩ := k1
    exact .cons (b1 := []) (b2 := []) (exD_one h h1 e) (exD_all h h2 k2)
theorem ret_ok (h : Inv G N Sin w0 σ a w S m) (hx : ∀ b, ¬ w0.ext b) {us : List Value} {ws : List W} {res : V} (hv : All2 (RW m S w) us ws) (he : ((ws.flatMap W.ids).Nodup ∧ exV σ.h ws res) ∨ exDs σ.h ws res) :
    ∃ S' bl, (∀ b i, S' b i → (Sin b i ∨ w0.heap.size ≤ b) ∧ b < w.heap.size) ∧ bl.Nodup ∧ ResV S' w w0.heap.size (oneOr us) res bl := by
  have sin : ∀ b i, S b i → (Sin b i ∨ w0.heap.size ≤ b) ∧ b < w.heap.size := fun b i hs => ⟨(h.sin b i hs).2.imp id fun k => k.resolve_right (hx b), (h.sin b i hs).1⟩
  have shat : ∀ b i, Shat σ.h m S b i → (Sin b i ∨ w0.heap.size ≤ b) ∧ b < w.heap.size := by
    rintro b i (hs | ⟨id, ob, s, ho, hm⟩)
    · exact sin b i hs
    · have hk := (h.obj id ob ho).1
      refine ⟨.inr ?_, hk.lt hm⟩
      unfold ObjOk at hk
      rw [hm] at hk
      exact hk.2.1.resolve_right (hx _)
  rcases he with ⟨hn, he⟩ | he
  · unfold exV at he
    split at he
    · rename_i x y
      cases hv with
      | cons h1 h2 =>
        cases h2
        have hids : x.ids.Nodup := by simpa using hn
        obtain ⟨bl, k1, k2⟩ := exW_ok h hx h1 he hids
        exact ⟨S, bl, sin, k2.1, k1⟩
    · rename_i x y r ws'
      have hl := hv.length
      obtain ⟨bl, k1, k2⟩ := exWs_ok h hx hv he hn
      refine ⟨S, bl, sin, k2.1, us, ?_, k1⟩
      unfold oneOr
      rw [dif_neg (by simp at hl ⊢; omega)]
    · subst he
      cases hv
      exact ⟨S, [], sin, .nil, [], rfl, .nil⟩
    · exact he.elim
  · unfold exDs at he
    split at he
    · rename_i x d
      cases hv with
      | cons h1 h2 =>
        cases h2
        exact ⟨_, [], shat, .nil, exD_one h h1 he⟩
    · rename_i x y r ws'
      have hl := hv.length
      refine ⟨_, [], shat, .nil, us, ?_, exD_all h hv he⟩
      unfold oneOr
      rw [dif_neg (by simp at hl ⊢; omega)]
    · exact he.elim

theorem sameTurn (h : Inv G N Sin w0 σ a w S m) (hwo : w0.wo.heap.size ≤ w0.heap.size) {D : Nat} (hB : w0.heap.size ≤ D) (hD : w.heap[D]? = some (.deferred (some []))) : Inv G N Sin w0 σ { a with defers := [] } (w.putObj D (.deferred none)) S m :=
  h.turn (w1 := w0) (SameCells.put hD rfl) (grownBy_putObj' _ _ _).size rfl (h.below.trans (Bel.of (below_put _ hB hD))) rfl (fun t => .inr rfl) trivial (KeepsBut.old h.oth (KeepsBut.put _ _ _) (Nat.le_trans hwo hB)) (h.kso.trans ((SameCells.put hD rfl).keeps _)) h.sso h.fix
/-- The marks are taken off. -/
theorem leave_marks {F : Fence} {n : Nat} {fn : Func} {R : Ending → World → Prop} : ∀ {ds : List Deferred} {a : Act} {w : World}, Inv G N Sin w0 σ a w S m → w0.wo.heap.size ≤ w0.heap.size → DefOk w0.heap.size w ds → (∀ (w' : World) (a' : Act), a'.tmps = a.tmps → Inv G N Sin w0 σ a' w' S m → ∃ v, (results fn a.tmps).run P w' = .ok v w' ∧ R (.returned v) w') → LeavesInM F n P fn a.tmps R ds .returning w
  | [], a, w, h, _, _, k => k w a rfl h
  | d :: ds, a, w, h, hwo, ⟨⟨D, h1, h2, h3, h4⟩, h5⟩, k => by
    refine ⟨by simp, .inl ⟨D, _, by rw [h1], run_takeDeferred h3, ?_⟩⟩
    have hd : DefOk w0.heap.size (w.putObj D (.deferred none)) ds := by
      have key : ∀ {ds : List Deferred}, DefOk w0.heap.size w ds → (∀ d' ∈ ds, d'.target ≠ .collected D) → DefOk w0.heap.size (w.putObj D (.deferred none)) ds := by
        intro ds
        induction ds with
        | nil => intro _ _; trivial
        | cons d ds ih =>
          rintro ⟨⟨D', g1, g2, g3, g4⟩, g5⟩ hne
          refine ⟨⟨D', g1, g2, ?_, g4⟩, ih g5 fun d' hd' => hne d' (by simp [hd'])⟩
          refine (World.putObj_heap_other fun e => ?_).trans g3
          exact hne d (by simp) (by rw [g1, e])
      exact key h5 h4
    have := sameTurn h hwo h2 h3
    exact leave_marks (a := { a with defers := [] }) this hwo hd fun w' a' e2 hi => k w' a' e2 hi

/-- A function's contract, from its code on data. -/
theorem den_of {f : FuncId} {fn : Func} {sf : SFn} (hf : P.funcs[f]? = some fn) (hc : compFn P H fn = some sf) {args : List D} {res : V} (hlen : args.length = sf.np)
    (e : awp P G sf.body (fun ax σ => match ax with | .nrm => RetOk σ sf.res res | .ret => RetOk σ sf.res res | .ex _ => False) (entry args)) : Den P G f args res := by
  unfold compFn at hc
  split at hc
  · rename_i c hb
    split at hc
    · rename_i body rs hbody hres
      split at hc
      · rename_i hnp
        cases hc
        intro w S vs hS hG hargs
        refine (callsIn_wide (n := 3)).1 (callsIn_of_wp_marks (F := Fence.wide) hf hb trivial ?_)
        have hvl : vs.length = args.length := hargs.length
        have hnp' : vs.length ≤ fn.ntmps := by simp only at hlen; omega
        have hsize : (vs.toArray ++ Array.replicate (fn.ntmps - vs.toArray.size) undef).size = fn.ntmps := by simp; omega
        have hinv : Inv G fn.ntmps S (Gh.of w) (entry args) { tmps := vs.toArray ++ Array.replicate (fn.ntmps - vs.toArray.size) undef, defers := [] } w S (fun _ => none) := by
          refine ⟨hsize, trivial, fun t => ?_, fun t i hi => ?_, fun id o ho => (by cases ho), fun i j b s s' h1 => absurd rfl h1, fun b i hs => ⟨hS b i hs, .inl hs⟩, fun _ _ h => h, hG, Bel.refl _ _ _, KeepsOthers.refl _, Keeps.refl _ _, fun _ _ h => h.elim, fun t v h => by cases h⟩
          · simp only [entry]
            cases ht : args[t]? with
            | none => trivial
            | some x =>
              obtain ⟨v, h1, h2⟩ := hargs.get? ht
              have hlt := (List.getElem?_eq_some_iff.1 h1).1
              have : (vs.toArray ++ Array.replicate (fn.ntmps - vs.toArray.size) undef).getD t undef = v := by
                rw [Array.getD_eq_getD_getElem?, Array.getElem?_append_left (by simpa using hlt)]
                simp [h1]
              rw [this]
              exact h2
          · simp only [entry] at hi
            split at hi <;> cases hi
        refine code_sound c hbody (r := none) (fun _ => rfl) (fun t _ => rfl) ?_ hinv e
        intro ax σ a w1 S1 m q h
        have key : RetOk σ rs res → LeavesInM Fence.wide 3 P fn a.tmps (fun e w' => ∃ v S' bl, e = .returned v ∧ Below w.heap.size w w' ∧ (∀ b i, S' b i → (S b i ∨ w.heap.size ≤ b) ∧ b < w'.heap.size) ∧ bl.Nodup ∧ ResV S' w' w.heap.size v res bl) a.defers .returning w1 := by
          rintro ⟨ws, hws, hex⟩
          refine leave_marks h (Nat.le_refl _) h.defers fun w2 a' e2 h => ?_
          rw [← e2]
          obtain ⟨us, h1, h2, h3⟩ := res_all h hres hws
          obtain ⟨S', bl, k1, k2, k3⟩ := ret_ok h (fun _ hx => hx) h2 hex
          have hbel : Below w.heap.size w w2 := h.below.below fun _ _ hx => hx
          refine ⟨oneOr us, ?_, _, S', bl, rfl, hbel, k1, k2, k3⟩
          rw [results_run]
          simp [Array.mapM_eq_mapM_toList, h1, oneOr]
        cases ax with
        | nrm => exact key q
        | ret => exact key q
        | ex _ => exact q.elim
      · cases hc
    · cases hc
  · cases hc
/-! ### Functions that change variables of the caller's -/
def vOf : List W → V | [x] => .w x | ws => .tup ws
def entryM (args : List W) (h0 : Heap) (L : List Nat) : St := ⟨fun t => match args[t]? with | some x => .w x | none => .undef, h0, fun i => L.contains i⟩
/-- The variables that a value points to. -/
def W.lnk : W → List Nat
  | .c (.ptr id ..) => [id]
  | .c (.pa id _) => [id]
  | .c (.cf _ a b) => a.flatMap Cp.ids ++ b.flatMap Cp.ids
  | _ => []
theorem cp_lnk {m m1 : Mp} {S S1 : Cells} {w w1 : World} {g : Nat → Nat} {us : List Value} {l : List Cp} (h : All2 (RCp m S w) us l) : ∀ {l' : List Cp}, l' = l.map (Cp.ren g) → All2 (RCp m1 S1 w1) us l' → ∀ id ∈ l.flatMap Cp.ids, m1 (g id) = m id := by
  induction h with
  | nil => intro l' _ _ id hi; cases hi
  | cons h1 _ ih =>
    rename_i a b as bs h2
    intro l' e h' id hi
    rw [List.map_cons] at e
    subst e
    cases h' with
    | cons k1 k2 =>
    rw [List.flatMap_cons, List.mem_append] at hi
    rcases hi with hi | hi
    · cases b with
      | d x => cases hi
      | p i sz j o =>
        obtain rfl : id = i := by simpa [Cp.ids] using hi
        obtain ⟨b1, q1, q2⟩ : ∃ b, m id = some (b, sz) ∧ a = .pointer (some ⟨b, j * sz + o, none⟩) := h1
        obtain ⟨b2, q3, q4⟩ : ∃ b, m1 (g id) = some (b, sz) ∧ a = .pointer (some ⟨b, j * sz + o, none⟩) := k1
        rw [q2] at q4
        obtain rfl : b1 = b2 := by simpa using q4
        rw [q1, q3]
    · exact ih rfl k2 id hi
theorem w_lnk {m m1 : Mp} {S S1 : Cells} {w w1 : World} {g : Nat → Nat} {v : Value} {x : W} (h : RW m S w v x) (h' : RW m1 S1 w1 v (x.ren g)) : ∀ id ∈ x.lnk, m1 (g id) = m id := by
  intro id hi
  unfold W.lnk at hi
  split at hi
  · rename_i i sz j o
    obtain rfl : id = i := by simpa using hi
    obtain ⟨b1, q1, q2⟩ : ∃ b, m id = some (b, sz) ∧ v = .pointer (some ⟨b, j * sz + o, none⟩) := h
    obtain ⟨b2, q3, q4⟩ : ∃ b, m1 (g id) = some (b, sz) ∧ v = .pointer (some ⟨b, j * sz + o, none⟩) := h'
    rw [q2] at q4
    obtain rfl : b1 = b2 := by simpa using q4
    rw [q1, q3]
  · rename_i i sz
    obtain rfl : id = i := by simpa using hi
    obtain ⟨b1, q1, q2⟩ : ∃ b, m id = some (b, sz) ∧ v = .pointer (some ⟨b, 0, none⟩) := h
    obtain ⟨b2, q3, q4⟩ : ∃ b, m1 (g id) = some (b, sz) ∧ v = .pointer (some ⟨b, 0, none⟩) := h'
    rw [q2] at q4
    obtain rfl : b1 = b2 := by simpa using q4
    rw [q1, q3]
  · rename_i f a b
    obtain ⟨us, vs, q1, q2, q3⟩ : ∃ us vs : List Value, v = .func (.func f) us.toArray vs.toArray ∧ All2 (RCp m S w) us a ∧ All2 (RCp m S w) vs b := h
    obtain ⟨us', vs', q4, q5, q6⟩ : ∃ us vs : List Value, v = .func (.func f) us.toArray vs.toArray ∧ All2 (RCp m1 S1 w1) us (a.map (Cp.ren g)) ∧ All2 (RCp m1 S1 w1) vs (b.map (Cp.ren g)) := h'
    rw [q1] at q4
    obtain ⟨rfl, rfl⟩ : us = us' ∧ vs = vs' := by simpa using q4
    rcases List.mem_append.1 hi with hi | hi
    · exact cp_lnk q2 rfl q5 id hi
    · exact cp_lnk q3 rfl q6 id hi
  · cases hi
/-- The end: the variables, by the names that the contract gives them (renamed by g); those that were handed over are known by slots that nothing writes. -/
def RetM (σ : St) (l : List (Nat × Option Kd)) (lk : List Nat) (args : List W) (L : List Nat) (res : V) (h1 : Heap) (L1 : List Nat) : Prop :=
  ∃ ws, allSome (resW σ) l = some ws ∧ ∃ g : Nat → Nat, vOf ws = res.ren g ∧ (∀ id o, h1 id = some o → σ.h (g id) = some (o.ren g)) ∧ (∀ i j, h1 i ≠ none → h1 j ≠ none → g i = g j → i = j) ∧
    ∀ id ∈ L, id ∈ L1 → ∃ t ∈ lk, ∃ x, args[t]? = some x ∧ id ∈ x.lnk ∧ σ.f t = .w (x.ren g)
def PureM (args : List W) (h0 : Heap) (L : List Nat) (res : V) (h1 : Heap) (L1 : List Nat) : Prop :=
  (∀ id o, h0 id = some o → id ∈ L ∧ ∀ j ∈ o.ids, j ∈ L) ∧ (∀ id ∈ L, h0 id ≠ none) ∧ (∀ x ∈ args, ∀ i ∈ x.ids, i ∈ L) ∧ (∀ id o, h1 id = some o → id ∈ L1 ∧ ∀ j ∈ o.ids, j ∈ L1) ∧ ∀ i ∈ res.ids, i ∈ L1
theorem vOf_ok {us : List Value} {ws : List W} (h : All2 (RW m S w) us ws) : RV m S w (oneOr us) (vOf ws) := by
  cases h with
  | nil => exact ⟨[], rfl, .nil⟩
  | cons h1 h2 =>
    cases h2 with
    | nil => exact h1
    | cons h2 h3 => exact ⟨_, by unfold oneOr; rw [dif_neg (by simp)], .cons h1 (.cons h2 h3)⟩
theorem denM_of {f : FuncId} {fn : Func} {sf : SFn} (hf : P.funcs[f]? = some fn) (hc : compFn P H fn = some sf) {args : List W} {h0 h1 : Heap} {L L1 lk : List Nat} {res : V} (hlen : args.length = sf.np) (hlk : lk.all (fun t => !sf.body.writes.contains t) = true) (hp : PureM args h0 L res h1 L1)
    {Q' : AX → St → Prop} (hq : ∀ ax σ, Q' ax σ → (∀ id, ax ≠ .ex id) ∧ RetM σ sf.res lk args L res h1 L1) (e : awp P G sf.body Q' (entryM args h0 L)) : DenM P G f args h0 L res h1 L1 := by
  refine ⟨hp, ?_⟩
  obtain ⟨p1, p2, p3, p4, p5⟩ := hp
  unfold compFn at hc
  split at hc
  · rename_i c hb
    split at hc
    · rename_i body rs hbody hres
      split at hc
      · rename_i hnp
        cases hc
        intro w S vs m hS hG hobj hinj hargs
        refine (callsIn_wide (n := 3)).1 (callsIn_of_wp_marks (F := Fence.wide) hf hb trivial ?_)
        have hvl : vs.length = args.length := hargs.length
        have hnp' : vs.length ≤ fn.ntmps := by simp only at hlen; omega
        have hsize : (vs.toArray ++ Array.replicate (fn.ntmps - vs.toArray.size) undef).size = fn.ntmps := by simp; omega
        have hget : ∀ t v, vs[t]? = some v → (vs.toArray ++ Array.replicate (fn.ntmps - vs.toArray.size) undef).getD t undef = v := by
          intro t v h1
          have hlt := (List.getElem?_eq_some_iff.1 h1).1
          rw [Array.getD_eq_getD_getElem?, Array.getElem?_append_left (by simpa using hlt)]
          simp [h1]
        obtain ⟨w0, hw0⟩ : ∃ w0 : Gh, w0 = { w with wo := w, so := S, fx := fun t => if body.writes.contains t then none else vs[t]?, ext := HeapBl h0 m } := ⟨_, rfl⟩
        have hinv : Inv G fn.ntmps S w0 (entryM args h0 L) { tmps := vs.toArray ++ Array.replicate (fn.ntmps - vs.toArray.size) undef, defers := [] } w S m := by
          subst hw0
          refine ⟨hsize, trivial, fun t => ?_, fun t i hi => ?_, fun id o ho => ⟨?_, ?_, fun j hj => ?_⟩, hinj, fun b i hs => ⟨hS b i hs, .inl hs⟩, fun _ _ h => h, hG, Bel.refl _ _ _, KeepsOthers.refl _, Keeps.refl _ _, fun _ _ h => h, fun t v h => ?_⟩
          · simp only [entryM]
            cases ht : args[t]? with
            | none => trivial
            | some x =>
              obtain ⟨v, h1, h2⟩ := hargs.get? ht
              rw [hget t v h1]
              exact h2
          · simp only [entryM] at hi ⊢
            split at hi
            · rename_i x hx
              simpa using p3 x (List.mem_of_getElem? hx) i hi
            · cases hi
          · have hk := hobj id o ho
            unfold ObjOk at hk ⊢
            split at hk
            · exact hk
            · rename_i b s hm
              exact ⟨hk.1, .inr ⟨id, o, s, ho, hm⟩, hk.2.2⟩
          · simpa [entryM] using (p1 id o ho).1
          · simpa [entryM] using (p1 id o ho).2 j hj
          · simp only at h
            split at h
            · cases h
            · exact hget t v h
        refine code_sound c hbody (r := none) (fun _ => rfl) (fun t ht => ?_) ?_ hinv e
        · subst hw0
          simp only
          rw [if_pos (by simpa using ht)]
        intro ax σ a w1 S1 m1 q h
        have key : RetM σ rs lk args L res h1 L1 → LeavesInM Fence.wide 3 P fn a.tmps (fun e w' => ∃ v S' m', e = .returned v ∧ Bel w.heap.size (HeapBl h0 m) w w' ∧ KeepsOthers w w' ∧ Keeps S w w' ∧ (∀ b i, S b i → S' b i) ∧ (∀ b i, S' b i → b < w'.heap.size ∧ (S b i ∨ w.heap.size ≤ b ∨ HeapBl h0 m b)) ∧
            (∀ i ∈ L, i ∈ L1 → m' i = m i) ∧ (∀ id o, h1 id = some o → ObjOk m' S' (fun b => w.heap.size ≤ b ∨ HeapBl h0 m b) w' id o) ∧
            (∀ i j b s s', h1 i ≠ none → h1 j ≠ none → m' i = some (b, s) → m' j = some (b, s') → i = j) ∧ RV m' S' w' v res) a.defers .returning w1 := by
          rintro ⟨ws, hws, g, hv, hh, hgi, hl⟩
          refine leave_marks h (by subst hw0; exact Nat.le_refl _) h.defers fun w2 a' e2 h => ?_
          rw [← e2]
          obtain ⟨us, h1', h2, h3⟩ := res_all h hres hws
          refine ⟨oneOr us, ?_, oneOr us, S1, fun i => m1 (g i), rfl, ?_, ?_, ?_, ?_, ?_, ?_, ?_, ?_, ?_⟩
          · rw [results_run]
            simp [Array.mapM_eq_mapM_toList, h1', oneOr]
          · subst hw0; exact h.below
          · subst hw0; exact h.oth
          · subst hw0; exact h.kso
          · exact h.sub
          · subst hw0; exact h.sin
          · intro id hid hid1
            obtain ⟨t, htl, x, ha, hx, hs⟩ := hl id hid hid1
            obtain ⟨v, k1, k2⟩ := hargs.get? ha
            have k5 := h.slot t
            rw [hs] at k5
            have hnw := List.all_eq_true.1 hlk t htl
            have k8 : a'.tmps.getD t undef = v := h.fix t v (by
              subst hw0
              simp only
              rw [if_neg (by simpa using hnw)]
              exact k1)
            rw [k8] at k5
            exact w_lnk k2 k5 id hx
          · intro id o ho
            have := (h.obj _ _ (hh id o ho)).1.ren
            subst hw0
            exact this
          · intro i j b s s' hi hj e1 e2
            obtain ⟨oi, hi'⟩ := Option.ne_none_iff_exists'.1 hi
            obtain ⟨oj, hj'⟩ := Option.ne_none_iff_exists'.1 hj
            exact hgi i j hi hj (h.inj (g i) (g j) b s s' (by rw [hh i oi hi']; simp) (by rw [hh j oj hj']; simp) e1 e2)
          · refine RV.ren (g := g) ?_
            rw [← hv]
            exact vOf_ok h2
        have q := hq ax σ q
        cases ax with
        | nrm => exact key q.2
        | ret => exact key q.2
        | ex i => exact absurd rfl (q.1 i)
      · cases hc
    · cases hc
  · cases hc
end
end Go.Proofs.Ytldcgjhfaledfaa
