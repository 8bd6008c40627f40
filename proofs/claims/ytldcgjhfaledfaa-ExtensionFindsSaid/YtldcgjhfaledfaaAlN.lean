/- The plain logic (14): every operation does in memory what it does to the data. Own work. -/
import Derived.Test.YtldcgjhfaledfaaAlM
set_option linter.unusedVariables false
set_option linter.unusedSimpArgs false
namespace Go.Proofs.Ytldcgjhfaledfaa
open Go.RowKit

section
variable {P : Program} {G : Glob} {N : Nat} {Sin : Cells} {w0 : Gh} {σ : St} {a : Act} {w : World} {S : Cells} {m : Mp} {o : Oper} {K : St → Prop} {Q : Exit → Act → World → Prop}

theorem run_callF {f : FuncId} {fn : Func} (hf : P.funcs[f]? = some fn) (hb : fn.body.isSome = true) (hn : (fn.name == "runtime.NumGoroutine") = false) (c : Call) (ho : o.op = .call c) (hc : c.callee = .value (.func f)) : (execOp a.eval o).run P w = .ok (.enter f (c.args.map a.eval)) w := by
  obtain ⟨dst, op, type, pos, after, guard⟩ := o
  obtain ⟨callee, args, argTypes⟩ := c
  simp only at ho hc
  subst ho hc
  have hbn : fn.body.isNone = false := by cases h : fn.body <;> simp [h] at hb ⊢
  rw [execOp_call_go]
  have hbn2 : ¬ fn.body = none := fun e => by simp [e] at hb
  have hn2 : ¬ fn.name = "runtime.NumGoroutine" := by simpa using hn
  simp [callFunc, go_sem, hf, hn2, hbn2]
/-- What holds behind a call of a contract. -/
def DenPost (S : Cells) (w : World) (res : V) (e : Ending) (w' : World) : Prop := ∃ v S' bl, e = .returned v ∧ Below w.heap.size w w' ∧ (∀ b i, S' b i → (S b i ∨ w.heap.size ≤ b) ∧ b < w'.heap.size) ∧ bl.Nodup ∧ ResV S' w' w.heap.size v res bl
theorem DenPost.of_flat {S T : Cells} {res : V} (hf : res.flat = true) {e : Ending} {w' : World} (h : DenPost T w res e w') : DenPost S w res e w' := by
  obtain ⟨v, S', bl, rfl, hbel, hS', hnd, hres⟩ := h
  exact ⟨v, fun b i => S' b i ∧ w.heap.size ≤ b, bl, rfl, hbel, fun b i hs => ⟨.inr hs.2, (hS' b i hs.1).2⟩, hnd, resV_flat (fun _ _ hs => hs.1) hf hres⟩
theorem DenPost.of_byt {S T : Cells} {res : V} (hf : res.byt = true) (hlt : ∀ b i, T b i → b < w.heap.size) (hT : ∀ b i, T b i → S b i ∨ ∀ n, w.cell? ⟨b, i, none⟩ ≠ some (.int .u8 n)) {e : Ending} {w' : World} (h : DenPost T w res e w') : DenPost S w res e w' := by
  obtain ⟨v, S', bl, rfl, hbel, hS', hnd, hres⟩ := h
  refine ⟨v, fun b i => S' b i ∧ (S b i ∨ w.heap.size ≤ b), bl, rfl, hbel, fun b i hs => ⟨hs.2, (hS' b i hs.1).2⟩, hnd, resV_byt (fun _ _ hs => hs.1) (fun b i n hs hc => ⟨hs, ?_⟩) hf hres⟩
  rcases (hS' b i hs).1 with ht | hge
  · rcases hT b i ht with h1 | h1
    · exact .inl h1
    · exact absurd ((hbel.cell (p := ⟨b, i, none⟩) (hlt b i ht)).symm.trans hc) (h1 n)
  · exact .inr hge
theorem snd_enter {f : FuncId} {args : List Value} (hrun : (execOp a.eval o).run P w = .ok (.enter f args.toArray) w) (own : Option (Nat × Nat))
    (h : Inv G N Sin w0 σ a w S m) (hd : ∀ t, o.dst = some t → t < N ∧ w0.fx t = none) {res : V} (hc : Calls P f args.toArray w (DenPost S w res)) {r : R} (hr : impV σ.h σ.u (o.dst.getD 0) own res = some r) (hK : K (σ.put o.dst r)) : o.wp P a w (Nx G N Sin w0 K) Q := by
  unfold Oper.wp
  rw [hrun]
  show Calls P f args.toArray w _
  refine hc.mono ?_
  rintro e w' ⟨v, S', bl, rfl, hbel, hS', hnd, hres⟩
  exact take_ok h hd hbel hS' hnd hres hr hK
/-- The arguments, and by which cells they are read. -/
theorem args_ok (h : Inv G N Sin w0 σ a w S m) {xs : List Operand} {ys : List SX} {ds : List D} (hxs : allSome compX xs = some ys) (h1 : toVs σ.h (ys.map (ev G σ.f)) = some ds) {res : V} (h3 : OwnOk σ.h (ys.map (ev G σ.f)) res) :
    ∃ T : Cells, (∀ b i, T b i → b < w.heap.size) ∧ GlobOk G T w ∧ All2 (fun v x => RW (fun _ => none) T w v (.c (.d x))) (xs.map a.eval) ds ∧ ∀ (f : FuncId) (vs : List Value), Calls P f vs.toArray w (DenPost T w res) → Calls P f vs.toArray w (DenPost S w res) := by
  by_cases hown : (ys.map (ev G σ.f)).any V.hasOwn = true
  · rcases h3 hown with hf | ⟨hb, ds', h1', h4⟩
    · refine ⟨Shat σ.h m S, fun b i hs => ?_, h.glob.step (Keeps.refl _ _) fun _ _ hs => .inl hs, toVs_ok h hxs h1, fun f vs hc => hc.mono fun _ _ hp => hp.of_flat hf⟩
      rcases hs with hs | ⟨id, ob, s, ho, hm⟩
      · exact (h.sin b i hs).1
      · exact (h.obj id ob ho).1.lt hm
    · rw [h1, Option.some.injEq] at h1'
      subst h1'
      refine ⟨Shot σ.h m S w, Shot.lt h, h.glob.step (Keeps.refl _ _) fun _ _ hs => .inl hs, toVs_okB h hxs h1 h4, fun f vs hc => hc.mono fun _ _ hp => hp.of_byt hb (Shot.lt h) fun b i ht => ?_⟩
      rcases ht with ht | ⟨_, ht⟩
      · exact .inl ht
      · exact .inr ht
  · exact ⟨S, fun b i hs => (h.sin b i hs).1, h.glob, toVs_ok0 h hxs h1 (by simpa using hown), fun f vs hc => hc⟩
theorem argsW_ok (h : Inv G N Sin w0 σ a w S m) : ∀ {xs : List Operand} {ys : List SX} {ws : List W}, allSome compX xs = some ys → ys.map (ev G σ.f) = ws.map V.w → (∀ x ∈ ws, x.isPure = true) → All2 (fun v x => RW (fun _ => none) S w v x) (xs.map a.eval) ws
  | [], ys, ws, h1, h2, _ => by
    simp only [allSome, Option.some.injEq] at h1
    subst h1
    cases ws with
    | nil => exact .nil
    | cons x r => cases h2
  | x :: xs, ys, ws, h1, h2, h3 => by
    simp only [allSome] at h1
    split at h1
    · rename_i y ys' hx hxs
      cases h1
      cases ws with
      | nil => cases h2
      | cons z r =>
        simp only [List.map_cons, List.cons.injEq] at h2
        refine .cons ?_ (argsW_ok h hxs h2.2 fun x hx => h3 x (List.mem_cons_of_mem _ hx))
        have hv := (h.operand hx).1
        rw [h2.1] at hv
        have hp := h3 z List.mem_cons_self
        refine RW.congr (m := m) hv fun i hi => ?_
        cases z with
        | c c => cases c <;> first | (simp [W.isPure, C.isPure] at hp; done) | cases hi
        | mix cs => simp [W.isPure] at hp
    · cases h1
theorem toArr (l : Array Operand) : l.map a.eval = (l.toList.map a.eval).toArray := by apply Array.ext'; simp
theorem snd_call {f : FuncId} {fn : Func} (hf : P.funcs[f]? = some fn) (hb : fn.body.isSome = true) (hn : (fn.name == "runtime.NumGoroutine") = false) (hne : f ≠ dynF) (c : Call) (ho : o.op = .call c) (hc : c.callee = .value (.func f)) {xs : List SX} (hxs : allSome compX c.args.toList = some xs) (own : Option (Nat × Nat))
    (h : Inv G N Sin w0 σ a w S m) (hd : ∀ t, o.dst = some t → t < N ∧ w0.fx t = none) {res : V} (h2 : CallOk P G σ.h f (xs.map (ev G σ.f)) res) (h3 : OwnOk σ.h (xs.map (ev G σ.f)) res) {r : R} (hr : impV σ.h σ.u (o.dst.getD 0) own res = some r) (hK : K (σ.put o.dst r)) : o.wp P a w (Nx G N Sin w0 K) Q := by
  refine snd_enter (f := f) (args := c.args.toList.map a.eval) (by rw [run_callF hf hb hn c ho hc, toArr]) own h hd (res := res) ?_ hr hK
  rcases h2 with ⟨_, ds, h1, h2⟩ | ⟨e, _⟩ | ⟨_, ws, h1, h4, h2⟩
  · obtain ⟨T, t1, t2, t3, t4⟩ := args_ok (P := P) h hxs h1 h3
    exact t4 _ _ (h2 w T _ t1 t2 t3)
  · exact absurd e hne
  · exact h2 w S _ (fun b i hs => (h.sin b i hs).1) h.glob (argsW_ok h hxs h1 h4)
theorem run_callV {x : Operand} {g : FuncId} {caps : List Value} (he : ∀ (args : Array Value) (w : World), (callFunc g args).run P w = .ok (.enter g args) w) (c : Call) (ho : o.op = .call c) (hc : c.callee = .value x) (hx : a.eval x = .func (.func g) #[] caps.toArray) : (execOp a.eval o).run P w = .ok (.enter g (c.args.toList.map a.eval ++ caps).toArray) w := by
  obtain ⟨dst, op, type, pos, after, guard⟩ := o
  obtain ⟨callee, args, argTypes⟩ := c
  simp only at ho hc
  subst ho hc
  have e1 : execOp a.eval { dst, op := .call { callee := .value x, args, argTypes }, type, pos, after, guard } = (do let d ← Deferred.ofValue (a.eval x) (args.map a.eval); invoke d.target d.args) := rfl
  have e2 : args.map a.eval ++ caps.toArray = (args.toList.map a.eval ++ caps).toArray := by apply Array.ext'; simp
  rw [e1, hx]
  show (callFunc g (#[] ++ args.map a.eval ++ caps.toArray)).run P w = _
  rw [he, Array.empty_append, e2]
theorem snd_callV {x : Operand} (c : Call) (ho : o.op = .call c) (hc : c.callee = .value x) {xs : List SX} (hxs : allSome compX (x :: c.args.toList) = some xs) (own : Option (Nat × Nat))
    (h : Inv G N Sin w0 σ a w S m) (hd : ∀ t, o.dst = some t → t < N ∧ w0.fx t = none) {res : V} (h2 : CallOk P G σ.h dynF (xs.map (ev G σ.f)) res) (h3 : OwnOk σ.h (xs.map (ev G σ.f)) res) {r : R} (hr : impV σ.h σ.u (o.dst.getD 0) own res = some r) (hK : K (σ.put o.dst r)) : o.wp P a w (Nx G N Sin w0 K) Q := by
  rcases h2 with ⟨e, _⟩ | ⟨_, g, caps, ds, h1, he, h2⟩ | ⟨e, _⟩
  · exact absurd rfl e
  · obtain ⟨T, t1, t2, t3, t4⟩ := args_ok (P := P) h hxs h1 h3
    rw [List.map_cons] at t3
    cases t3 with
    | cons k1 k2 =>
      have k1' : Reads T w (a.eval x) (.fn g caps) := k1
      obtain ⟨us, hx, hu⟩ : ∃ us : List Value, a.eval x = .func (.func g) #[] us.toArray ∧ All2 (fun v x => RW (fun _ => none) T w v (.c (.d x))) us caps := by
        generalize a.eval x = v0 at k1'
        cases k1' with
        | fn _ vs _ u hl hv hr =>
          refine ⟨vs, rfl, .mk hl fun i i1 i2 => ?_⟩
          have hi := hv i i1
          rw [List.getElem?_eq_getElem i1, Option.some.injEq] at hi
          have := hr i i2
          rw [← hi] at this
          exact this.rw
      exact snd_enter (run_callV he c ho hc hx) own h hd (t4 _ _ (h2 w T _ t1 t2 (k2.append hu))) hr hK
  · exact absurd rfl e

/-! ### Calls that change variables of the function's own -/
theorem argsM_ok (h : Inv G N Sin w0 σ a w S m) : ∀ {xs : List Operand} {ys : List SX} {ws : List W}, allSome compX xs = some ys → ys.map (ev G σ.f) = ws.map V.w → All2 (fun v x => RW m S w v x) (xs.map a.eval) ws
  | [], ys, ws, h1, h2 => by
    simp only [allSome, Option.some.injEq] at h1
    subst h1
    cases ws with
    | nil => exact .nil
    | cons x r => cases h2
  | x :: xs, ys, ws, h1, h2 => by
    simp only [allSome] at h1
    split at h1
    · rename_i y ys' hx hxs
      cases h1
      cases ws with
      | nil => cases h2
      | cons z r =>
        simp only [List.map_cons, List.cons.injEq] at h2
        refine .cons ?_ (argsM_ok h hxs h2.2)
        have hv := (h.operand hx).1
        rw [h2.1] at hv
        exact hv
    · cases h1
theorem snd_enterM {f : FuncId} {args : List Value} (hrun : (execOp a.eval o).run P w = .ok (.enter f args.toArray) w) (h : Inv G N Sin w0 σ a w S m) (hd : ∀ t, o.dst = some t → t < N ∧ w0.fx t = none) {xs : List W} (hvs : All2 (fun v x => RW m S w v x) args xs) {r : R} (hr : GoM P G σ.h σ.u f xs r) (hK : K (σ.put o.dst r)) : o.wp P a w (Nx G N Sin w0 K) Q := by
  unfold Oper.wp
  rw [hrun]
  show Calls P f args.toArray w _
  refine (goM_ok h hd hvs hr hK).mono ?_
  rintro e w' ⟨v, rfl, hn⟩
  exact hn
theorem run_callMV {x : Operand} {g : FuncId} {fst caps : List Value} (he : ∀ (args : Array Value) (w : World), (callFunc g args).run P w = .ok (.enter g args) w) (c : Call) (ho : o.op = .call c) (hc : c.callee = .value x) (hx : a.eval x = .func (.func g) fst.toArray caps.toArray) : (execOp a.eval o).run P w = .ok (.enter g (fst ++ c.args.toList.map a.eval ++ caps).toArray) w := by
  obtain ⟨dst, op, type, pos, after, guard⟩ := o
  obtain ⟨callee, args, argTypes⟩ := c
  simp only at ho hc
  subst ho hc
  have e1 : execOp a.eval { dst, op := .call { callee := .value x, args, argTypes }, type, pos, after, guard } = (do let d ← Deferred.ofValue (a.eval x) (args.map a.eval); invoke d.target d.args) := rfl
  have e2 : fst.toArray ++ args.map a.eval ++ caps.toArray = (fst ++ args.toList.map a.eval ++ caps).toArray := by apply Array.ext'; simp
  rw [e1, hx]
  show (callFunc g (fst.toArray ++ args.map a.eval ++ caps.toArray)).run P w = _
  rw [he, e2]
theorem snd_callM {f : FuncId} {fn : Func} (hf : P.funcs[f]? = some fn) (hb : fn.body.isSome = true) (hn : (fn.name == "runtime.NumGoroutine") = false) (hne : f ≠ dynF) (c : Call) (ho : o.op = .call c) (hc : c.callee = .value (.func f)) {xs : List SX} (hxs : allSome compX c.args.toList = some xs)
    (h : Inv G N Sin w0 σ a w S m) (hd : ∀ t, o.dst = some t → t < N ∧ w0.fx t = none) {r : R} (h2 : CallM P G σ.h σ.u f (xs.map (ev G σ.f)) r) (hK : K (σ.put o.dst r)) : o.wp P a w (Nx G N Sin w0 K) Q := by
  rcases h2 with ⟨_, ws, h1, h2⟩ | ⟨e, _⟩
  · exact snd_enterM (args := c.args.toList.map a.eval) (by rw [run_callF hf hb hn c ho hc, toArr]) h hd (argsM_ok h hxs h1) h2 hK
  · exact absurd e hne
theorem rcps_w {vs : List Value} {cs : List Cp} (h : All2 (RCp m S w) vs cs) : All2 (fun v x => RW m S w v x) vs (cs.map Cp.w) := by
  induction h with
  | nil => exact .nil
  | cons h1 _ ih =>
    refine .cons ?_ ih
    rename_i v c _ _ _
    cases c with
    | d x => exact RW.congr (Reads.rw (m := m) h1) (fun i hi => rfl)
    | p id sz i o => exact h1
theorem snd_callMV {x : Operand} (c : Call) (ho : o.op = .call c) (hc : c.callee = .value x) {xs : List SX} (hxs : allSome compX (x :: c.args.toList) = some xs)
    (h : Inv G N Sin w0 σ a w S m) (hd : ∀ t, o.dst = some t → t < N ∧ w0.fx t = none) {r : R} (h2 : CallM P G σ.h σ.u dynF (xs.map (ev G σ.f)) r) (hK : K (σ.put o.dst r)) : o.wp P a w (Nx G N Sin w0 K) Q := by
  rcases h2 with ⟨e, _⟩ | ⟨_, g, pre, post, ws, h1, he, h2⟩
  · exact absurd rfl e
  · have h3 := argsM_ok (ws := .c (.cf g pre post) :: ws) h hxs (by rw [h1]; rfl)
    rw [List.map_cons] at h3
    cases h3 with
    | cons k1 k2 =>
      obtain ⟨us, vs, hx, q1, q2⟩ : ∃ us vs : List Value, a.eval x = .func (.func g) us.toArray vs.toArray ∧ All2 (RCp m S w) us pre ∧ All2 (RCp m S w) vs post := k1
      exact snd_enterM (run_callMV he c ho hc hx) h hd (((rcps_w q1).append k2).append (rcps_w q2)) h2 hK
theorem opw_callM {ρ : SX → V} {h : Heap} {u : Nat → Bool} {dst : Nat} {J : R → Prop} {f : FuncId} {xs : List SX} (hw : opw P G (.callM f xs) ρ h u dst J) : ∃ r, CallM P G h u f (xs.map ρ) r ∧ J r := hw
theorem opw_ef {s : SOp} {ρ : SX → V} {h : Heap} {u : Nat → Bool} {dst : Nat} {J : R → Prop} (hs : ∀ f xs own, s ≠ .call f xs own) (hw : opw P G s ρ h u dst J) (hs2 : ∀ f xs, s ≠ .callM f xs := by first | (intro _ _ e; cases e; done) | (intro _ _ e; split at e <;> cases e)) : ∃ r, ef ρ h u dst s = some r ∧ J r := by
  unfold opw at hw
  split at hw
  · exact absurd rfl (hs _ _ _)
  · exact absurd rfl (hs2 _ _)
  · split at hw
    · rename_i r hr; exact ⟨r, hr, hw⟩
    · exact hw.elim
theorem opw_call {ρ : SX → V} {h : Heap} {u : Nat → Bool} {dst : Nat} {J : R → Prop} {f : FuncId} {xs : List SX} {own : Option (Nat × Nat)} (hw : opw P G (.call f xs own) ρ h u dst J) : ∃ res r, CallOk P G h f (xs.map ρ) res ∧ OwnOk h (xs.map ρ) res ∧ impV h u dst own res = some r ∧ J r := by
  unfold opw at hw
  obtain ⟨res, h2, h3, _, h4⟩ := hw
  split at h4
  · rename_i r hr; exact ⟨res, r, h2, h3, hr, h4⟩
  · exact h4.elim

theorem call_sound {H : Hint} {c : Call} {so : SOp} (ho : o.op = .call c) (h : Inv G N Sin w0 σ a w S m) (hd : ∀ t, o.dst = some t → t < N ∧ w0.fx t = none) (hc : compCall P H o c = some so)
    (hw : opw P G so (ev G σ.f) σ.h σ.u (o.dst.getD 0) (fun r => K (σ.put o.dst r))) : o.wp P a w (Nx G N Sin w0 K) Q := by
  unfold compCall at hc
  split at hc
  · -- functions
    rename_i f hcal
    split at hc
    · rename_i fn xs own hf hxs hown
      split at hc
      · rename_i hbn
        split at hc
        · cases hc
          obtain ⟨r, h2, h5⟩ := opw_callM hw
          exact snd_callM hf hbn.1 hbn.2.1 hbn.2.2 c ho hcal hxs h hd h2 h5
        · cases hc
          obtain ⟨res, r, h2, h3, h4, h5⟩ := opw_call hw
          exact snd_call hf hbn.1 hbn.2.1 hbn.2.2 c ho hcal hxs own h hd h2 h3 h4 h5
      · cases hc
    · cases hc
  · -- function values
    rename_i x _ hcal
    split at hc
    · rename_i xs own hxs hown
      split at hc
      · cases hc
        obtain ⟨r, h2, h5⟩ := opw_callM hw
        exact snd_callMV c ho hcal hxs h hd h2 h5
      · cases hc
        obtain ⟨res, r, h2, h3, h4, h5⟩ := opw_call hw
        exact snd_callV c ho hcal hxs own h hd h2 h3 h4 h5
    · cases hc
  · -- len
    rename_i hcal
    split at hc
    · rename_i t x hts hargs
      split at hc
      · rename_i x0 e x' ht hx
        cases hc
        obtain ⟨r, hr, hK⟩ := opw_ef (by intro _ _ _ e; cases e) hw
        simp only [ef, Option.map_eq_some_iff] at hr
        obtain ⟨n, hn, rfl⟩ := hr
        exact snd_len t _ ht x x' c ho hcal hts hargs hx h hd hn hK
      · rename_i x0 x' ht hx
        cases hc
        obtain ⟨r, hr, hK⟩ := opw_ef (by intro _ _ _ e; cases e) hw
        simp only [ef] at hr
        split at hr
        · rename_i s hs
          cases hr
          exact snd_lenStr t ht x x' c ho hcal hts hargs hx h hd hs hK
        · cases hr
      · rename_i x0 n e ht
        cases hc
        obtain ⟨r, hr, hK⟩ := opw_ef (by intro _ _ _ e; cases e) hw
        simp only [ef, Option.some.injEq] at hr
        subst hr
        exact snd_lenArr t n e ht x c ho hcal hts hargs h hd hK
      · cases hc
    · cases hc
  · -- append
    rename_i hcal
    split at hc
    · rename_i t u x y hts hargs
      split at hc
      · rename_i e s b z x' y' ht hx hy
        split at hc
        · rename_i e' hu
          split at hc
          · rename_i he
            subst he
            cases hc
            obtain ⟨r, hr, hK⟩ := opw_ef (by intro _ _ _ e; split at e <;> cases e) hw
            refine snd_app t _ u ht (str := false) (.inl ⟨rfl, hu⟩) x y x' y' c ho hcal hts hargs hx hy h hd (r := r) ?_ hK
            split at hr
            · exact ef_appN hr
            · exact hr
          · cases hc
        · rename_i hu
          split at hc
          · rename_i hs
            cases hc
            obtain ⟨r, hr, hK⟩ := opw_ef (by intro _ _ _ e; split at e <;> cases e) hw
            refine snd_app t _ u ht (str := true) (.inr ⟨rfl, hu, hs⟩) x y x' y' c ho hcal hts hargs hx hy h hd (r := r) ?_ hK
            split at hr
            · exact ef_appN hr
            · exact hr
          · cases hc
        · cases hc
      · cases hc
    · cases hc
  · -- copy
    rename_i hcal
    split at hc
    · rename_i t u x y hts hargs
      split at hc
      · rename_i e s b z x' y' ht hx hy
        split at hc
        · rename_i e' hu
          split at hc
          · rename_i he
            subst he
            cases hc
            obtain ⟨r, hr, hK⟩ := opw_ef (by intro _ _ _ e; cases e) hw
            exact snd_copy t _ u ht hu x y x' y' c ho hcal hts hargs hx hy h hd hr hK
          · cases hc
        · cases hc
      · cases hc
    · cases hc
  · rename_i hcal
    simp only [Option.map_eq_some_iff] at hc
    obtain ⟨ys, hys, rfl⟩ := hc
    obtain ⟨r, hr, hK⟩ := opw_ef (by intro _ _ _ e; cases e) hw
    exact snd_minmax false c ho hcal hys h hd hr hK
  · rename_i hcal
    simp only [Option.map_eq_some_iff] at hc
    obtain ⟨ys, hys, rfl⟩ := hc
    obtain ⟨r, hr, hK⟩ := opw_ef (by intro _ _ _ e; cases e) hw
    exact snd_minmax true c ho hcal hys h hd hr hK
  · cases hc

theorem compXo_two {x : Option Operand} {y : Option SX} (h : compXo x = some y) : (x = none ∧ y = none) ∨ ∃ u v, x = some u ∧ y = some v ∧ compX u = some v := by
  unfold compXo at h
  cases x with
  | none => cases h; exact .inl ⟨rfl, rfl⟩
  | some u =>
    simp only [Option.map_eq_some_iff] at h
    obtain ⟨v, h1, rfl⟩ := h
    exact .inr ⟨u, v, rfl, rfl, h1⟩
theorem placesOf {fs : List Field} (h : fs.all (fun f => (P.info? f.type).isSome) = true) : ∃ pl : List (Nat × Nat), fs.mapM (fun f => (P.info? f.type).map fun i => (f.offset, i.size)) = some pl ∧ ∀ (i : Nat) (f : Field) (j : TypeInfo), fs[i]? = some f → P.info? f.type = some j → pl[i]? = some (f.offset, j.size) := by
  induction fs with
  | nil => exact ⟨[], rfl, fun i f j h => by simp at h⟩
  | cons f r ih =>
    simp only [List.all_cons, Bool.and_eq_true] at h
    obtain ⟨pl, h1, h2⟩ := ih h.2
    obtain ⟨i0, hi0⟩ := Option.isSome_iff_exists.1 h.1
    refine ⟨(f.offset, i0.size) :: pl, by simp [List.mapM_cons, hi0, h1], fun i g j hg hj => ?_⟩
    cases i with
    | zero =>
      simp only [List.getElem?_cons_zero, Option.some.injEq] at hg
      subst hg
      rw [hi0] at hj
      cases hj
      rfl
    | succ i =>
      simp only [List.getElem?_cons_succ] at hg
      simpa using h2 i g j hg hj

/-! ### Function literals -/
theorem capV_ok {v : Value} {x : V} {d : D} (h : RV m S w v x) (e : capV x = some d) : Reads S w v d := by
  unfold capV at e
  split at e
  · cases e
    obtain ⟨a, rfl, h2⟩ : ∃ a, v = .pointer (some a) ∧ CellsAt S w a _ := h
    exact Reads.of_cells h2
  · split at e
    · cases e
    · cases e
      rename_i hx
      cases d <;> first | exact h | exact (hx _ rfl).elim
  · cases e
theorem capVs_ok (h : Inv G N Sin w0 σ a w S m) : ∀ {l : List Operand} {xs : List SX} {ds : List D}, allSome compX l = some xs → capVs (xs.map (ev G σ.f)) = some ds → All2 (Reads S w) (l.map a.eval) ds
  | [], xs, ds, h1, h2 => by
    simp only [allSome, Option.some.injEq] at h1
    subst h1
    simp only [List.map_nil, capVs, Option.some.injEq] at h2
    subst h2
    exact .nil
  | x :: l, xs, ds, h1, h2 => by
    simp only [allSome] at h1
    split at h1
    · rename_i y ys hy hys
      cases h1
      simp only [List.map_cons, capVs] at h2
      split at h2
      · rename_i d ds' hd hds
        cases h2
        exact .cons (capV_ok (h.operand hy).1 hd) (capVs_ok h hys hds)
      · cases h2
    · cases h1
theorem reads_fn (f : Nat) {vs : List Value} {ds : List D} (h : All2 (Reads S w) vs ds) : Reads S w (.func (.func f) #[] vs.toArray) (.fn f ds) := by
  have hl := h.length
  refine .fn f vs ds (fun j => vs.getD j undef) hl (fun j hj => ?_) (fun j hj => ?_)
  · rw [List.getD_eq_getElem?_getD, List.getElem?_eq_getElem hj]; rfl
  · have := h.get j (by omega) hj
    rw [List.getD_eq_getElem?_getD, List.getElem?_eq_getElem (by omega : j < vs.length)]
    exact this
theorem reads_fn_inv {v : Value} {f : Nat} {ds : List D} (h : Reads S w v (.fn f ds)) : ∃ vs : List Value, v = .func (.func f) #[] vs.toArray ∧ All2 (Reads S w) vs ds := by
  cases h with
  | fn f vs caps u hl hv hr =>
    refine ⟨vs, rfl, .mk hl fun i h1 h2 => ?_⟩
    have := hv i h1
    rw [List.getElem?_eq_getElem h1, Option.some.injEq] at this
    rw [this]
    exact hr i h2
theorem capPs_ok (h : Inv G N Sin w0 σ a w S m) : ∀ {l : List Operand} {xs : List SX} {cs : List Cp}, allSome compX l = some xs → capPs (xs.map (ev G σ.f)) = some cs → All2 (RCp m S w) (l.map a.eval) cs ∧ ∀ i ∈ cs.flatMap Cp.ids, σ.u i = true
  | [], xs, cs, h1, h2 => by
    simp only [allSome, Option.some.injEq] at h1
    subst h1
    simp only [List.map_nil, capPs, Option.some.injEq] at h2
    subst h2
    exact ⟨.nil, fun i hi => by cases hi⟩
  | x :: l, xs, cs, h1, h2 => by
    simp only [allSome] at h1
    split at h1
    · rename_i y ys hy hys
      cases h1
      simp only [List.map_cons, capPs] at h2
      split at h2
      · rename_i d cs' hd hcs
        cases h2
        have hv := h.operand hy
        have ih := capPs_ok h hys hcs
        have one : RCp m S w (a.eval x) d ∧ ∀ i ∈ d.ids, σ.u i = true := by
          unfold capP at hd
          split at hd
          · rename_i id sz i o e
            cases hd
            rw [e] at hv
            exact ⟨hv.1, fun j hj => hv.2 j hj⟩
          · simp only [Option.map_eq_some_iff] at hd
            obtain ⟨d', hd', rfl⟩ := hd
            exact ⟨capV_ok hv.1 hd', fun i hi => by cases hi⟩
        refine ⟨.cons one.1 ih.1, fun i hi => ?_⟩
        rw [List.flatMap_cons] at hi
        exact (List.mem_append.1 hi).elim (one.2 i) (ih.2 i)
      · cases h2
    · cases h1
theorem snd_closM (f : Nat) (fs cs : Array Operand) (xs ys : List SX) (ho : o.op = .makeFunc (.func f) fs cs) (hxs : allSome compX fs.toList = some xs) (hys : allSome compX cs.toList = some ys) (h : Inv G N Sin w0 σ a w S m) (hd : ∀ t, o.dst = some t → t < N ∧ w0.fx t = none)
    {pre post : List Cp} (h1 : capPs (xs.map (ev G σ.f)) = some pre) (h2 : capPs (ys.map (ev G σ.f)) = some post) (hK : K (σ.put o.dst (.w (.c (.cf f pre post)), σ.h, σ.u))) : o.wp P a w (Nx G N Sin w0 K) Q := by
  have k1 := capPs_ok h hxs h1
  have k2 := capPs_ok h hys h2
  refine fin (x := .w (.c (.cf f pre post))) (v := .func (.func f) (fs.map a.eval) (cs.map a.eval)) h hd ?_ ?_ ?_ hK
  · simp only [execOp, ho]
    exact run_v (s := Instr.makeFunc (.func f) (fs.map a.eval) (cs.map a.eval)) (Sem.run_pure _ _ _)
  · have e1 : fs.map a.eval = (fs.toList.map a.eval).toArray := by rw [← Array.toList_map, Array.toArray_toList]
    have e2 : cs.map a.eval = (cs.toList.map a.eval).toArray := by rw [← Array.toList_map, Array.toArray_toList]
    rw [e1, e2]
    exact ⟨_, _, rfl, k1.1, k2.1⟩
  · intro i hi
    rcases List.mem_append.1 (show i ∈ pre.flatMap Cp.ids ++ post.flatMap Cp.ids from hi) with hi | hi
    · exact k1.2 i hi
    · exact k2.2 i hi
theorem snd_clos (f : Nat) (fs cs : Array Operand) (xs : List SX) (hfs : fs = #[]) (ho : o.op = .makeFunc (.func f) fs cs) (hxs : allSome compX cs.toList = some xs) (h : Inv G N Sin w0 σ a w S m) (hd : ∀ t, o.dst = some t → t < N ∧ w0.fx t = none)
    {ds : List D} (hds : capVs (xs.map (ev G σ.f)) = some ds) (hK : K (σ.put o.dst (vd (.fn f ds), σ.h, σ.u))) : o.wp P a w (Nx G N Sin w0 K) Q := by
  have hv := reads_fn f (capVs_ok h hxs hds)
  refine finD h hd (v := .func (.func f) #[] (cs.map a.eval)) ?_ ?_ hK
  · subst hfs
    simp only [execOp, ho]
    exact run_v (s := Instr.makeFunc (.func f) (#[].map a.eval) (cs.map a.eval)) (by simp only [Instr.makeFunc, Array.map_empty]; exact Sem.run_pure _ _ _)
  · have e : cs.map a.eval = (cs.toList.map a.eval).toArray := by rw [← Array.toList_map, Array.toArray_toList]
    rw [e]; exact hv

theorem snd_nilChk (x : Operand) (y : SX) (ho : o.op = .nilCheck x) (hx : compX x = some y) (h : Inv G N Sin w0 σ a w S m) (hd : ∀ t, o.dst = some t → t < N ∧ w0.fx t = none) (hp : isPtr (ev G σ.f y) = true)
    (hK : K (σ.put o.dst (ev G σ.f y, σ.h, σ.u))) : o.wp P a w (Nx G N Sin w0 K) Q := by
  have hv := h.operand hx
  refine fin0 h hd ?_ hv.1 hv.2 hK
  have hs : (∃ ad, a.eval x = .pointer (some ad)) ∨ ∃ f us vs, a.eval x = .func (.func f) us vs := by
    have h1 := hv.1
    generalize a.eval x = v at h1
    generalize ev G σ.f y = z at h1 hp
    unfold isPtr at hp
    split at hp
    · obtain ⟨b, _, e⟩ := (h1 : ∃ b, _ ∧ v = _); exact .inl ⟨_, e⟩
    · obtain ⟨b, _, e⟩ := (h1 : ∃ b, _ ∧ v = _); exact .inl ⟨_, e⟩
    · obtain ⟨b, e, _⟩ := (h1 : ∃ b, v = _ ∧ _); exact .inl ⟨_, e⟩
    · obtain ⟨b, _, e, _⟩ := (h1 : ∃ b sz, v = _ ∧ _); exact .inl ⟨_, e⟩
    · cases (h1 : Reads S w v _) with
      | ref ad => exact .inl ⟨_, rfl⟩
    · cases (h1 : Reads S w v _) with
      | fn f => exact .inr ⟨_, _, _, rfl⟩
    · obtain ⟨us, vs, e, _⟩ := (h1 : ∃ us vs, v = _ ∧ _); exact .inr ⟨_, _, _, e⟩
    · cases hp
  unfold execOp
  rw [ho]
  rcases hs with ⟨ad, e⟩ | ⟨f, us, vs, e⟩
  · simp only [e]; rfl
  · simp only [e]; rfl
theorem op_sound {H : Hint} {so : SOp} (h : Inv G N Sin w0 σ a w S m) (hd : ∀ t, o.dst = some t → t < N ∧ w0.fx t = none) (hc : compOp P H o = some so)
    (hw : opw P G so (ev G σ.f) σ.h σ.u (o.dst.getD 0) (fun r => K (σ.put o.dst r))) : o.wp P a w (Nx G N Sin w0 K) Q := by
  have nocall : ∀ {s : SOp}, so = s → (∀ f xs own, s ≠ .call f xs own) → (hs2 : ∀ f xs, s ≠ .callM f xs := by first | (intro _ _ e; cases e; done) | (intro _ _ e; split at e <;> cases e)) → ∃ r, ef (ev G σ.f) σ.h σ.u (o.dst.getD 0) s = some r ∧ K (σ.put o.dst r) := by
    intro s e hs hs2
    subst e
    exact opw_ef hs hw hs2
  have mvs : ∀ x, (o.op = .move x ∨ o.op = .assign x) → compMv P H o x = some so → o.wp P a w (Nx G N Sin w0 K) Q := by
    intro x ho hc
    unfold compMv at hc
    split at hc
    · rename_i y hx
      have mv : so = .mv y → o.wp P a w (Nx G N Sin w0 K) Q := by
        intro e
        obtain ⟨r, hr, hK⟩ := nocall e (by intro _ _ _ e; cases e)
        simp only [ef, Option.some.injEq] at hr
        subst hr
        exact snd_mv x y ho hx h hd hK
      split at hc
      · cases hc
        obtain ⟨r, hr, hK⟩ := nocall rfl (by intro _ _ _ e; cases e)
        exact snd_frz x y ho hx h hd hr hK
      · split at hc
        · split at hc
          · split at hc
            · cases hc
              obtain ⟨r, hr, hK⟩ := nocall rfl (by intro _ _ _ e; cases e)
              exact snd_nilOwn x ho hx _ h hd hr hK
            · cases hc
          · cases hc; exact mv rfl
        · cases hc; exact mv rfl
    · cases hc
  unfold compOp at hc
  split at hc
  · exact mvs _ (.inl ‹_›) hc
  · exact mvs _ (.inr ‹_›) hc
  · -- pick
    rename_i c x y ho
    split at hc
    · rename_i c' x' y' h1 h2 h3
      cases hc
      obtain ⟨r, hr, hK⟩ := nocall rfl (by intro _ _ _ e; cases e)
      simp only [ef, Option.map_eq_some_iff] at hr
      obtain ⟨t, ht, rfl⟩ := hr
      exact snd_pick c x y c' x' y' ho h1 h2 h3 h hd ht hK
    · cases hc
  · -- alloc
    rename_i t ho
    split at hc
    · rename_i i n e hi hu
      split at hc
      · rename_i z hz hk
        split at hc
        · rename_i ds hds
          split at hc
          · cases hc
            obtain ⟨r, hr, hK⟩ := nocall rfl (by intro _ _ _ e; cases e)
            exact snd_allocArr t ho hi hz hds h hd hr hK
          · cases hc
        · cases hc
      · rename_i z k hz hk
        simp only [Option.map_eq_some_iff] at hc
        obtain ⟨cs, hcs, rfl⟩ := hc
        obtain ⟨r, hr, hK⟩ := nocall rfl (by intro _ _ _ e; cases e)
        exact snd_alloc t ho hi hz hcs h hd hr hK
      · cases hc
    · rename_i i u hne hi hu
      split at hc
      · rename_i z hz
        simp only [Option.map_eq_some_iff] at hc
        obtain ⟨cs, hcs, rfl⟩ := hc
        obtain ⟨r, hr, hK⟩ := nocall rfl (by intro _ _ _ e; cases e)
        exact snd_alloc t ho hi hz hcs h hd hr hK
      · cases hc
    · cases hc
  · -- box
    rename_i t x ho
    split at hc
    · rename_i x' n e hx hu
      split at hc
      · cases hc
        obtain ⟨r, hr, hK⟩ := nocall rfl (by intro _ _ _ e; cases e)
        exact snd_box t x x' _ ho hx h hd hr hK
      · cases hc
        obtain ⟨r, hr, hK⟩ := nocall rfl (by intro _ _ _ e; cases e)
        exact snd_box t x x' _ ho hx h hd hr hK
      · cases hc
    · rename_i x' u hne hx hu
      cases hc
      obtain ⟨r, hr, hK⟩ := nocall rfl (by intro _ _ _ e; cases e)
      exact snd_box t x x' _ ho hx h hd hr hK
    · cases hc
  · -- build
    rename_i t ps ho
    split at hc
    · rename_i i fs hi hu
      split at hc
      · rename_i z hz
        split at hc
        · rename_i cs qs hcs hqs
          split at hc
          · rename_i hall
            have hall' : fs.toList.all (fun f => (P.info? f.type).isSome) = true := by simpa using hall
            obtain ⟨pl, hpl, hpl2⟩ := placesOf hall'
            have hb : ∀ l cells, Instr.fill (fun i => pl[i]?) z.cells l = some cells → P.built t l = some cells := fun l cells hf => by
              unfold Program.built
              simp only [hi, hu, hz, hpl]
              rw [← hf]
              congr 1
              funext i
              simp
            have hq2 : All2 (fun (p : Nat × Operand) (q : Nat × Nat × SX) => (fun i => pl[i]?) p.1 = some (q.1, q.2.1) ∧ compX p.2 = some q.2.2) ps.toList qs := by
              refine allSome_ok (fun p q hpq => ?_) hqs
              split at hpq
              · rename_i f x' hf hx'
                split at hpq
                · rename_i j hj
                  cases hpq
                  refine ⟨hpl2 _ _ _ ?_ hj, hx'⟩
                  simpa using hf
                · cases hpq
              · cases hpq
            split at hc
            · cases hc
              obtain ⟨r, hr, hK⟩ := nocall rfl (by intro _ _ _ e; cases e)
              simp only [ef, Option.map_eq_some_iff] at hr
              obtain ⟨cs', hp, rfl⟩ := hr
              exact snd_buildF t ps ho (fun i => pl[i]?) z hb hcs hq2 h hd hp hK
            · cases hc
              obtain ⟨r, hr, hK⟩ := nocall rfl (by intro _ _ _ e; cases e)
              simp only [ef, Option.map_eq_some_iff] at hr
              obtain ⟨cs', hp, rfl⟩ := hr
              exact snd_build t ps ho (fun i => pl[i]?) z hb hcs hq2 h hd hp hK
          · cases hc
        · cases hc
      · cases hc
    · rename_i i n e hi hu
      split at hc
      · rename_i z j hz hj
        split at hc
        · rename_i cs qs hcs hqs
          cases hc
          obtain ⟨r, hr, hK⟩ := nocall rfl (by intro _ _ _ e; cases e)
          simp only [ef, Option.map_eq_some_iff] at hr
          obtain ⟨cs', hp, rfl⟩ := hr
          refine snd_build t ps ho (fun i => some (i * j.size, j.size)) z (fun l cells hf => ?_) hcs (qs := qs) ?_ h hd hp hK
          · unfold Program.built
            simp only [hi, hu, hz, hj]
            exact hf
          · refine allSome_ok (fun p q hpq => ?_) hqs
            simp only [Option.map_eq_some_iff] at hpq
            obtain ⟨x', hx', rfl⟩ := hpq
            exact ⟨rfl, hx'⟩
        · cases hc
      · cases hc
    · cases hc
  · -- buildSlice
    rename_i t n ps ho
    split at hc
    · rename_i e s b z ht
      split at hc
      · rename_i qs hqs
        split at hc
        · rename_i hn
          have hq : All2 (fun p q => p.1 = q.1 ∧ compX p.2 = some q.2) ps.toList qs := by
            refine allSome_ok (fun p q hpq => ?_) hqs
            simp only [Option.map_eq_some_iff] at hpq
            obtain ⟨x', hx', rfl⟩ := hpq
            exact ⟨rfl, hx'⟩
          split at hc
          · rename_i hf
            cases hc
            obtain ⟨r, hr, hK⟩ := nocall rfl (by intro _ _ _ e; cases e)
            exact snd_bldFz t e ht n hn hf.2 ps ho hq h hd hr hK
          · cases hc
            obtain ⟨r, hr, hK⟩ := nocall rfl (by intro _ _ _ e; cases e)
            exact snd_bldSl t e ht n hn ps ho _ (qs := qs) hq h hd hr hK
        · cases hc
      · cases hc
    · cases hc
  · -- load
    rename_i t x ho
    split at hc
    · rename_i kd x' hk hx
      split at hc
      · cases hc
        obtain ⟨r, hr, hK⟩ := nocall rfl (by intro _ _ _ e; cases e)
        simp only [ef, Option.map_eq_some_iff] at hr
        obtain ⟨y, hy, rfl⟩ := hr
        exact snd_load hk x x' ho hx h hd (ldX_ld hy).2 hK
      split at hc
      · cases hc
        obtain ⟨r, hr, hK⟩ := nocall rfl (by intro _ _ _ e; cases e)
        simp only [ef, Option.map_eq_some_iff] at hr
        obtain ⟨y, hy, rfl⟩ := hr
        exact snd_load hk x x' ho hx h hd (ldB_ld hy) hK
      · cases hc
        obtain ⟨r, hr, hK⟩ := nocall rfl (by intro _ _ _ e; cases e)
        simp only [ef, Option.map_eq_some_iff] at hr
        obtain ⟨y, hy, rfl⟩ := hr
        exact snd_load hk x x' ho hx h hd hy hK
    · cases hc
  · -- store
    rename_i t x y ho
    split at hc
    · rename_i kd x' y' hk hx hy
      split at hc
      · rename_i hdst
        cases hc
        obtain ⟨r, hr, hK⟩ := nocall rfl (by intro _ _ _ e; cases e)
        simp only [ef] at hr
        split at hr
        · cases hr
        · rename_i yw hyw
          simp only [Option.map_eq_some_iff] at hr
          obtain ⟨h', hst, rfl⟩ := hr
          exact snd_store hk x y x' y' ho hdst hx hy h hyw hst hK
      · cases hc
    · cases hc
  · -- binOp
    rename_i op t x y t' ho
    have bin : ∀ x' y', compX x = some x' → compX y = some y' → so = .bin op x' y' → o.wp P a w (Nx G N Sin w0 K) Q := by
      intro x' y' hx hy e
      obtain ⟨r, hr, hK⟩ := nocall e (by intro _ _ _ e; cases e)
      simp only [ef, Option.map_eq_some_iff] at hr
      obtain ⟨d, hb, rfl⟩ := hr
      exact snd_bin op t t' x y x' y' ho hx hy h hd hb hK
    split at hc
    · cases hc; exact bin _ _ ‹_› ‹_› rfl
    · cases hc; exact bin _ _ ‹_› ‹_› rfl
    · rename_i x' y' hu hx hy
      have eqb : ∀ neg : Bool, op = (if neg then .neq else .eql) → so = .eqB neg x' y' → o.wp P a w (Nx G N Sin w0 K) Q := by
        intro neg hop e
        obtain ⟨r, hr, hK⟩ := nocall e (by intro _ _ _ e; cases e)
        simp only [ef] at hr
        split at hr
        · rename_i p q hp hq
          cases hr
          exact snd_eqB neg op hop t t' hu x y x' y' ho hx hy h hd hp hq hK
        · cases hr
      split at hc
      · cases hc; exact eqb false rfl rfl
      · cases hc; exact eqb true rfl rfl
      · cases hc
    · rename_i fs x' y' hu hx hy
      have eqa : ∀ (neg : Bool) (ks : List Nat), eqTy P t = some ks → op = (if neg then .neq else .eql) → so = .eqA neg ks x' y' → o.wp P a w (Nx G N Sin w0 K) Q := by
        intro neg ks hks hop e
        obtain ⟨r, hr, hK⟩ := nocall e (by intro _ _ _ e; cases e)
        simp only [ef, Option.map_eq_some_iff] at hr
        obtain ⟨d, hb, rfl⟩ := hr
        exact snd_eqA neg op hop t t' hks x y x' y' ho hx hy h hd hb hK
      split at hc
      · cases hc; exact eqa false _ ‹_› rfl rfl
      · cases hc; exact eqa true _ ‹_› rfl rfl
      · cases hc
    · cases hc
  · -- unOp
    rename_i op t x ho
    simp only [Option.map_eq_some_iff] at hc
    obtain ⟨x', hx, rfl⟩ := hc
    obtain ⟨r, hr, hK⟩ := nocall rfl (by intro _ _ _ e; cases e)
    simp only [ef, Option.map_eq_some_iff] at hr
    obtain ⟨d, hb, rfl⟩ := hr
    exact snd_un op t x x' ho hx h hd hb hK
  · -- convert
    rename_i s d x ho
    split at hc
    · rename_i k0 k x' hs hdt hx
      cases hc
      obtain ⟨r, hr, hK⟩ := nocall rfl (by intro _ _ _ e; cases e)
      simp only [ef, Option.map_eq_some_iff] at hr
      obtain ⟨⟨k', n⟩, hb, rfl⟩ := hr
      exact snd_conv s d k k0 hs hdt x x' ho hx h hd hb hK
    · rename_i e x' hs hdt hx
      split at hc
      · rename_i he
        cases hc
        obtain ⟨r, hr, hK⟩ := nocall rfl (by intro _ _ _ e; cases e)
        simp only [ef] at hr
        split at hr
        · rename_i es hes
          simp only [Option.map_eq_some_iff] at hr
          obtain ⟨l, hl, rfl⟩ := hr
          exact snd_b2s s d e hs he hdt x x' ho hx h hd hes hl hK
        · cases hr
      · cases hc
    · rename_i e x' hs hdt hx
      split at hc
      · rename_i he
        cases hc
        obtain ⟨r, hr, hK⟩ := nocall rfl (by intro _ _ _ e; cases e)
        exact snd_s2b s d e hs hdt he _ x x' ho hx h hd hr hK
      · cases hc
    · rename_i e e2 x' hs hdt hx
      split at hc
      · rename_i he
        split at hc
        · rename_i hsd
          subst hsd
          cases hc
          by_cases hfz : frzOf H o = true
          · rw [if_pos hfz] at hw
            obtain ⟨r, hr, hK⟩ := opw_ef (by intro _ _ _ e; cases e) hw
            exact snd_markF s e hs he x x' ho hx h hd hr hK
          · rw [if_neg hfz] at hw
            obtain ⟨r, hr, hK⟩ := opw_ef (by intro _ _ _ e; cases e) hw
            exact snd_mark s e hs he x x' ho hx h hd hr hK
        · cases hc
      · cases hc
    · cases hc
  · -- makeSlice
    rename_i t l c ho
    split at hc
    · rename_i e s b z l' c' ht hl hcc
      split at hc
      · cases hc
        obtain ⟨r, hr, hK⟩ := nocall rfl (by intro _ _ _ e; cases e)
        exact snd_make t e ht l c l' c' ho hl hcc h hd hr hK
      · cases hc
    · cases hc
  · -- slice
    rename_i t x lo hi mx ho
    split at hc
    · rename_i e x' lo' hi' mx' hu hx hlo hhi hmx
      split at hc
      · rename_i e' s b z ht
        split at hc
        · cases hc
        · rename_i hmh
          cases hc
          obtain ⟨r, hr, hK⟩ := nocall rfl (by intro _ _ _ e; cases e)
          exact snd_slice t _ ht x lo hi mx x' lo' hi' mx' ho hx hlo hhi hmx (Bool.eq_false_iff.2 hmh) h hd hr hK
      · cases hc
    · rename_i x' lo' hi' hu hx hlo hhi hmx
      cases hc
      obtain ⟨r, hr, hK⟩ := nocall rfl (by intro _ _ _ e; cases e)
      simp only [ef] at hr
      split at hr
      · rename_i s hs
        split at hr
        · rename_i l k hl hk
          split at hr
          · rename_i hlk
            cases hr
            rcases compXo_two hmx with ⟨rfl, _⟩ | ⟨_, _, _, e, _⟩
            · exact snd_sliceStr t hu x lo hi x' lo' hi' ho hx hlo hhi h hd hs hl hk hlk.1 hlk.2 hK
            · cases e
          · cases hr
        · cases hr
      · cases hr
    · rename_i n e x' lo' hi' hu hx hlo hhi hmx
      split at hc
      · rename_i s b z he
        split at hc
        · rename_i hn
          cases hc
          obtain ⟨r, hr, hK⟩ := nocall rfl (by intro _ _ _ e; cases e)
          rcases compXo_two hmx with ⟨rfl, _⟩ | ⟨_, _, _, e, _⟩
          · exact snd_sliceArr t e n hu he (Nat.le_trans hn (by decide)) x lo hi x' lo' hi' ho hx hlo hhi h hd hr hK
          · cases e
        · cases hc
      · cases hc
    · cases hc
  · -- fieldAddr
    rename_i t x f ho
    split at hc
    · rename_i fs x' hu hx
      split at hc
      · rename_i fd hf
        split at hc
        · rename_i i hi
          split at hc
          · rename_i hsz
            cases hc
            obtain ⟨r, hr, hK⟩ := nocall rfl (by intro _ _ _ e; cases e)
            simp only [ef, Option.map_eq_some_iff] at hr
            obtain ⟨c, hcc, rfl⟩ := hr
            exact snd_fieldAddr t x x' f ho hx hu hf hi hsz h hd hcc hK
          · cases hc
        · cases hc
      · cases hc
    · cases hc
  · -- field
    rename_i t x f ho
    split at hc
    · rename_i fs x' hu hx
      split at hc
      · rename_i fd hf
        simp only [Option.map_eq_some_iff] at hc
        obtain ⟨kd, hk, rfl⟩ := hc
        obtain ⟨r, hr, hK⟩ := nocall rfl (by intro _ _ _ e; cases e)
        simp only [ef] at hr
        split at hr
        · rename_i cs hcs
          simp only [Option.map_eq_some_iff] at hr
          obtain ⟨y, hy, rfl⟩ := hr
          exact snd_field t x x' f ho hx hu hf hk h hd hcs hy hK
        · cases hr
      · cases hc
    · cases hc
  · -- indexAddr
    rename_i t x i ho
    split at hc
    · rename_i e x' i' hu hx hi
      split at hc
      · rename_i e' s b z ht
        cases hc
        obtain ⟨r, hr, hK⟩ := nocall rfl (by intro _ _ _ e; cases e)
        exact snd_idxSl t _ ht x i x' i' ho hx hi h hd hr hK
      · cases hc
    · rename_i n e x' i' hu hx hi
      split at hc
      · rename_i s b z he
        cases hc
        obtain ⟨r, hr, hK⟩ := nocall rfl (by intro _ _ _ e; cases e)
        exact snd_idxPa t e n hu he x i x' i' ho hx hi h hd hr hK
      · cases hc
    · cases hc
  · -- index
    rename_i t x i ho
    split at hc
    · rename_i n e x' i' hu hx hi
      split at hc
      · rename_i kd s b z hk he
        cases hc
        obtain ⟨r, hr, hK⟩ := nocall rfl (by intro _ _ _ e; cases e)
        simp only [ef] at hr
        split at hr
        · rename_i cs j hcs hj
          simp only [Option.map_eq_some_iff] at hr
          obtain ⟨y, hy, rfl⟩ := hr
          exact snd_idxArr t e n hu he hk x i x' i' ho hx hi h hd hcs hj hy hK
        · cases hr
      · cases hc
    · rename_i x' i' hu hx hi
      cases hc
      obtain ⟨r, hr, hK⟩ := nocall rfl (by intro _ _ _ e; cases e)
      simp only [ef] at hr
      split at hr
      · rename_i s hs
        split at hr
        · rename_i j hj
          simp only [Option.map_eq_some_iff] at hr
          obtain ⟨b, hb, rfl⟩ := hr
          exact snd_idxStr t hu x i x' i' ho hx hi h hd hs hj hb hK
        · cases hr
      · cases hr
    · cases hc
  · -- extract
    rename_i x i ho
    simp only [Option.map_eq_some_iff] at hc
    obtain ⟨x', hx, rfl⟩ := hc
    obtain ⟨r, hr, hK⟩ := nocall rfl (by intro _ _ _ e; cases e)
    simp only [ef] at hr
    split at hr
    · rename_i ws e
      simp only [Option.map_eq_some_iff] at hr
      obtain ⟨y, hy, rfl⟩ := hr
      exact snd_extract x x' i ho hx h hd e hy hK
    · cases hr
  · -- makeFunc
    rename_i f fs cs ho
    split at hc
    · rename_i hfs
      simp only [Option.map_eq_some_iff] at hc
      obtain ⟨xs, hxs, rfl⟩ := hc
      obtain ⟨r, hr, hK⟩ := nocall rfl (by intro _ _ _ e; cases e)
      simp only [ef, Option.map_eq_some_iff] at hr
      obtain ⟨ds, hds, rfl⟩ := hr
      exact snd_clos f fs cs xs hfs.1 ho hxs h hd hds hK
    · split at hc
      · rename_i xs ys hxs hys
        cases hc
        obtain ⟨r, hr, hK⟩ := nocall rfl (by intro _ _ _ e; cases e)
        simp only [ef] at hr
        split at hr
        · rename_i pre post h1 h2
          cases hr
          exact snd_closM f fs cs xs ys ho hxs hys h hd h1 h2 hK
        · cases hr
      · cases hc
  · -- nilCheck
    rename_i x ho
    simp only [Option.map_eq_some_iff] at hc
    obtain ⟨x', hx, rfl⟩ := hc
    obtain ⟨r, hr, hK⟩ := nocall rfl (by intro _ _ _ e; cases e)
    simp only [ef] at hr
    split at hr
    · rename_i hp
      cases hr
      exact snd_nilChk x x' ho hx h hd hp hK
    · cases hr
  · rename_i c ho
    exact call_sound ho h hd hc hw
  · cases hc
end
end Go.Proofs.Ytldcgjhfaledfaa
