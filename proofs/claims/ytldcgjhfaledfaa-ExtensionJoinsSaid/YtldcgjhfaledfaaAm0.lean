/- The plain logic (25): calls that change a variable of the caller's: a box of data. Own work. -/
import Derived.Test.YtldcgjhfaledfaaAlT
import Derived.Test.YtldcgjhfaledfaaAlY
import Derived.Shelf.Abstract
set_option linter.unusedVariables false
set_option linter.unusedSimpArgs false
namespace Go.Proofs.Ytldcgjhfaledfaa
open Go.RowKit

section
variable {P : Program} {G : Glob}
/-! ### Function literals that capture variables -/
def closKM (P : Program) (G : Glob) (d : Option Nat) (r : List SOper) (K : St → Prop) (f : Nat → V) (h : Heap) (u : Nat → Bool) (F : Nat) (pre : Option (List Cp)) (post : Option (List Cp)) : Prop :=
  match pre, post with | some a, some b => aops P G r K ⟨updO f d (.w (.c (.cf F a b))), h, u⟩ | _, _ => False
theorem st_closM (d : Option Nat) (r : List SOper) (K : St → Prop) (f : Nat → V) (h : Heap) (u : Nat → Bool) (F : Nat) (xs ys : List SX) : aops P G (⟨d, .closM F xs ys, none⟩ :: r) K ⟨f, h, u⟩ = closKM P G d r K f h u F (capPs (xs.map (ev G f))) (capPs (ys.map (ev G f))) := by
  show (match (match capPs (xs.map (ev G f)), capPs (ys.map (ev G f)) with | some a, some b => some (((.w (.c (.cf F a b)), h, u) : R)) | _, _ => none) with | some r => _ | none => False) = _
  unfold closKM
  cases capPs (xs.map (ev G f)) <;> cases capPs (ys.map (ev G f)) <;> rfl
theorem closKM_do (d : Option Nat) (r : List SOper) (K : St → Prop) (f : Nat → V) (h : Heap) (u : Nat → Bool) (F : Nat) (a b : List Cp) : closKM P G d r K f h u F (some a) (some b) = aops P G r K ⟨updO f d (.w (.c (.cf F a b))), h, u⟩ := rfl
theorem capPs_nil : capPs [] = some [] := rfl
theorem capPs_ptr (id sz i o : Nat) (r : List V) : capPs (.w (.c (.ptr id sz i o)) :: r) = (capPs r).map fun l => .p id sz i o :: l := by
  simp only [capPs, capP]; cases capPs r <;> rfl
theorem capPs_rp (cs : List D) (r : List V) : capPs (.w (.c (.rp cs)) :: r) = (capPs r).map fun l => .d (.ref cs) :: l := by
  simp only [capPs, capP, capV]; cases capPs r <;> rfl
theorem capPs_int (k : IntKind) (n : Int) (r : List V) : capPs (.w (.c (.d (.int k n))) :: r) = (capPs r).map fun l => .d (.int k n) :: l := by
  simp only [capPs, capP, capV]; cases capPs r <;> rfl
theorem capPs_sl (es : List D) (r : List V) : capPs (.w (.c (.d (.sl es))) :: r) = (capPs r).map fun l => .d (.sl es) :: l := by
  simp only [capPs, capP, capV]; cases capPs r <;> rfl
/-! ### A pointer that is there -/
theorem st_nil (d : Option Nat) (r : List SOper) (K : St → Prop) (f : Nat → V) (h : Heap) (u : Nat → Bool) (x : SX) : aops P G (⟨d, .nilChk x, none⟩ :: r) K ⟨f, h, u⟩ = (isPtr (ev G f x) = true ∧ aops P G r K ⟨updO f d (ev G f x), h, u⟩) := by
  show (match (if isPtr (ev G f x) = true then some ((ev G f x, h, u) : R) else none) with | some r => _ | none => False) = _
  by_cases hp : isPtr (ev G f x) = true
  · rw [if_pos hp]; simp only [hp, true_and]; rfl
  · rw [if_neg hp]
    exact propext ⟨fun h => h.elim, fun h => hp h.1⟩
theorem isPtr_ptr (id sz i o : Nat) : isPtr (.w (.c (.ptr id sz i o))) = true := rfl
theorem isPtr_rp (cs : List D) : isPtr (.w (.c (.rp cs))) = true := rfl
theorem isPtr_ref (cs : List D) : isPtr (.w (.c (.d (.ref cs)))) = true := rfl
theorem isPtr_fn (f : Nat) (cs : List D) : isPtr (.w (.c (.d (.fn f cs)))) = true := rfl
theorem isPtr_cf (f : Nat) (a b : List Cp) : isPtr (.w (.c (.cf f a b))) = true := rfl
/-- The rules. -/
theorem wmm : ProofOf (And.intro @st_closM (And.intro @closKM_do (And.intro @capPs_nil (And.intro @capPs_ptr (And.intro @capPs_rp (And.intro @capPs_int @capPs_sl)))))) := And.intro @st_closM (And.intro @closKM_do (And.intro @capPs_nil (And.intro @capPs_ptr (And.intro @capPs_rp (And.intro @capPs_int @capPs_sl)))))
theorem wmn : ProofOf (And.intro @st_nil (And.intro @isPtr_ptr (And.intro @isPtr_rp (And.intro @isPtr_ref (And.intro @isPtr_fn (And.intro @isPtr_cf @true_and)))))) := And.intro @st_nil (And.intro @isPtr_ptr (And.intro @isPtr_rp (And.intro @isPtr_ref (And.intro @isPtr_fn (And.intro @isPtr_cf @true_and)))))

/-! ### One box of data, handed over and changed -/
def bxH (cs : List D) : Heap := hL [(1, .box (cs.map C.d))]
theorem bxH_at (cs : List D) {id : Nat} {o : Ob} (h : bxH cs id = some o) : id = 1 ∧ o = .box (cs.map C.d) := by
  have := hL_some h
  simpa using this
theorem d_ids (cs : List D) : (Ob.box (cs.map C.d)).ids = [] := by
  unfold Ob.ids
  induction cs with
  | nil => rfl
  | cons c r ih => simp [C.ids]
theorem d_ren (g : Nat → Nat) (cs : List D) : (Ob.box (cs.map C.d)).ren g = .box (cs.map C.d) := by
  show Ob.box ((cs.map C.d).map (C.ren g)) = _
  rw [List.map_map]
  rfl
theorem bxH_1 (cs : List D) : bxH cs 1 = some (.box (cs.map C.d)) := by
  unfold bxH
  rw [hL_cons]
  exact upd_same _ _ _
/-- What a result says that names no variable of the function's own. -/
def noIds : V → Bool | .w x => x.ids.isEmpty | .tup ws => ws.all fun x => x.ids.isEmpty | .undef => true
theorem cp_noren (g : Nat → Nat) : ∀ {l : List Cp}, l.flatMap Cp.ids = [] → l.map (Cp.ren g) = l
  | [], _ => rfl
  | c :: r, h => by
    rw [List.flatMap_cons, List.append_eq_nil_iff] at h
    rw [List.map_cons, cp_noren g h.2]
    cases c with
    | d x => rfl
    | p id sz i o => cases h.1
theorem c_noren (g : Nat → Nat) {c : C} (h : c.ids = []) : c.ren g = c := by
  cases c with
  | own => cases h
  | ptr => cases h
  | pa => cases h
  | cf f a b =>
    obtain ⟨h1, h2⟩ := List.append_eq_nil_iff.1 (show a.flatMap Cp.ids ++ b.flatMap Cp.ids = [] from h)
    simp only [C.ren, cp_noren g h1, cp_noren g h2]
  | _ => rfl
theorem cs_noren (g : Nat → Nat) : ∀ {cs : List C}, cs.flatMap C.ids = [] → cs.map (C.ren g) = cs
  | [], _ => rfl
  | c :: r, h => by
    rw [List.flatMap_cons, List.append_eq_nil_iff] at h
    rw [List.map_cons, cs_noren g h.2, c_noren g h.1]
theorem w_noren (g : Nat → Nat) {x : W} (h : x.ids = []) : x.ren g = x := by
  cases x with
  | c c => rw [W.ren, c_noren g h]
  | mix cs => rw [W.ren, cs_noren g h]
theorem v_noren (g : Nat → Nat) {x : V} (h : noIds x = true) : x.ren g = x ∧ x.ids = [] := by
  cases x with
  | w x =>
    have h' : x.ids = [] := List.isEmpty_iff.1 h
    exact ⟨by rw [V.ren, w_noren g h'], h'⟩
  | tup ws =>
    have h' : ∀ x ∈ ws, x.ids = [] := fun x hx => List.isEmpty_iff.1 (List.all_eq_true.1 h x hx)
    refine ⟨?_, ?_⟩
    · rw [V.ren]
      congr 1
      conv => rhs; rw [← List.map_id ws]
      exact List.map_congr_left fun x hx => w_noren g (h' x hx)
    · show ws.flatMap W.ids = []
      rw [List.flatMap_eq_nil_iff]
      exact h'
  | undef => exact ⟨rfl, rfl⟩
/-- A call of a function value (or of a function) that changes one box of data of the caller's. -/
theorem goM_box {F : FuncId} {args xs : List W} {id : Nat} {cs cs' : List D} {res : V} {h : Heap} {u : Nat → Bool} (hd : DenM P G F args (bxH cs) [1] res (bxH cs') [1]) (hx : xs = args.map (W.ren fun _ => id)) (h3 : h id = some (.box (cs.map C.d))) (hn : noIds res = true) :
    GoM P G h u F xs (res, upd h id (some (.box (cs'.map C.d))), upd u id true) := by
  refine ⟨fun _ => id, args, bxH cs, [1], res, bxH cs', [1], hd, hx, fun i o ho => ?_, fun i hi j hj _ => ?_, fun i hi hn => absurd hi hn, ?_⟩
  · obtain ⟨rfl, rfl⟩ := bxH_at cs ho
    rw [h3, d_ren]
  · simp at hi hj
    omega
  · refine Prod.ext (v_noren _ hn).1.symm (Prod.ext (funext fun i => ?_) (funext fun i => ?_))
    · show upd h id _ i = heapM h (fun _ => id) [1] [1] (bxH cs') i
      unfold heapM upd
      by_cases e : i = id
      · subst e
        simp only [List.find?_cons, beq_self_eq_true, if_true]
        show _ = (bxH cs' 1).map _
        rw [bxH_1]
        simp only [Option.map_some, d_ren]
      · have e' : (id == i) = false := by simpa using fun k => e k.symm
        simp [e, e']
    · show upd u id true i = (u i || [1].any fun _ => id == i)
      unfold upd
      by_cases e : i = id
      · subst e; simp
      · have e' : (id == i) = false := by simpa using fun k => e k.symm
        simp [e, e']
theorem st_boxF {d : Option Nat} {r : List SOper} {K : St → Prop} {f : Nat → V} {h : Heap} {u : Nat → Bool} {F : FuncId} {pre post : List Cp} {xs : List SX} {args ws : List W} {id : Nat} {cs cs' : List D} {res : V} (hd : DenM P G F args (bxH cs) [1] res (bxH cs') [1])
    (he : ∀ (args : Array Value) (w : World), (callFunc F args).run P w = .ok (.enter F args) w) (h1 : xs.map (ev G f) = .w (.c (.cf F pre post)) :: ws.map V.w) (h2 : pre.map Cp.w ++ ws ++ post.map Cp.w = args.map (W.ren fun _ => id)) (h3 : h id = some (.box (cs.map C.d))) (hn : noIds res = true)
    (e : aops P G r K ⟨updO f d res, upd h id (some (.box (cs'.map C.d))), upd u id true⟩) : aops P G (⟨d, .callM 1000000007 xs, none⟩ :: r) K ⟨f, h, u⟩ :=
  ⟨_, .inr ⟨rfl, F, pre, post, ws, h1, he, goM_box hd h2 h3 hn⟩, e⟩
theorem st_boxC {d : Option Nat} {r : List SOper} {K : St → Prop} {f : Nat → V} {h : Heap} {u : Nat → Bool} {F : FuncId} {xs : List SX} {args ws : List W} {id : Nat} {cs cs' : List D} {res : V} (hd : DenM P G F args (bxH cs) [1] res (bxH cs') [1])
    (h1 : xs.map (ev G f) = ws.map V.w) (h2 : ws = args.map (W.ren fun _ => id)) (h3 : h id = some (.box (cs.map C.d))) (hn : noIds res = true)
    (e : aops P G r K ⟨updO f d res, upd h id (some (.box (cs'.map C.d))), upd u id true⟩) (hne : F ≠ dynF := by decide) : aops P G (⟨d, .callM F xs, none⟩ :: r) K ⟨f, h, u⟩ :=
  ⟨_, .inl ⟨hne, ws, h1, goM_box hd h2 h3 hn⟩, e⟩

/-! ### Such a function -/
/-- The end: the result, the box, and that it is still the one that was handed over (slot t). -/
def RetB (σ : St) (l : List (Nat × Option Kd)) (t : Nat) (cs' : List D) (res : V) : Prop :=
  ∃ ws, allSome (resW σ) l = some ws ∧ vOf ws = res ∧ σ.h 1 = some (.box (cs'.map C.d)) ∧ σ.f t = .w (.c (.ptr 1 1 0 0))
def endB (l : List (Nat × Option Kd)) (t : Nat) (cs' : List D) (res : V) (e : AX) (s : St) : Prop := match e with | .nrm => RetB s l t cs' res | .ret => RetB s l t cs' res | .ex _ => False
theorem endB_nrm (l : List (Nat × Option Kd)) (t : Nat) (cs' : List D) (res : V) (σ : St) : endB l t cs' res .nrm σ = RetB σ l t cs' res := rfl
theorem endB_ret (l : List (Nat × Option Kd)) (t : Nat) (cs' : List D) (res : V) (σ : St) : endB l t cs' res .ret σ = RetB σ l t cs' res := rfl
theorem ret_b {σ : St} {s : Nat} {t : Nat} {cs' : List D} {x : W} (h1 : σ.f s = .w x) (h2 : σ.h 1 = some (.box (cs'.map C.d))) (h3 : σ.f t = .w (.c (.ptr 1 1 0 0))) : RetB σ [(s, none)] t cs' (.w x) :=
  ⟨[x], by simp [allSome, resW, h1, asW], rfl, h2, h3⟩
theorem ret_bl {σ : St} {s : Nat} {k : Kd} {t : Nat} {cs' : List D} {x : W} (h1 : ldV σ.h k (σ.f s) = some x) (h2 : σ.h 1 = some (.box (cs'.map C.d))) (h3 : σ.f t = .w (.c (.ptr 1 1 0 0))) : RetB σ [(s, some k)] t cs' (.w x) :=
  ⟨[x], by simp [allSome, resW, h1], rfl, h2, h3⟩
theorem ret_b0 {σ : St} {t : Nat} {cs' : List D} (h2 : σ.h 1 = some (.box (cs'.map C.d))) (h3 : σ.f t = .w (.c (.ptr 1 1 0 0))) : RetB σ [] t cs' (.tup []) :=
  ⟨[], rfl, rfl, h2, h3⟩
theorem denM_walk {F : FuncId} {fn : Func} {sf : SFn} {H : Hint} (hf : P.funcs[F]? = some fn) (hc : compFn P H fn = some sf) {args : List W} {cs cs' : List D} {res : V} (t : Nat) {f0 : Nat → V} (hlen : args.length = sf.np) (hlk : [t].all (fun t => !sf.body.writes.contains t) = true)
    (ha : args[t]? = some (.c (.ptr 1 1 0 0))) (hi : args.all (fun x => x.ids.all (· == 1)) = true) (hn : noIds res = true) (h0 : putW 0 args uf = f0) (e : awp P G sf.body (endB sf.res t cs' res) ⟨f0, bxH cs, uL [1]⟩) : DenM P G F args (bxH cs) [1] res (bxH cs') [1] := by
  refine denM_of hf hc hlen hlk ⟨fun id o ho => ?_, fun id hid => ?_, fun x hx i hxi => ?_, fun id o ho => ?_, fun i hi => ?_⟩ (Q' := endB sf.res t cs' res) ?_ ?_
  · obtain ⟨rfl, rfl⟩ := bxH_at cs ho
    exact ⟨by simp, fun j hj => by rw [d_ids] at hj; cases hj⟩
  · obtain rfl : id = 1 := by simpa using hid
    rw [bxH_1]
    simp
  · have := List.all_eq_true.1 (List.all_eq_true.1 hi x hx) i hxi
    simpa using this
  · obtain ⟨rfl, rfl⟩ := bxH_at cs' ho
    exact ⟨by simp, fun j hj => by rw [d_ids] at hj; cases hj⟩
  · rw [(v_noren id hn).2] at hi; cases hi
  · have key : ∀ σ : St, RetB σ sf.res t cs' res → RetM σ sf.res [t] args [1] res (bxH cs') [1] := by
      rintro σ ⟨ws, h1, h2, h3, h4⟩
      refine ⟨ws, h1, fun i => i, by rw [(v_noren _ hn).1]; exact h2, fun i o ho => ?_, fun i j hi hj e => e, fun i hi _ => ?_⟩
      · obtain ⟨rfl, rfl⟩ := bxH_at cs' ho
        rw [h3, d_ren]
      · obtain rfl : i = 1 := by simpa using hi
        exact ⟨t, by simp, .c (.ptr 1 1 0 0), ha, by simp [W.lnk], h4⟩
    intro ax σ hq
    cases ax with
    | nrm => exact ⟨fun _ e => (by cases e), key σ hq⟩
    | ret => exact ⟨fun _ e => (by cases e), key σ hq⟩
    | ex i => exact hq.elim
  · have e0 : entryM args (bxH cs) [1] = ⟨f0, bxH cs, uL [1]⟩ := by
      have hh : (fun t => match args[t]? with | some x => V.w x | none => .undef) = putW 0 args uf := congrArg St.f (entryW_eq args)
      rw [← h0, ← hh]
      unfold entryM
      congr 1
      funext i
      unfold uL uL upd uN
      by_cases e : i = 1
      · simp [e]
      · simp [e]
    rw [e0]
    exact e
end
end Go.Proofs.Ytldcgjhfaledfaa
