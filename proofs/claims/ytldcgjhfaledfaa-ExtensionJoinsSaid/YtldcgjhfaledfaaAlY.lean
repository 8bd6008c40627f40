/- The plain logic (24): a function's contract at values of which more is known (nil), by a walk. Own work. -/
import Derived.Test.YtldcgjhfaledfaaAlU
set_option linter.unusedVariables false
set_option linter.unusedSimpArgs false
namespace Go.Proofs.Ytldcgjhfaledfaa
open Go.RowKit
section
variable {P : Program} {G : Glob} {H : Hint}

def entryW (args : List W) : St := ⟨fun t => match args[t]? with | some x => .w x | none => .undef, fun _ => none, fun _ => false⟩
theorem pure_ids {x : W} (h : x.isPure = true) : x.ids = [] := by
  cases x with
  | c x => cases x <;> first | rfl | cases h
  | mix cs => cases h
theorem denW_of {f : FuncId} {fn : Func} {sf : SFn} (hf : P.funcs[f]? = some fn) (hc : compFn P H fn = some sf) {args : List W} {res : V} (hp : ∀ x ∈ args, x.ids = []) (hlen : args.length = sf.np)
    (e : awp P G sf.body (endQ sf.res res) (entryW args)) : DenW P G f args res := by
  have e : awp P G sf.body (fun ax σ => match ax with | .nrm => RetOk σ sf.res res | .ret => RetOk σ sf.res res | .ex _ => False) (entryW args) := e
  unfold compFn at hc
  split at hc
  · rename_i c hb
    split at hc
    · rename_i body rs hbody hres
      split at hc
      · rename_i hnp
        cases hc
        intro w S vs hS hG hargs
        refine (callsIn_wide (n := 3)).1 (callsIn_of_wp_marks (F := Fence.wide) hf hb trivial ?_)
        have hvl : vs.length = args.length := hargs.length
        have hnp' : vs.length ≤ fn.ntmps := by simp only at hlen; omega
        have hsize : (vs.toArray ++ Array.replicate (fn.ntmps - vs.toArray.size) undef).size = fn.ntmps := by simp; omega
        have hinv : Inv G fn.ntmps S (Gh.of w) (entryW args) { tmps := vs.toArray ++ Array.replicate (fn.ntmps - vs.toArray.size) undef, defers := [] } w S (fun _ => none) := by
          refine ⟨hsize, trivial, fun t => ?_, fun t i hi => ?_, fun id o ho => (by cases ho), fun i j b s s' h1 => absurd rfl h1, fun b i hs => ⟨hS b i hs, .inl hs⟩, fun _ _ h => h, hG, Bel.refl _ _ _, KeepsOthers.refl _, Keeps.refl _ _, fun _ _ h => h.elim, fun t v h => by cases h⟩
          · simp only [entryW]
            cases ht : args[t]? with
            | none => trivial
            | some x =>
              obtain ⟨v, h1, h2⟩ := hargs.get? ht
              have hlt := (List.getElem?_eq_some_iff.1 h1).1
              have : (vs.toArray ++ Array.replicate (fn.ntmps - vs.toArray.size) undef).getD t undef = v := by
                rw [Array.getD_eq_getD_getElem?, Array.getElem?_append_left (by simpa using hlt)]
                simp [h1]
              rw [this]
              exact h2
          · simp only [entryW] at hi
            split at hi
            · rename_i x hx
              have := hp x (List.mem_of_getElem? hx)
              have hi : i ∈ x.ids := hi
              rw [this] at hi
              cases hi
            · cases hi
        refine code_sound c hbody (r := none) (fun _ => rfl) (fun t _ => rfl) ?_ hinv e
        intro ax σ a w1 S1 m q h
        have key : RetOk σ rs res → LeavesInM Fence.wide 3 P fn a.tmps (fun e w' => ∃ v S' bl, e = .returned v ∧ Below w.heap.size w w' ∧ (∀ b i, S' b i → (S b i ∨ w.heap.size ≤ b) ∧ b < w'.heap.size) ∧ bl.Nodup ∧ ResV S' w' w.heap.size v res bl) a.defers .returning w1 := by
          rintro ⟨ws, hws, hex⟩
          refine leave_marks h (Nat.le_refl _) h.defers fun w2 a' e2 h => ?_
          rw [← e2]
          obtain ⟨us, h1, h2, h3⟩ := res_all h hres hws
          obtain ⟨S', bl, k1, k2, k3⟩ := ret_ok h (fun _ hx => hx) h2 hex
          have hbel : Below w.heap.size w w2 := h.below.below fun _ _ hx => hx
          refine ⟨oneOr us, ?_, _, S', bl, rfl, hbel, k1, k2, k3⟩
          rw [results_run]
          simp [Array.mapM_eq_mapM_toList, h1, oneOr]
        cases ax with
        | nrm => exact key q
        | ret => exact key q
        | ex _ => exact q.elim
      · cases hc
    · cases hc
  · cases hc
def putW : Nat → List W → (Nat → V) → Nat → V
  | _, [], f => f
  | i, x :: r, f => putW (i + 1) r (upd f i (.w x))
theorem putW_get : ∀ (l : List W) (i : Nat) (f : Nat → V) (t : Nat), putW i l f t = if i ≤ t then (match l[t - i]? with | some x => .w x | none => f t) else f t
  | [], i, f, t => by simp [putW]
  | x :: l, i, f, t => by
    rw [putW, putW_get l (i + 1)]
    by_cases h : i = t
    · subst h
      rw [if_neg (by omega), if_pos (Nat.le_refl _)]
      simp [upd]
    · by_cases h2 : i ≤ t
      · rw [if_pos (by omega), if_pos h2]
        have : t - i = (t - (i + 1)) + 1 := by omega
        rw [this, List.getElem?_cons_succ]
        cases l[t - (i + 1)]? with
        | some y => rfl
        | none => simp [upd, show t ≠ i from fun e => h e.symm]
      · rw [if_neg (by omega), if_neg h2]
        simp [upd, show t ≠ i from fun e => h e.symm]
theorem entryW_eq (args : List W) : entryW args = ⟨putW 0 args uf, hN, uN⟩ := by
  unfold entryW
  congr 1
  funext t
  rw [putW_get]
  simp only [Nat.zero_le, if_true, Nat.sub_zero]
  rfl
theorem denW_walk {F : FuncId} {fn : Func} {sf : SFn} {H : Hint} (hf : P.funcs[F]? = some fn) (hc : compFn P H fn = some sf) {args : List W} {res : V} {f0 : Nat → V} (hp : args.all W.isPure = true) (hlen : args.length = sf.np) (h0 : putW 0 args uf = f0)
    (e : awp P G sf.body (endQ sf.res res) ⟨f0, hN, uN⟩) : DenW P G F args res := by
  refine denW_of hf hc (fun x hx => pure_ids (List.all_eq_true.1 hp x hx)) hlen ?_
  rw [entryW_eq, h0]
  exact e
/-- What has been captured: a pointer to cells that are only read. -/
def D.up : D → W
  | .ref cs => .c (.rp cs)
  | x => .c (.d x)
theorem up_ids (x : D) : x.up.ids = [] := by cases x <;> rfl
theorem up_ok {S : Cells} {w : World} {vs : List Value} {args : List D} (h : All2 (fun v x => RW (fun _ => none) S w v (.c (.d x))) vs args) : All2 (fun v x => RW (fun _ => none) S w v x) vs (args.map D.up) := by
  induction h with
  | nil => exact .nil
  | cons h _ ih =>
    refine .cons ?_ ih
    rename_i v x _ _ _
    cases x <;> first | exact h | exact Reads.cellsAt h
/-- A function's contract, where what it has captured is read through pointers. -/
theorem den_walkU {F : FuncId} {fn : Func} {sf : SFn} {H : Hint} (hf : P.funcs[F]? = some fn) (hc : compFn P H fn = some sf) {args : List D} {res : V} {f0 : Nat → V} (hlen : args.length = sf.np) (h0 : putW 0 (args.map D.up) uf = f0)
    (e : awp P G sf.body (endQ sf.res res) ⟨f0, hN, uN⟩) : Den P G F args res := by
  have h : DenW P G F (args.map D.up) res := by
    refine denW_of hf hc (fun x hx => ?_) (by rw [List.length_map]; exact hlen) ?_
    · obtain ⟨y, _, rfl⟩ := List.mem_map.1 hx
      exact up_ids y
    · rw [entryW_eq, h0]
      exact e
  exact fun w S vs hS hG hA => h w S vs hS hG (up_ok hA)
end
end Go.Proofs.Ytldcgjhfaledfaa
