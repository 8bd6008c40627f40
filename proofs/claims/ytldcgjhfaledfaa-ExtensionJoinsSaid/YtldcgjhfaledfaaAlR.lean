/- The plain logic (18): a walk through code on data by rewriting, from the head on. Own work. -/
import Derived.Test.YtldcgjhfaledfaaAlQ
set_option linter.unusedVariables false
set_option linter.unusedSimpArgs false
namespace Go.Proofs.Ytldcgjhfaledfaa
open Go.RowKit

/-! ### What the walk stands at. The way on is a name with arguments: nothing in it is rewritten before its turn -/
def optK {α : Type} (o : Option α) (k : α → Prop) : Prop := match o with | some x => k x | none => False
theorem optK_some {α : Type} (x : α) (k : α → Prop) : optK (some x) k = k x := rfl
theorem optK_map {α β : Type} (o : Option α) (g : α → β) (k : β → Prop) : optK (o.map g) k = optK o fun v => k (g v) := by cases o <;> rfl
theorem optK_mk {α : Type} {o : Option α} {k : α → Prop} (x : α) (h : o = some x) (e : k x) : optK o k := by rw [h]; exact e
def strV : V → Option ByteArray | .w (.c (.d (.str s))) => some s | _ => none
def tupV : V → Option (List W) | .tup ws => some ws | _ => none

section
variable (P : Program) (G : Glob)
def seqQ (b : SCode) (Q : AX → St → Prop) (e : AX) (s : St) : Prop := match e with | .nrm => awp P G b Q s | e => Q e s
def blkQ (id : Nat) (Q : AX → St → Prop) (e : AX) (s : St) : Prop := match e with | .ex i => if i = id then Q .nrm s else Q (.ex i) s | e => Q e s
/-- Behind the function: what it returns. -/
def endQ (l : List (Nat × Option Kd)) (res : V) (e : AX) (s : St) : Prop := match e with | .nrm => RetOk s l res | .ret => RetOk s l res | .ex _ => False
/-- A branch that is not decided. -/
def cndK (a b : SCode) (Q : AX → St → Prop) (s : St) (t : Bool) : Prop := (t = true → awp P G a Q s) ∧ (t = false → awp P G b Q s)
def grdK (d : Option Nat) (o : SOp) (w : Bool) (r : List SOper) (K : St → Prop) (f : Nat → V) (h : Heap) (u : Nat → Bool) (t : Bool) : Prop :=
  ((t == w) = true → aops P G (⟨d, o, none⟩ :: r) K ⟨f, h, u⟩) ∧ ((t == w) = false → aops P G r K ⟨updO f d (.tup []), h, u⟩)
def guaK (d : Option Nat) (o : SOp) (w : Bool) (r : List SOper) (K : St → Prop) (f : Nat → V) (h : Heap) (u : Nat → Bool) (v : V) : Prop :=
  match asB v with | some t => grdK P G d o w r K f h u t | none => v = .tup [] ∧ aops P G r K ⟨updO f d (.tup []), h, u⟩
section
variable (d : Option Nat) (r : List SOper) (K : St → Prop) (f : Nat → V) (h : Heap) (u : Nat → Bool)
def goV (v : V) : Prop := aops P G r K ⟨updO f d v, h, u⟩
def goW (v : W) : Prop := aops P G r K ⟨updO f d (.w v), h, u⟩
def goC (v : C) : Prop := aops P G r K ⟨updO f d (.w (.c v)), h, u⟩
def goD (v : D) : Prop := aops P G r K ⟨updO f d (.w (.c (.d v))), h, u⟩
def goR (q : R) : Prop := aops P G r K ⟨updO f d q.1, q.2.1, q.2.2⟩
def goH (h' : Heap) : Prop := aops P G r K ⟨updO f d .undef, h', u⟩
def goI (k : IntKind) (v : IntKind × Int) : Prop := aops P G r K ⟨updO f d (.w (.c (.d (.int k (k.wrap v.2))))), h, u⟩
def goN (n : Nat) : Prop := aops P G r K ⟨updO f d (.w (.c (.d (.int .i64 (n : Int))))), h, u⟩
def goB (s : ByteArray) : Prop := aops P G r K ⟨updO f d (.w (.c (.d (.int .i64 (s.size : Int))))), h, u⟩
def goP (y z : V) (t : Bool) : Prop := aops P G r K ⟨updO f d (bif t then y else z), h, u⟩
def goE1 (b p q : Bool) : Prop := aops P G r K ⟨updO f d (.w (.c (.d (.bool (bif b then !(p == q) else (p == q)))))), h, u⟩
def goE (b : Bool) (y : V) (p : Bool) : Prop := optK (asB y) (goE1 P G d r K f h u b p)
def goS (k : Kd) (x : V) (w : W) : Prop := optK (stV h k x w) (goH P G d r K f u)
def goF (o : Nat) (k : Kd) (cs : List C) : Prop := optK (prt cs o k) (goW P G d r K f h u)
def goA1 (s : Nat) (k : Kd) (cs : List C) (j : Nat) : Prop := optK (prt cs (j * s) k) (goW P G d r K f h u)
def goA (s n : Nat) (k : Kd) (y : SX) (cs : List C) : Prop := optK (idx (ev G f) y n) (goA1 P G d r K f h u s k cs)
def goM (cs : List C) : Prop := aops P G r K ⟨updO f d (.w (mkAgg cs)), h, u⟩
def goX (i : Nat) (ws : List W) : Prop := optK ws[i]? (goW P G d r K f h u)
end
end
section
variable {P : Program} {G : Glob} {Q : AX → St → Prop} {K : St → Prop} {r : List SOper} {f : Nat → V} {h : Heap} {u : Nat → Bool} {d : Option Nat} {x y z : SX}
theorem cndK_true (a b : SCode) (σ : St) : cndK P G a b Q σ true = awp P G a Q σ := by simp [cndK]
theorem cndK_false (a b : SCode) (σ : St) : cndK P G a b Q σ false = awp P G b Q σ := by simp [cndK]
theorem cndK_mk {a b : SCode} {σ : St} {t : Bool} (h : t = true → awp P G a Q σ) (k : t = false → awp P G b Q σ) : cndK P G a b Q σ t := ⟨h, k⟩
theorem grdK_do (o : SOp) (w : Bool) : grdK P G d o w r K f h u w = aops P G (⟨d, o, none⟩ :: r) K ⟨f, h, u⟩ := by simp [grdK]
theorem grdK_no1 (o : SOp) : grdK P G d o true r K f h u false = aops P G r K ⟨updO f d (.tup []), h, u⟩ := by simp [grdK]
theorem grdK_no2 (o : SOp) : grdK P G d o false r K f h u true = aops P G r K ⟨updO f d (.tup []), h, u⟩ := by simp [grdK]
theorem guaK_b (o : SOp) (w t : Bool) : guaK P G d o w r K f h u (.w (.c (.d (.bool t)))) = grdK P G d o w r K f h u t := rfl
theorem guaK_gone (o : SOp) (w : Bool) : guaK P G d o w r K f h u (.tup []) = aops P G r K ⟨updO f d (.tup []), h, u⟩ := by simp [guaK, asB]

/-! ### Code -/
theorem awp_skip (σ : St) : awp P G .skip Q σ = Q .nrm σ := rfl
theorem awp_reg (l : List SOper) (σ : St) : awp P G (.reg l) Q σ = aops P G l (Q .nrm) σ := rfl
theorem awp_seq (a b : SCode) (σ : St) : awp P G (.seq a b) Q σ = awp P G a (seqQ P G b Q) σ := by
  show awp P G a _ σ = _
  congr 1
theorem awp_cond (a b : SCode) : awp P G (.cond x a b) Q ⟨f, h, u⟩ = optK (asB (ev G f x)) (cndK P G a b Q ⟨f, h, u⟩) := by
  show (match asB (ev G f x) with | some t => _ | none => False) = _
  cases asB (ev G f x) <;> rfl
theorem awp_block (id : Nat) (c : SCode) (σ : St) : awp P G (.block id c) Q σ = awp P G c (blkQ id Q) σ := by
  show awp P G c _ σ = _
  congr 1
theorem awp_exit (id : Nat) (σ : St) : awp P G (.exit id) Q σ = Q (.ex id) σ := rfl
theorem awp_ret (σ : St) : awp P G .ret Q σ = Q .ret σ := rfl
theorem seqQ_nrm (b : SCode) (σ : St) : seqQ P G b Q .nrm σ = awp P G b Q σ := rfl
theorem seqQ_ex (b : SCode) (i : Nat) (σ : St) : seqQ P G b Q (.ex i) σ = Q (.ex i) σ := rfl
theorem seqQ_ret (b : SCode) (σ : St) : seqQ P G b Q .ret σ = Q .ret σ := rfl
theorem blkQ_nrm (id : Nat) (σ : St) : blkQ id Q .nrm σ = Q .nrm σ := rfl
theorem blkQ_ret (id : Nat) (σ : St) : blkQ id Q .ret σ = Q .ret σ := rfl
theorem blkQ_eq (id : Nat) (σ : St) : blkQ id Q (.ex id) σ = Q .nrm σ := by simp [blkQ]
theorem blkQ_ne (id i : Nat) (σ : St) (hn : (i == id) = false) : blkQ id Q (.ex i) σ = Q (.ex i) σ := by
  have : i ≠ id := by simpa using hn
  simp [blkQ, this]
theorem endQ_nrm (l : List (Nat × Option Kd)) (res : V) (σ : St) : endQ l res .nrm σ = RetOk σ l res := rfl
theorem endQ_ret (l : List (Nat × Option Kd)) (res : V) (σ : St) : endQ l res .ret σ = RetOk σ l res := rfl
theorem aops_nil (σ : St) : aops P G [] K σ = K σ := rfl

/-! ### Operations -/
theorem st_guard (s : SOp) (t : Nat) (b : Bool) : aops P G (⟨d, s, some (t, b)⟩ :: r) K ⟨f, h, u⟩ = guaK P G d s b r K f h u (f t) := by
  show (match asB (f t) with | some c => _ | none => _) = _
  unfold guaK
  cases asB (f t) with
  | none => rfl
  | some c =>
    simp only [grdK]
    cases c <;> cases b <;> simp <;> rfl
def SOp.isCall : SOp → Bool | .call .. => true | .callM .. => true | _ => false
theorem st_ef (s : SOp) (hs : s.isCall = false) : aops P G (⟨d, s, none⟩ :: r) K ⟨f, h, u⟩ = optK (ef (ev G f) h u (d.getD 0) s) (goR P G d r K f) := by
  have key : ∀ J : R → Prop, opw P G s (ev G f) h u (d.getD 0) J = optK (ef (ev G f) h u (d.getD 0) s) J := by
    intro J
    have m : ∀ o : Option R, (match o with | some r => J r | none => False) = optK o J := fun o => by cases o <;> rfl
    rw [← m]
    cases s <;> first | rfl | (simp [SOp.isCall] at hs; done)
  exact key _
/-- By what it does. -/
theorem st_is {s : SOp} (hs : s.isCall = false) {q : R} (e : ef (ev G f) h u (d.getD 0) s = some q) (k : goR P G d r K f q) : aops P G (⟨d, s, none⟩ :: r) K ⟨f, h, u⟩ := by
  rw [st_ef s hs, e]; exact k
theorem goV_do (v : V) : goV P G d r K f h u v = aops P G r K ⟨updO f d v, h, u⟩ := rfl
theorem goW_do (v : W) : goW P G d r K f h u v = aops P G r K ⟨updO f d (.w v), h, u⟩ := rfl
theorem goC_do (v : C) : goC P G d r K f h u v = aops P G r K ⟨updO f d (.w (.c v)), h, u⟩ := rfl
theorem goD_do (v : D) : goD P G d r K f h u v = aops P G r K ⟨updO f d (.w (.c (.d v))), h, u⟩ := rfl
theorem goR_do (v : V) (h' : Heap) (u' : Nat → Bool) : goR P G d r K f (v, h', u') = aops P G r K ⟨updO f d v, h', u'⟩ := rfl
theorem goH_do (h' : Heap) : goH P G d r K f u h' = aops P G r K ⟨updO f d .undef, h', u⟩ := rfl
theorem goI_do (k k' : IntKind) (n : Int) : goI P G d r K f h u k (k', n) = aops P G r K ⟨updO f d (.w (.c (.d (.int k (k.wrap n))))), h, u⟩ := rfl
theorem goN_do (n : Nat) : goN P G d r K f h u n = aops P G r K ⟨updO f d (.w (.c (.d (.int .i64 (n : Int))))), h, u⟩ := rfl
theorem goB_do (s : ByteArray) : goB P G d r K f h u s = aops P G r K ⟨updO f d (.w (.c (.d (.int .i64 (s.size : Int))))), h, u⟩ := rfl
theorem goP_true (y z : V) : goP P G d r K f h u y z true = aops P G r K ⟨updO f d y, h, u⟩ := rfl
theorem goP_false (y z : V) : goP P G d r K f h u y z false = aops P G r K ⟨updO f d z, h, u⟩ := rfl
theorem goE1_t (p q : Bool) : goE1 P G d r K f h u true p q = aops P G r K ⟨updO f d (.w (.c (.d (.bool (!(p == q)))))), h, u⟩ := rfl
theorem goE1_f (p q : Bool) : goE1 P G d r K f h u false p q = aops P G r K ⟨updO f d (.w (.c (.d (.bool (p == q))))), h, u⟩ := rfl
theorem goE_do (b : Bool) (y : V) (p : Bool) : goE P G d r K f h u b y p = optK (asB y) (goE1 P G d r K f h u b p) := rfl
theorem goS_do (k : Kd) (v : V) (w : W) : goS P G d r K f h u k v w = optK (stV h k v w) (goH P G d r K f u) := rfl
theorem goF_do (o : Nat) (k : Kd) (cs : List C) : goF P G d r K f h u o k cs = optK (prt cs o k) (goW P G d r K f h u) := rfl
theorem goA1_do (s : Nat) (k : Kd) (cs : List C) (j : Nat) : goA1 P G d r K f h u s k cs j = optK (prt cs (j * s) k) (goW P G d r K f h u) := rfl
theorem goA_do (s n : Nat) (k : Kd) (w : SX) (cs : List C) : goA P G d r K f h u s n k w cs = optK (idx (ev G f) w n) (goA1 P G d r K f h u s k cs) := rfl
theorem goM_do (cs : List C) : goM P G d r K f h u cs = aops P G r K ⟨updO f d (.w (mkAgg cs)), h, u⟩ := rfl
theorem goX_do (i : Nat) (ws : List W) : goX P G d r K f h u i ws = optK ws[i]? (goW P G d r K f h u) := rfl
theorem st_mv  : aops P G (⟨d, .mv x, none⟩ :: r) K ⟨f, h, u⟩ = aops P G r K ⟨updO f d (ev G f x), h, u⟩ := rfl
theorem st_lenArr (n : Nat) : aops P G (⟨d, .lenArr n, none⟩ :: r) K ⟨f, h, u⟩ = aops P G r K ⟨updO f d (.w (.c (.d (.int .i64 n)))), h, u⟩ := rfl
theorem st_pick  : aops P G (⟨d, .pick x y z, none⟩ :: r) K ⟨f, h, u⟩ = optK (asB (ev G f x)) (goP P G d r K f h u (ev G f y) (ev G f z)) := by
  rw [st_ef _ rfl]
  simp only [ef]
  cases asB (ev G f x) with
  | none => rfl
  | some t => cases t <;> rfl
theorem st_bin (op : BinOp) : aops P G (⟨d, .bin op x y, none⟩ :: r) K ⟨f, h, u⟩ = optK (binV op (ev G f x) (ev G f y)) (goD P G d r K f h u) := by
  rw [st_ef _ rfl]; exact optK_map _ _ _
theorem st_eqA (b : Bool) (ks : List Nat) : aops P G (⟨d, .eqA b ks x y, none⟩ :: r) K ⟨f, h, u⟩ = optK (eqV b ks (ev G f x) (ev G f y)) (goD P G d r K f h u) := by
  rw [st_ef _ rfl]; exact optK_map _ _ _
theorem st_un (op : UnOp) : aops P G (⟨d, .un op x, none⟩ :: r) K ⟨f, h, u⟩ = optK (unV op (ev G f x)) (goD P G d r K f h u) := by
  rw [st_ef _ rfl]; exact optK_map _ _ _
theorem st_conv (k : IntKind) : aops P G (⟨d, .conv k x, none⟩ :: r) K ⟨f, h, u⟩ = optK (asI (ev G f x)) (goI P G d r K f h u k) := by
  rw [st_ef _ rfl]; exact optK_map _ _ _
theorem st_eqB (b : Bool) : aops P G (⟨d, .eqB b x y, none⟩ :: r) K ⟨f, h, u⟩ = optK (asB (ev G f x)) (goE P G d r K f h u b (ev G f y)) := by
  rw [st_ef _ rfl]
  simp only [ef]
  cases hp : asB (ev G f x) with
  | none => rfl
  | some p =>
    show _ = optK (asB (ev G f y)) _
    cases asB (ev G f y) with
    | none => rfl
    | some q => cases b <;> rfl
theorem st_len  : aops P G (⟨d, .len x, none⟩ :: r) K ⟨f, h, u⟩ = optK (lenV' (ev G f x)) (goN P G d r K f h u) := by
  rw [st_ef _ rfl]; exact optK_map _ _ _
theorem st_lenStr  : aops P G (⟨d, .lenStr x, none⟩ :: r) K ⟨f, h, u⟩ = optK (strV (ev G f x)) (goB P G d r K f h u) := by
  rw [st_ef _ rfl]
  have : ef (ev G f) h u (d.getD 0) (.lenStr x) = (strV (ev G f x)).map fun s => (vd (.int .i64 s.size), h, u) := by
    simp only [ef]
    unfold strV
    split
    · rename_i e; rw [e]; rfl
    · rename_i hn
      split
      · rename_i e; exact absurd e (hn _)
      · rfl
  rw [this]
  exact optK_map _ _ _
theorem st_load (k : Kd) : aops P G (⟨d, .load k x, none⟩ :: r) K ⟨f, h, u⟩ = optK (ldV h k (ev G f x)) (goW P G d r K f h u) := by
  rw [st_ef _ rfl]; exact optK_map _ _ _
theorem st_loadB (k : Kd) : aops P G (⟨d, .loadB k x, none⟩ :: r) K ⟨f, h, u⟩ = optK (ldB h k (ev G f x)) (goW P G d r K f h u) := by
  rw [st_ef _ rfl]; exact optK_map _ _ _
theorem st_loadX0 (k : Kd) : aops P G (⟨d, .loadX k x [], none⟩ :: r) K ⟨f, h, u⟩ = optK (ldX h k [] (ev G f x)) (goW P G d r K f h u) := by
  rw [st_ef _ rfl]; exact optK_map _ _ _
theorem st_loadX1 (k : Kd) : aops P G (⟨d, .loadX k x [y], none⟩ :: r) K ⟨f, h, u⟩ = optK (ldX h k [ev G f y] (ev G f x)) (goW P G d r K f h u) := by
  rw [st_ef _ rfl]; exact optK_map _ _ _
theorem st_loadX2 (k : Kd) : aops P G (⟨d, .loadX k x [y, z], none⟩ :: r) K ⟨f, h, u⟩ = optK (ldX h k [ev G f y, ev G f z] (ev G f x)) (goW P G d r K f h u) := by
  rw [st_ef _ rfl]; exact optK_map _ _ _
theorem st_store (k : Kd) : aops P G (⟨d, .store k x y, none⟩ :: r) K ⟨f, h, u⟩ = optK (asW (ev G f y)) (goS P G d r K f h u k (ev G f x)) := by
  rw [st_ef _ rfl]
  simp only [ef]
  cases asW (ev G f y) with
  | none => rfl
  | some w => exact optK_map _ _ _
theorem st_fieldAddr (o : Nat) : aops P G (⟨d, .fieldAddr o x, none⟩ :: r) K ⟨f, h, u⟩ = optK (fdV o (ev G f x)) (goC P G d r K f h u) := by
  rw [st_ef _ rfl]; exact optK_map _ _ _
theorem st_field (o : Nat) (k : Kd) : aops P G (⟨d, .field o k x, none⟩ :: r) K ⟨f, h, u⟩ = optK (aggV (ev G f x)) (goF P G d r K f h u o k) := by
  rw [st_ef _ rfl]
  simp only [ef]
  cases aggV (ev G f x) with
  | none => rfl
  | some w => exact optK_map _ _ _
theorem st_idxArr (s n : Nat) (k : Kd) : aops P G (⟨d, .idxArr s n k x y, none⟩ :: r) K ⟨f, h, u⟩ = optK (aggV (ev G f x)) (goA P G d r K f h u s n k y) := by
  rw [st_ef _ rfl]
  simp only [ef]
  cases aggV (ev G f x) with
  | none => rfl
  | some w =>
    show _ = optK (idx (ev G f) y n) _
    cases idx (ev G f) y n with
    | none => rfl
    | some j => exact optK_map _ _ _
theorem st_extract (i : Nat) : aops P G (⟨d, .extract x i, none⟩ :: r) K ⟨f, h, u⟩ = optK (tupV (ev G f x)) (goX P G d r K f h u i) := by
  rw [st_ef _ rfl]
  simp only [ef]
  cases ev G f x with
  | tup ws => exact optK_map _ _ _
  | _ => rfl
theorem st_build (c : List C) (ps : List (Nat × Nat × SX)) : aops P G (⟨d, .build c ps, none⟩ :: r) K ⟨f, h, u⟩ = optK (parts (ev G f) ps c) (goM P G d r K f h u) := by
  rw [st_ef _ rfl]; exact optK_map _ _ _
theorem st_alloc (c : List C) : aops P G (⟨d, .alloc c, none⟩ :: r) K ⟨f, h, u⟩ = optK (ef (ev G f) h u (d.getD 0) (.alloc c)) (goR P G d r K f) := st_ef _ rfl
theorem st_allocArr (c : List D) : aops P G (⟨d, .allocArr c, none⟩ :: r) K ⟨f, h, u⟩ = optK (ef (ev G f) h u (d.getD 0) (.allocArr c)) (goR P G d r K f) := st_ef _ rfl
theorem st_nilOwn (s : Nat) : aops P G (⟨d, .nilOwn s, none⟩ :: r) K ⟨f, h, u⟩ = optK (ef (ev G f) h u (d.getD 0) (.nilOwn s)) (goR P G d r K f) := st_ef _ rfl
theorem st_box (m : Bx) : aops P G (⟨d, .box m x, none⟩ :: r) K ⟨f, h, u⟩ = optK (ef (ev G f) h u (d.getD 0) (.box m x)) (goR P G d r K f) := st_ef _ rfl
theorem st_bldSl (b : Bool) (n s : Nat) (c : D) (ps : List (Nat × SX)) : aops P G (⟨d, .bldSl b n s c ps, none⟩ :: r) K ⟨f, h, u⟩ = optK (ef (ev G f) h u (d.getD 0) (.bldSl b n s c ps)) (goR P G d r K f) := st_ef _ rfl
theorem st_bldFz (n s : Nat) (c : D) (ps : List (Nat × SX)) : aops P G (⟨d, .bldFz n s c ps, none⟩ :: r) K ⟨f, h, u⟩ = optK (ef (ev G f) h u (d.getD 0) (.bldFz n s c ps)) (goR P G d r K f) := st_ef _ rfl
theorem st_buildF (c : List C) (ps : List (Nat × Nat × SX)) : aops P G (⟨d, .buildF c ps, none⟩ :: r) K ⟨f, h, u⟩ = optK (ef (ev G f) h u (d.getD 0) (.buildF c ps)) (goR P G d r K f) := st_ef _ rfl
theorem st_b2s  : aops P G (⟨d, .b2s x, none⟩ :: r) K ⟨f, h, u⟩ = optK (ef (ev G f) h u (d.getD 0) (.b2s x)) (goR P G d r K f) := st_ef _ rfl
theorem st_s2b (b : Bool) : aops P G (⟨d, .s2b b x, none⟩ :: r) K ⟨f, h, u⟩ = optK (ef (ev G f) h u (d.getD 0) (.s2b b x)) (goR P G d r K f) := st_ef _ rfl
theorem st_make (s b : Nat) (c : D) : aops P G (⟨d, .make s b c x y, none⟩ :: r) K ⟨f, h, u⟩ = optK (ef (ev G f) h u (d.getD 0) (.make s b c x y)) (goR P G d r K f) := st_ef _ rfl
theorem st_slice (s : Nat) (a b c : Option SX) : aops P G (⟨d, .slice s x a b c, none⟩ :: r) K ⟨f, h, u⟩ = optK (ef (ev G f) h u (d.getD 0) (.slice s x a b c)) (goR P G d r K f) := st_ef _ rfl
theorem st_sliceStr (a b : Option SX) : aops P G (⟨d, .sliceStr x a b, none⟩ :: r) K ⟨f, h, u⟩ = optK (ef (ev G f) h u (d.getD 0) (.sliceStr x a b)) (goR P G d r K f) := st_ef _ rfl
theorem st_sliceArr (s n : Nat) (a b : Option SX) : aops P G (⟨d, .sliceArr s n x a b, none⟩ :: r) K ⟨f, h, u⟩ = optK (ef (ev G f) h u (d.getD 0) (.sliceArr s n x a b)) (goR P G d r K f) := st_ef _ rfl
theorem st_idxSl (s : Nat) : aops P G (⟨d, .idxSl s x y, none⟩ :: r) K ⟨f, h, u⟩ = optK (ef (ev G f) h u (d.getD 0) (.idxSl s x y)) (goR P G d r K f) := st_ef _ rfl
theorem st_idxPa (s n : Nat) : aops P G (⟨d, .idxPa s n x y, none⟩ :: r) K ⟨f, h, u⟩ = optK (ef (ev G f) h u (d.getD 0) (.idxPa s n x y)) (goR P G d r K f) := st_ef _ rfl
theorem st_idxStr  : aops P G (⟨d, .idxStr x y, none⟩ :: r) K ⟨f, h, u⟩ = optK (ef (ev G f) h u (d.getD 0) (.idxStr x y)) (goR P G d r K f) := st_ef _ rfl
theorem st_app (b : Bool) (s n : Nat) : aops P G (⟨d, .app b s n x y, none⟩ :: r) K ⟨f, h, u⟩ = optK (ef (ev G f) h u (d.getD 0) (.app b s n x y)) (goR P G d r K f) := st_ef _ rfl
theorem st_appN (b : Bool) (s n : Nat) : aops P G (⟨d, .appN b s n x y, none⟩ :: r) K ⟨f, h, u⟩ = optK (ef (ev G f) h u (d.getD 0) (.appN b s n x y)) (goR P G d r K f) := st_ef _ rfl
theorem st_copy (s : Nat) : aops P G (⟨d, .copy s x y, none⟩ :: r) K ⟨f, h, u⟩ = optK (ef (ev G f) h u (d.getD 0) (.copy s x y)) (goR P G d r K f) := st_ef _ rfl
theorem st_min (l : List SX) : aops P G (⟨d, .min l, none⟩ :: r) K ⟨f, h, u⟩ = optK (ef (ev G f) h u (d.getD 0) (.min l)) (goR P G d r K f) := st_ef _ rfl
theorem st_max (l : List SX) : aops P G (⟨d, .max l, none⟩ :: r) K ⟨f, h, u⟩ = optK (ef (ev G f) h u (d.getD 0) (.max l)) (goR P G d r K f) := st_ef _ rfl
theorem st_frz  : aops P G (⟨d, .frz x, none⟩ :: r) K ⟨f, h, u⟩ = optK (ef (ev G f) h u (d.getD 0) (.frz x)) (goR P G d r K f) := st_ef _ rfl
theorem st_mark  : aops P G (⟨d, .mark x, none⟩ :: r) K ⟨f, h, u⟩ = optK (ef (ev G f) h u (d.getD 0) (.mark x)) (goR P G d r K f) := st_ef _ rfl
theorem st_markF  : aops P G (⟨d, .markF x, none⟩ :: r) K ⟨f, h, u⟩ = optK (ef (ev G f) h u (d.getD 0) (.markF x)) (goR P G d r K f) := st_ef _ rfl
theorem st_callOk0 {fn : FuncId} {xs : List SX} {own : Option (Nat × Nat)} {res : V} (h2 : CallOk P G h fn (xs.map (ev G f)) res) (h3 : OwnOk h (xs.map (ev G f)) res)
    (e : optK (impV h u (d.getD 0) own res) (goR P G d r K f)) (hp : PureOk own (xs.map (ev G f))) : aops P G (⟨d, .call fn xs own, none⟩ :: r) K ⟨f, h, u⟩ := by
  have e' : (match impV h u (d.getD 0) own res with | some r' => aops P G r K ⟨updO f d r'.1, r'.2.1, r'.2.2⟩ | none => False) := by
    revert e
    cases impV h u (d.getD 0) own res <;> exact fun h => h
  exact ⟨res, h2, h3, hp, e'⟩
theorem st_callOk {fn : FuncId} {xs : List SX} {own : Option (Nat × Nat)} {res : V} (h2 : CallOk P G h fn (xs.map (ev G f)) res) (h3 : ((xs.map (ev G f)).any V.hasOwn = false ∨ res.flat = true))
    (e : optK (impV h u (d.getD 0) own res) (goR P G d r K f)) (hp : PureOk own (xs.map (ev G f))) : aops P G (⟨d, .call fn xs own, none⟩ :: r) K ⟨f, h, u⟩ :=
  st_callOk0 h2 (fun hh => by rcases h3 with h3 | h3; (· rw [h3] at hh; cases hh); exact .inl h3) e hp
/-- .. with rows of the function's own that hold no bytes, and a result that holds nothing but bytes. -/
theorem st_callB {fn : FuncId} {xs : List SX} {own : Option (Nat × Nat)} {ds : List D} {res : V} (h2 : Den P G fn ds res) (h1 : toVs h (xs.map (ev G f)) = some ds) (h3 : res.byt = true) (h4 : noU8s (xs.map (ev G f)) ds = true)
    (e : optK (impV h u (d.getD 0) own res) (goR P G d r K f)) (hne : fn ≠ dynF := by decide) (hp : PureOk own (xs.map (ev G f)) := by first | exact pok_none _ | exact pok_own _ _ _ | exact pok_pure _ _ rfl) : aops P G (⟨d, .call fn xs own, none⟩ :: r) K ⟨f, h, u⟩ :=
  st_callOk0 (.inl ⟨hne, ds, h1, h2⟩) (fun _ => .inr ⟨h3, ds, h1, h4⟩) e hp
theorem st_call {fn : FuncId} {xs : List SX} {own : Option (Nat × Nat)} {ds : List D} {res : V} (h2 : Den P G fn ds res) (h1 : toVs h (xs.map (ev G f)) = some ds) (h3 : ((xs.map (ev G f)).any V.hasOwn = false ∨ res.flat = true))
    (e : optK (impV h u (d.getD 0) own res) (goR P G d r K f)) (hne : fn ≠ dynF := by decide) (hp : PureOk own (xs.map (ev G f)) := by first | exact pok_none _ | exact pok_own _ _ _ | exact pok_pure _ _ rfl) : aops P G (⟨d, .call fn xs own, none⟩ :: r) K ⟨f, h, u⟩ :=
  st_callOk (.inl ⟨hne, ds, h1, h2⟩) h3 e hp
/-- .. of a function value. -/
theorem st_callF {g : FuncId} {caps : List D} {xs : List SX} {own : Option (Nat × Nat)} {ds : List D} {res : V} (h2 : DenF P G g caps ds res) (h1 : toVs h (xs.map (ev G f)) = some (.fn g caps :: ds)) (h3 : ((xs.map (ev G f)).any V.hasOwn = false ∨ res.flat = true))
    (e : optK (impV h u (d.getD 0) own res) (goR P G d r K f)) (hp : PureOk own (xs.map (ev G f)) := by first | exact pok_none _ | exact pok_own _ _ _ | exact pok_pure _ _ rfl) : aops P G (⟨d, .call 1000000007 xs own, none⟩ :: r) K ⟨f, h, u⟩ :=
  st_callOk (.inr (.inl ⟨rfl, g, caps, ds, h1, h2⟩)) h3 e hp
/-- .. with values of which more is known. -/
theorem st_callW {fn : FuncId} {xs : List SX} {own : Option (Nat × Nat)} {ws : List W} {res : V} (h2 : DenW P G fn ws res) (h1 : xs.map (ev G f) = ws.map V.w) (h4 : ws.all W.isPure = true) (h3 : ((xs.map (ev G f)).any V.hasOwn = false ∨ res.flat = true))
    (e : optK (impV h u (d.getD 0) own res) (goR P G d r K f)) (hne : fn ≠ dynF := by decide) (hp : PureOk own (xs.map (ev G f)) := by first | exact pok_none _ | exact pok_own _ _ _ | exact pok_pure _ _ rfl) : aops P G (⟨d, .call fn xs own, none⟩ :: r) K ⟨f, h, u⟩ :=
  st_callOk (.inr (.inr ⟨hne, ws, h1, List.all_eq_true.1 h4, h2⟩)) h3 e hp
theorem upd_get {α : Type} (f : Nat → α) (i j : Nat) (x : α) (h : (j == i) = false) : upd f i x j = f j := upd_ne f x (by simpa using h)
theorem updO_some {α : Type} (f : Nat → α) (i : Nat) (x : α) : updO f (some i) x = upd f i x := rfl
theorem updO_none {α : Type} (f : Nat → α) (x : α) : updO f none x = f := rfl
theorem ev_t (n : Nat) : ev G f (.t n) = f n := rfl
theorem ev_k (v : W) : ev G f (.k v) = .w v := rfl

/-! ### The entry -/
def uf : Nat → V := fun _ => .undef
def hN : Heap := fun _ => none
def uN : Nat → Bool := fun _ => false
def putAll : Nat → List D → (Nat → V) → Nat → V
  | _, [], f => f
  | i, x :: r, f => putAll (i + 1) r (upd f i (.w (.c (.d x))))
theorem putAll_get : ∀ (l : List D) (i : Nat) (f : Nat → V) (t : Nat), putAll i l f t = if i ≤ t then (match l[t - i]? with | some x => vd x | none => f t) else f t
  | [], i, f, t => by simp [putAll]
  | x :: l, i, f, t => by
    rw [putAll, putAll_get l (i + 1)]
    by_cases h : i = t
    · subst h
      rw [if_neg (by omega), if_pos (Nat.le_refl _)]
      simp [upd, vd]
    · by_cases h2 : i ≤ t
      · rw [if_pos (by omega), if_pos h2]
        have : t - i = (t - (i + 1)) + 1 := by omega
        rw [this, List.getElem?_cons_succ]
        cases l[t - (i + 1)]? with
        | some y => rfl
        | none => simp [upd, show t ≠ i from fun e => h e.symm]
      · rw [if_neg (by omega), if_neg h2]
        simp [upd, show t ≠ i from fun e => h e.symm]
theorem entry_eq (args : List D) : entry args = ⟨putAll 0 args uf, hN, uN⟩ := by
  unfold entry
  congr 1
  funext t
  rw [putAll_get]
  simp only [Nat.zero_le, if_true, Nat.sub_zero]
  rfl
theorem hN_get (i : Nat) : hN i = none := rfl
theorem uN_get (i : Nat) : uN i = false := rfl
theorem uf_get (i : Nat) : uf i = .undef := rfl
theorem den_walk {F : FuncId} {fn : Func} {sf : SFn} {H : Hint} (hf : P.funcs[F]? = some fn) (hc : compFn P H fn = some sf) {args : List D} {res : V} {f0 : Nat → V} (hlen : args.length = sf.np) (h0 : putAll 0 args uf = f0)
    (e : awp P G sf.body (endQ sf.res res) ⟨f0, hN, uN⟩) : Den P G F args res := by
  refine den_of hf hc hlen ?_
  rw [entry_eq, h0]
  exact e
end

/-! ### Values -/
theorem asI_do (k : IntKind) (n : Int) : asI (.w (.c (.d (.int k n)))) = some (k, n) := rfl
theorem asB_do (b : Bool) : asB (.w (.c (.d (.bool b)))) = some b := rfl
theorem asW_do (w : W) : asW (.w w) = some w := rfl
theorem aggV_d (cs : List D) : aggV (.w (.c (.d (.agg cs)))) = some (cs.map C.d) := rfl
theorem aggV_m (cs : List C) : aggV (.w (.mix cs)) = some cs := rfl
theorem strV_do (s : ByteArray) : strV (.w (.c (.d (.str s)))) = some s := rfl
theorem tupV_do (ws : List W) : tupV (.tup ws) = some ws := rfl
theorem lenV_d (es : List D) : lenV' (.w (.c (.d (.sl es)))) = some es.length := rfl
theorem lenV_nil : lenV' (.w (.c .nil)) = some 0 := rfl
theorem lenV_own (id sz off n : Nat) : lenV' (.w (.c (.own id sz off n))) = some n := rfl
theorem fdV_ptr (off id sz i o : Nat) : fdV off (.w (.c (.ptr id sz i o))) = some (.ptr id sz i (o + off)) := rfl
theorem fdV_rp (off : Nat) (cs : List D) : fdV off (.w (.c (.rp cs))) = some (.rp (cs.drop off)) := rfl
theorem binV_int (op : BinOp) (k k' : IntKind) (a b : Int) : binV op (.w (.c (.d (.int k a)))) (.w (.c (.d (.int k' b)))) = binI op k a k' b := rfl
theorem binV_str (op : BinOp) (a b : ByteArray) : binV op (.w (.c (.d (.str a)))) (.w (.c (.d (.str b)))) = binS op a b := rfl
theorem binI_add (k : IntKind) (a b : Int) : binI .add k a k b = some (.int k (k.wrap (a + b))) := by simp [binI]
theorem binI_sub (k : IntKind) (a b : Int) : binI .sub k a k b = some (.int k (k.wrap (a - b))) := by simp [binI]
theorem binI_mul (k : IntKind) (a b : Int) : binI .mul k a k b = some (.int k (k.wrap (a * b))) := by simp [binI]
theorem binI_eql (k : IntKind) (a b : Int) : binI .eql k a k b = some (.bool (if a = b then true else false)) := by
  simp only [binI, ne_eq, not_true_eq_false, if_false, Option.some.injEq, D.bool.injEq]
  by_cases h : a = b <;> simp [h]
theorem binI_neq (k : IntKind) (a b : Int) : binI .neq k a k b = some (.bool (if a = b then false else true)) := by
  simp only [binI, ne_eq, not_true_eq_false, if_false, Option.some.injEq, D.bool.injEq]
  by_cases h : a = b <;> simp [h]
theorem binI_lss (k : IntKind) (a b : Int) : binI .lss k a k b = some (.bool (if a < b then true else false)) := by
  simp only [binI, ne_eq, not_true_eq_false, if_false, Option.some.injEq, D.bool.injEq]
  by_cases h : a < b <;> simp [h]
theorem binI_leq (k : IntKind) (a b : Int) : binI .leq k a k b = some (.bool (if a ≤ b then true else false)) := by
  simp only [binI, ne_eq, not_true_eq_false, if_false, Option.some.injEq, D.bool.injEq]
  by_cases h : a ≤ b <;> simp [h]
theorem binI_gtr (k : IntKind) (a b : Int) : binI .gtr k a k b = some (.bool (if a > b then true else false)) := by
  simp only [binI, ne_eq, not_true_eq_false, if_false, Option.some.injEq, D.bool.injEq]
  by_cases h : a > b <;> simp [h]
theorem binI_geq (k : IntKind) (a b : Int) : binI .geq k a k b = some (.bool (if a ≥ b then true else false)) := by
  simp only [binI, ne_eq, not_true_eq_false, if_false, Option.some.injEq, D.bool.injEq]
  by_cases h : a ≥ b <;> simp [h]
theorem binI_and (k : IntKind) (a b : Int) : binI .and k a k b = some (.int k (bits .and k a b)) := by simp [binI]
theorem binI_or (k : IntKind) (a b : Int) : binI .or k a k b = some (.int k (bits .or k a b)) := by simp [binI]
theorem binI_xor (k : IntKind) (a b : Int) : binI .xor k a k b = some (.int k (bits .xor k a b)) := by simp [binI]
theorem binI_andNot (k : IntKind) (a b : Int) : binI .andNot k a k b = some (.int k (bits .andNot k a b)) := by simp [binI]
theorem binI_shl (k k' : IntKind) (a b : Int) (h : 0 ≤ b) : binI .shl k a k' b = some (.int k (k.wrap (a * 2 ^ min b.toNat k.bits))) := by simp [binI, h]
theorem binI_shr (k k' : IntKind) (a b : Int) (h : 0 ≤ b) : binI .shr k a k' b = some (.int k (a / 2 ^ min b.toNat k.bits)) := by simp [binI, h]
theorem binI_quo (k : IntKind) (a b : Int) (h : b ≠ 0) : binI .quo k a k b = some (.int k (k.wrap (a.tdiv b))) := by simp [binI, h]
theorem binI_rem (k : IntKind) (a b : Int) (h : b ≠ 0) : binI .rem k a k b = some (.int k (a.tmod b)) := by simp [binI, h]
theorem unV_neg (k : IntKind) (n : Int) : unV .neg (.w (.c (.d (.int k n)))) = some (.int k (k.wrap (0 - n))) := rfl
theorem unV_not (b : Bool) : unV .not (.w (.c (.d (.bool b)))) = some (.bool !b) := rfl
theorem unV_xor (k : IntKind) (n : Int) : unV .xor (.w (.c (.d (.int k n)))) = some (.int k (bits .xor k (if k.signed then -1 else k.max) n)) := rfl
theorem newO_do (h : Heap) (u : Nat → Bool) (n : Nat) (o : Ob) (c : C) (hu : u (8 * n) = false) : newO h u n o c = some (.w (.c c), upd h (8 * n) (some o), upd u (8 * n) true) := newO_at hu
theorem ef_alloc (ρ : SX → V) (h : Heap) (u : Nat → Bool) (n : Nat) (c : List C) : ef ρ h u n (.alloc c) = newO h u n (.box c) (.ptr (8 * n) 1 0 0) := rfl
theorem ef_allocArr (ρ : SX → V) (h : Heap) (u : Nat → Bool) (n : Nat) (c : List D) : ef ρ h u n (.allocArr c) = newO h u n (.row 1 c) (.pa (8 * n) 1) := rfl
theorem ef_nilOwn (ρ : SX → V) (h : Heap) (u : Nat → Bool) (n s : Nat) : ef ρ h u n (.nilOwn s) = newO h u n (.row s []) (.own (8 * n) s 0 0) := rfl
theorem stO_box (kd : Kd) (y : W) (i o : Nat) (cs : List C) : stO kd y i o (.box cs) = if (wcells y).length = kd.size ∧ i + o + kd.size ≤ cs.length then some (.box (setR cs (i + o) (wcells y))) else none := rfl
theorem someD (n d : Nat) : (some n).getD d = n := rfl
theorem ldX_rp (h : Heap) (k : Kd) (cs : List D) : ldX h k [] (.w (.c (.rp cs))) = ldV h k (.w (.c (.rp cs))) := rfl
theorem ldX_ra (h : Heap) (k : Kd) (es : List D) : ldX h k [] (.w (.c (.ra es))) = ldV h k (.w (.c (.ra es))) := rfl
theorem ldX_d (h : Heap) (k : Kd) (x : D) : ldX h k [] (.w (.c (.d x))) = ldV h k (.w (.c (.d x))) := rfl
theorem ldX_1 (h : Heap) (k : Kd) (j a b c i d e g : Nat) : ldX h k [.w (.c (.ptr j a b c))] (.w (.c (.ptr i d e g))) = if i = j then none else ldV h k (.w (.c (.ptr i d e g))) := by
  unfold ldX disV
  by_cases hij : i = j
  · simp [V.ids, W.ids, C.ids, hij]
  · simp [V.ids, W.ids, C.ids, hij]
theorem ldX_2 (h : Heap) (k : Kd) (j a b c l m n q i d e g : Nat) : ldX h k [.w (.c (.ptr j a b c)), .w (.c (.ptr l m n q))] (.w (.c (.ptr i d e g))) = if i = j then none else if i = l then none else ldV h k (.w (.c (.ptr i d e g))) := by
  unfold ldX disV
  by_cases hij : i = j
  · simp [V.ids, W.ids, C.ids, hij]
  · by_cases hil : i = l
    · simp [V.ids, W.ids, C.ids, hij, hil]
    · simp [V.ids, W.ids, C.ids, hij, hil]
/-- What a proof proves. -/
abbrev ProofOf {p : Prop} (_ : p) : Prop := p
/-- The walk's rules. -/
theorem sx : ProofOf (And.intro @awp_skip (And.intro @awp_reg (And.intro @awp_seq (And.intro @awp_cond (And.intro @awp_block (And.intro @awp_exit (And.intro @awp_ret (And.intro @seqQ_nrm (And.intro @seqQ_ex (And.intro @seqQ_ret (And.intro @blkQ_nrm (And.intro @blkQ_ret (And.intro @blkQ_eq (And.intro @blkQ_ne (And.intro @endQ_nrm (And.intro @endQ_ret (And.intro @aops_nil (And.intro @st_guard (And.intro @guaK_b (And.intro @guaK_gone (And.intro @optK_some (And.intro @cndK_true (And.intro @cndK_false (And.intro @grdK_do (And.intro @grdK_no1 (And.intro @grdK_no2 (And.intro @goV_do (And.intro @goW_do (And.intro @goC_do (And.intro @goD_do (And.intro @goR_do (And.intro @goH_do (And.intro @goI_do (And.intro @goN_do (And.intro @goB_do (And.intro @goP_true (And.intro @goP_false (And.intro @goE1_t (And.intro @goE1_f (And.intro @goE_do (And.intro @goS_do (And.intro @goF_do (And.intro @goA1_do (And.intro @goA_do (And.intro @goM_do (And.intro @goX_do (And.intro @st_mv (And.intro @st_lenArr (And.intro @st_pick (And.intro @st_bin (And.intro @st_eqA (And.intro @st_un (And.intro @st_conv (And.intro @st_eqB (And.intro @st_len (And.intro @st_lenStr (And.intro @st_load (And.intro @st_loadB (And.intro @st_loadX0 (And.intro @st_loadX1 (And.intro @st_loadX2 (And.intro @st_store (And.intro @st_fieldAddr (And.intro @st_field (And.intro @st_idxArr (And.intro @st_extract (And.intro @st_build (And.intro @st_alloc (And.intro @st_allocArr (And.intro @st_nilOwn (And.intro @st_box (And.intro @st_bldSl (And.intro @st_bldFz (And.intro @st_buildF (And.intro @st_b2s (And.intro @st_s2b (And.intro @st_make (And.intro @st_slice (And.intro @st_sliceStr (And.intro @st_sliceArr (And.intro @st_idxSl (And.intro @st_idxPa (And.intro @st_idxStr (And.intro @st_app (And.intro @st_appN (And.intro @st_copy (And.intro @st_min (And.intro @st_max (And.intro @st_frz (And.intro @st_mark (And.intro @st_markF (And.intro @upd_same (And.intro @upd_get (And.intro @hN_get (And.intro @uN_get (And.intro @uf_get (And.intro @updO_some (And.intro @updO_none (And.intro @ev_t (And.intro @ev_k (And.intro @ldX_rp (And.intro @ldX_ra (And.intro @ldX_d (And.intro @ldX_1 (And.intro @ldX_2 (And.intro @asI_do (And.intro @asB_do (And.intro @asW_do (And.intro @aggV_d (And.intro @aggV_m (And.intro @strV_do (And.intro @tupV_do (And.intro @lenV_d (And.intro @lenV_nil (And.intro @lenV_own (And.intro @fdV_ptr (And.intro @fdV_rp (And.intro @binV_int (And.intro @binV_str (And.intro @binI_add (And.intro @binI_sub (And.intro @binI_mul (And.intro @binI_eql (And.intro @binI_neq (And.intro @binI_lss (And.intro @binI_leq (And.intro @binI_gtr (And.intro @binI_geq (And.intro @binI_and (And.intro @binI_or (And.intro @binI_xor (And.intro @binI_andNot (And.intro @binI_shl (And.intro @binI_shr (And.intro @binI_quo (And.intro @binI_rem (And.intro @unV_neg (And.intro @unV_not (And.intro @unV_xor (And.intro @newO_do (And.intro @ef_alloc (And.intro @ef_allocArr (And.intro @ef_nilOwn (@someD)))))))))))))))))))))))))))))))))))))))))))))))))))))))))))))))))))))))))))))))))))))))))))))))))))))))))))))))))))))))))))))))))))))))))))))))) := And.intro @awp_skip (And.intro @awp_reg (And.intro @awp_seq (And.intro @awp_cond (And.intro @awp_block (And.intro @awp_exit (And.intro @awp_ret (And.intro @seqQ_nrm (And.intro @seqQ_ex (And.intro @seqQ_ret (And.intro @blkQ_nrm (And.intro @blkQ_ret (And.intro @blkQ_eq (And.intro @blkQ_ne (And.intro @endQ_nrm (And.intro @endQ_ret (And.intro @aops_nil (And.intro @st_guard (And.intro @guaK_b (And.intro @guaK_gone (And.intro @optK_some (And.intro @cndK_true (And.intro @cndK_false (And.intro @grdK_do (And.intro @grdK_no1 (And.intro @grdK_no2 (And.intro @goV_do (And.intro @goW_do (And.intro @goC_do (And.intro @goD_do (And.intro @goR_do (And.intro @goH_do (And.intro @goI_do (And.intro @goN_do (And.intro @goB_do (And.intro @goP_true (And.intro @goP_false (And.intro @goE1_t (And.intro @goE1_f (And.intro @goE_do (And.intro @goS_do (And.intro @goF_do (And.intro @goA1_do (And.intro @goA_do (And.intro @goM_do (And.intro @goX_do (And.intro @st_mv (And.intro @st_lenArr (And.intro @st_pick (And.intro @st_bin (And.intro @st_eqA (And.intro @st_un (And.intro @st_conv (And.intro @st_eqB (And.intro @st_len (And.intro @st_lenStr (And.intro @st_load (And.intro @st_loadB (And.intro @st_loadX0 (And.intro @st_loadX1 (And.intro @st_loadX2 (And.intro @st_store (And.intro @st_fieldAddr (And.intro @st_field (And.intro @st_idxArr (And.intro @st_extract (And.intro @st_build (And.intro @st_alloc (And.intro @st_allocArr (And.intro @st_nilOwn (And.intro @st_box (And.intro @st_bldSl (And.intro @st_bldFz (And.intro @st_buildF (And.intro @st_b2s (And.intro @st_s2b (And.intro @st_make (And.intro @st_slice (And.intro @st_sliceStr (And.intro @st_sliceArr (And.intro @st_idxSl (And.intro @st_idxPa (And.intro @st_idxStr (And.intro @st_app (And.intro @st_appN (And.intro @st_copy (And.intro @st_min (And.intro @st_max (And.intro @st_frz (And.intro @st_mark (And.intro @st_markF (And.intro @upd_same (And.intro @upd_get (And.intro @hN_get (And.intro @uN_get (And.intro @uf_get (And.intro @updO_some (And.intro @updO_none (And.intro @ev_t (And.intro @ev_k (And.intro @ldX_rp (And.intro @ldX_ra (And.intro @ldX_d (And.intro @ldX_1 (And.intro @ldX_2 (And.intro @asI_do (And.intro @asB_do (And.intro @asW_do (And.intro @aggV_d (And.intro @aggV_m (And.intro @strV_do (And.intro @tupV_do (And.intro @lenV_d (And.intro @lenV_nil (And.intro @lenV_own (And.intro @fdV_ptr (And.intro @fdV_rp (And.intro @binV_int (And.intro @binV_str (And.intro @binI_add (And.intro @binI_sub (And.intro @binI_mul (And.intro @binI_eql (And.intro @binI_neq (And.intro @binI_lss (And.intro @binI_leq (And.intro @binI_gtr (And.intro @binI_geq (And.intro @binI_and (And.intro @binI_or (And.intro @binI_xor (And.intro @binI_andNot (And.intro @binI_shl (And.intro @binI_shr (And.intro @binI_quo (And.intro @binI_rem (And.intro @unV_neg (And.intro @unV_not (And.intro @unV_xor (And.intro @newO_do (And.intro @ef_alloc (And.intro @ef_allocArr (And.intro @ef_nilOwn (@someD)))))))))))))))))))))))))))))))))))))))))))))))))))))))))))))))))))))))))))))))))))))))))))))))))))))))))))))))))))))))))))))))))))))))))))))))
end Go.Proofs.Ytldcgjhfaledfaa
