/- The plain logic (5): a program's operations, made static. Own work. -/
import Derived.Test.YtldcgjhfaledfaaAlD
set_option linter.unusedVariables false
set_option linter.unusedSimpArgs false
namespace Go.Proofs.Ytldcgjhfaledfaa
open Go.RowKit

/-- What the function keeps as its own: results and new rows by their slots; components of results; variables that are written; values that end as data. -/
structure Hint where
  own : List Nat := []
  comp : List (Nat × Nat) := []
  frz : List Nat := []
  nils : List Nat := []
  bx : List Nat := []
  lx : List (Nat × List Nat) := []
  pur : List Nat := []
  bad : Bool := false
  mt : List Nat := []
  mv : Bool := false
deriving Inhabited

def constC : Value → Option C
  | .int k n => some (.d (.int k n))
  | .bool b => some (.d (.bool b))
  | .string s => some (.d (.str s))
  | .slice none 0 0 => some .nil
  | _ => none
def constD : Value → Option D
  | .int k n => some (.int k n)
  | .bool b => some (.bool b)
  | .string s => some (.str s)
  | .slice none 0 0 => some (.sl [])
  | _ => none
def constW : Value → Option W
  | .agg cs => (allSome constD cs.toList).map fun ds => .c (.d (.agg ds))
  | v => (constC v).map .c
def compX : Operand → Option SX
  | .tmp t => some (.t t)
  | .const v => match constW v with | some x => some (.k x) | none => some .u
  | .global g => some (.g g)
  | .func f => some (.k (.c (.d (.fn f []))))
def compXo : Option Operand → Option (Option SX)
  | none => some none
  | some x => (compX x).map some

section
variable (P : Program)
def tyKd (t : TypeId) : Option Kd :=
  match P.info? t, P.underlying t with
  | some i, some (.struct _) => some (.ag i.size)
  | some i, some (.array _ _) => some (.ag i.size)
  | some i, some _ => if i.size = 1 then some .sc else none
  | _, _ => none
/-- An element's type: its cells, its bytes, its zero. -/
def elTy (e : TypeId) : Option (Nat × Nat × D) :=
  match tyKd P e, P.info? e with
  | some .sc, some i => match i.zero with | some z => (constD z).map fun d => (1, i.bytes, d) | none => none
  | some (.ag n), some i => match i.zero with | some z => (match allSome constD z.cells.toList with | some ds => if 0 < n ∧ ds.length = n then some (n, i.bytes, .agg ds) else none | none => none) | none => none
  | _, _ => none
def slTy (t : TypeId) : Option (TypeId × Nat × Nat × D) :=
  match P.underlying t with
  | some (.slice e) => (elTy P e).map fun (s, b, z) => (e, s, b, z)
  | _ => none

/-- What is appended to is empty. -/
def isNil (H : Hint) (o : Oper) : SX → Bool
  | .k (.c .nil) => true
  | _ => match o.dst with | some d => decide (d ∈ H.nils) | none => false
def compOwn (H : Hint) (o : Oper) : Option (Option (Nat × Nat)) :=
  match o.dst with
  | some d => if d ∈ H.pur then some (some (0, 0)) else if d ∈ H.own then (match slTy P o.type with | some (_, s, _, _) => some (some (0, s)) | none => none)
    else match H.comp.find? (·.1 == d) with
      | some (_, k) => match P.underlying o.type with
        | some (.tuple ts) => match (ts[k]?).bind (slTy P) with | some (_, s, _, _) => some (some (k, s)) | none => none
        | _ => none
      | none => some none
  | none => some none
/-- A call that may change variables of the function's own, or a function literal that captures them. -/
def isM (H : Hint) (o : Oper) : Bool := match o.dst with | some d => decide (d ∈ H.mt) | none => H.mv
def compCall (H : Hint) (o : Oper) (c : Call) : Option SOp :=
  match c.callee with
  | .value (.func f) => match P.funcs[f]?, allSome compX c.args.toList, compOwn P H o with
    | some fn, some xs, some own => if fn.body.isSome ∧ (fn.name == "runtime.NumGoroutine") = false ∧ f ≠ dynF then some (if isM H o = true then .callM f xs else .call f xs own) else none
    | _, _, _ => none
  | .value x => match allSome compX (x :: c.args.toList), compOwn P H o with
    | some xs, some own => some (if isM H o = true then .callM dynF xs else .call dynF xs own)
    | _, _ => none
  | .builtin .len => match c.argTypes.toList, c.args.toList with
    | [t], [x] => match P.underlying t, compX x with
      | some (.slice _), some x => some (.len x)
      | some .string, some x => some (.lenStr x)
      | some (.array n _), _ => some (.lenArr n)
      | _, _ => none
    | _, _ => none
  | .builtin .append => match c.argTypes.toList, c.args.toList with
    | [t, u], [x, y] => match slTy P t, compX x, compX y with
      | some (e, s, b, _), some x, some y => match P.underlying u with
        | some (.slice e') => if e' = e then some (if isNil H o x then .appN false s b x y else .app false s b x y) else none
        | some .string => if s = 1 then some (if isNil H o x then .appN true s b x y else .app true s b x y) else none
        | _ => none
      | _, _, _ => none
    | _, _ => none
  | .builtin .copy => match c.argTypes.toList, c.args.toList with
    | [t, u], [x, y] => match slTy P t, compX x, compX y with
      | some (e, s, _, _), some x, some y => match P.underlying u with
        | some (.slice e') => if e' = e then some (.copy s x y) else none
        | _ => none
      | _, _, _ => none
    | _, _ => none
  | .builtin .min => (allSome compX c.args.toList).map .min
  | .builtin .max => (allSome compX c.args.toList).map .max
  | _ => none

def ownOf (H : Hint) (o : Oper) : Bool := match o.dst with | some d => decide (d ∈ H.own) | none => false
def bxOf (H : Hint) (o : Oper) : Bool := match o.dst with | some d => decide (d ∈ H.bx) | none => false
def lxOf (H : Hint) (o : Oper) : Option (List Nat) := match o.dst with | some d => (H.lx.find? fun p => p.1 == d).map (·.2) | none => none
def frzOf (H : Hint) (o : Oper) : Bool := match o.dst with | some d => decide (d ∈ H.frz) | none => false
def compMv (H : Hint) (o : Oper) (x : Operand) : Option SOp :=
  match compX x with
  | some y => if frzOf H o = true then some (.frz y) else if ownOf H o = true then (match y with
      | .k (.c .nil) => (match slTy P o.type with | some (_, s, _, _) => some (.nilOwn s) | none => none)
      | _ => some (.mv y))
    else some (.mv y)
  | none => none
/-- The kinds of a struct's fields, where it can be compared cell by cell. -/
def eqK (t : TypeId) : Option Nat := match P.underlying t with
  | some (.int _) => some 0
  | some .bool => some 1
  | some .string => some 2
  | _ => none
def eqFs : List Field → Nat → Option (List Nat)
  | [], _ => some []
  | f :: r, i => if f.name ≠ "_" ∧ f.offset = i then match eqK P f.type, eqFs r (i + 1) with
    | some k, some ks => some (k :: ks)
    | _, _ => none
    else none
def eqTy (t : TypeId) : Option (List Nat) := match P.underlying t with
  | some (.struct fs) => if P.stoodInHeld t = false ∧ P.eqGuardType P.depth t = false then eqFs P fs.toList 0 else none
  | _ => none
def compOp (H : Hint) (o : Oper) : Option SOp :=
  match o.op with
  | .move x => compMv P H o x
  | .assign x => compMv P H o x
  | .pick c a b => match compX c, compX a, compX b with | some c, some a, some b => some (.pick c a b) | _, _, _ => none
  | .alloc t => match P.info? t, P.underlying t with
    | some i, some (.array n e) => match i.zero, tyKd P e with
      | some z, some .sc => match allSome constD z.cells.toList with | some ds => if ds.length = n then some (.allocArr ds) else none | none => none
      | some z, some (.ag _) => (allSome constC z.cells.toList).map .alloc
      | _, _ => none
    | some i, some _ => match i.zero with
      | some z => (allSome constC z.cells.toList).map .alloc
      | none => none
    | _, _ => none
  | .box t x => match compX x, P.underlying t with
    | some x, some (.array _ e) => match tyKd P e with
      | some .sc => some (.box (if ownOf H o then .ownArr else .roArr) x)
      | some (.ag _) => some (.box (if ownOf H o then .ownBox else .roBox) x)
      | _ => none
    | some x, some _ => some (.box (if ownOf H o then .ownBox else .roBox) x)
    | _, _ => none
  | .build t ps => match P.info? t, P.underlying t with
    | some i, some (.struct fs) => match i.zero with
      | some z => match allSome constC z.cells.toList, allSome (fun p : Nat × Operand => match fs[p.1]?, compX p.2 with
          | some f, some x => match P.info? f.type with | some j => some (f.offset, j.size, x) | none => none
          | _, _ => none) ps.toList with
        | some cs, some ps => if fs.all fun f => (P.info? f.type).isSome then some (if frzOf H o = true then .buildF cs ps else .build cs ps) else none
        | _, _ => none
      | none => none
    | some i, some (.array _ e) => match i.zero, P.info? e with
      | some z, some j => match allSome constC z.cells.toList, allSome (fun p : Nat × Operand => (compX p.2).map fun x => (p.1 * j.size, j.size, x)) ps.toList with
        | some cs, some ps => some (.build cs ps)
        | _, _ => none
      | _, _ => none
    | _, _ => none
  | .buildSlice t n ps => match slTy P t with
    | some (_, s, _, z) => match allSome (fun p : Nat × Operand => (compX p.2).map fun x => (p.1, x)) ps.toList with
      | some ps => if n * s ≤ 2 ^ 24 then if frzOf H o = true ∧ 0 < n then some (.bldFz n s z ps) else some (.bldSl (ownOf H o) n s z ps) else none
      | none => none
    | none => none
  | .load t x => match tyKd P t, compX x with | some kd, some x => some (match lxOf H o with | some l => .loadX kd x (l.map SX.t) | none => if bxOf H o = true then .loadB kd x else .load kd x) | _, _ => none
  | .store t x y => match tyKd P t, compX x, compX y with | some kd, some x, some y => if o.dst = none then some (.store kd x y) else none | _, _, _ => none
  | .binOp op t x y _ => match P.underlying t, compX x, compX y with
    | some (.int _), some x, some y => some (.bin op x y)
    | some .string, some x, some y => some (.bin op x y)
    | some .bool, some x, some y => match op with
      | .eql => some (.eqB false x y)
      | .neq => some (.eqB true x y)
      | _ => none
    | some (.struct _), some x, some y => match eqTy P t, op with
      | some ks, .eql => some (.eqA false ks x y)
      | some ks, .neq => some (.eqA true ks x y)
      | _, _ => none
    | _, _, _ => none
  | .unOp op _ x => (compX x).map (.un op)
  | .convert s d x => match P.underlying s, P.underlying d, compX x with
    | some (.int _), some (.int k), some x => some (.conv k x)
    | some (.slice e), some .string, some x => match P.underlying e with | some (.int .u8) => some (.b2s x) | _ => none
    | some .string, some (.slice e), some x => match P.underlying e with | some (.int .u8) => some (.s2b (ownOf H o) x) | _ => none
    | some (.slice e), some (.slice _), some x => match P.underlying e with | some (.int .u8) => if s = d then some (if frzOf H o = true then .markF x else .mark x) else none | _ => none
    | _, _, _ => none
  | .makeSlice t l c => match slTy P t, compX l, compX c with
    | some (_, s, b, z), some l, some c => if 0 < s then some (.make s b z l c) else none
    | _, _, _ => none
  | .slice t x lo hi mx => match P.underlying t, compX x, compXo lo, compXo hi, compXo mx with
    | some (.slice _), some x, some lo, some hi, some mx => match slTy P t with
      | some (_, s, _, _) => if mx.isSome && hi.isNone then none else some (.slice s x lo hi mx)
      | none => none
    | some .string, some x, some lo, some hi, some none => some (.sliceStr x lo hi)
    | some (.array n e), some x, some lo, some hi, some none => match elTy P e with
      | some (s, _, _) => if n ≤ 16777216 then some (.sliceArr s n x lo hi) else none
      | none => none
    | _, _, _, _, _ => none
  | .fieldAddr t x f => match P.underlying t, compX x with
    | some (.struct fs), some x => match fs[f]? with
      | some f => match P.info? f.type with | some i => if i.size ≠ 0 then some (.fieldAddr f.offset x) else none | none => none
      | none => none
    | _, _ => none
  | .field t x f => match P.underlying t, compX x with
    | some (.struct fs), some x => match fs[f]? with
      | some f => (tyKd P f.type).map fun kd => .field f.offset kd x
      | none => none
    | _, _ => none
  | .indexAddr t x i => match P.underlying t, compX x, compX i with
    | some (.slice _), some x, some i => match slTy P t with | some (_, s, _, _) => some (.idxSl s x i) | none => none
    | some (.array n e), some x, some i => match elTy P e with | some (s, _, _) => some (.idxPa s n x i) | none => none
    | _, _, _ => none
  | .index t x i => match P.underlying t, compX x, compX i with
    | some (.array n e), some x, some i => match tyKd P e, elTy P e with | some kd, some (s, _, _) => some (.idxArr s n kd x i) | _, _ => none
    | some .string, some x, some i => some (.idxStr x i)
    | _, _, _ => none
  | .extract x i => (compX x).map fun x => .extract x i
  | .makeFunc (.func f) fs cs => if fs = #[] ∧ isM H o = false then (allSome compX cs.toList).map (.clos f) else match allSome compX fs.toList, allSome compX cs.toList with | some xs, some ys => some (.closM f xs ys) | _, _ => none
  | .nilCheck x => (compX x).map .nilChk
  | .call c => compCall P H o c
  | _ => none
end

/-! ### Operands -/
theorem constC_ok {m : Mp} {S : Cells} {w : World} {v : Value} {c : C} (h : constC v = some c) : RC m S w v c ∧ c.ids = [] ∧ v.cells = #[v] := by
  unfold constC at h
  split at h <;> first | (cases h; done) | (cases h; refine ⟨?_, rfl, rfl⟩)
  · exact .int _ _
  · exact .bool _
  · exact .str _
  · exact ⟨none, rfl⟩
theorem constD_ok {S : Cells} {w : World} {v : Value} {x : D} (h : constD v = some x) : Reads S w v x := by
  unfold constD at h
  split at h <;> first | (cases h; done) | (cases h)
  · exact .int _ _
  · exact .bool _
  · exact .str _
  · exact .nil
theorem allSome_ok {α β : Type} {f : α → Option β} {R : α → β → Prop} : ∀ {l : List α} {k : List β}, (∀ x y, f x = some y → R x y) → allSome f l = some k → All2 R l k
  | [], k, _, h => by simp [allSome] at h; subst h; exact .nil
  | x :: r, k, hf, h => by
    simp only [allSome] at h
    split at h
    · rename_i y l h1 h2
      cases h
      exact .cons (hf _ _ h1) (allSome_ok hf h2)
    · cases h
theorem constW_ok {m : Mp} {S : Cells} {w : World} {v : Value} {x : W} (h : constW v = some x) : RW m S w v x ∧ x.ids = [] := by
  unfold constW at h
  split at h
  · rename_i cs
    simp only [Option.map_eq_some_iff] at h
    obtain ⟨ds, h1, rfl⟩ := h
    exact ⟨⟨cs.toList, by simp, allSome_ok (fun _ _ => constD_ok) h1⟩, rfl⟩
  · simp only [Option.map_eq_some_iff] at h
    obtain ⟨c, h1, rfl⟩ := h
    have := constC_ok (m := m) (S := S) (w := w) h1
    refine ⟨?_, this.2.1⟩
    unfold RW
    split
    · rename_i hc; cases hc; exact absurd this.1 (by intro h; cases h)
    · rename_i hc; cases hc; exact this.1
    · rename_i hc; cases hc
theorem RC.rpra {m m' : Mp} {S : Cells} {w : World} {v : Value} {c : C} (h : RC m S w v c) (hc : c.isR = true) : RW m' S w v (.c c) ∧ c.ids = [] := by
  cases c <;> first | (simp [C.isR] at hc; done) | exact ⟨h, rfl⟩
section
variable {G : Glob} {N : Nat} {Sin : Cells} {w0 : Gh} {σ : St} {a : Act} {w : World} {S : Cells} {m : Mp}
theorem Inv.operand (h : Inv G N Sin w0 σ a w S m) {x : Operand} {y : SX} (hx : compX x = some y) : RV m S w (a.eval x) (ev G σ.f y) ∧ ∀ i ∈ (ev G σ.f y).ids, σ.u i = true := by
  unfold compX at hx
  split at hx
  · cases hx; exact ⟨h.slot _, h.used _⟩
  · rename_i v
    split at hx
    · rename_i x h1
      cases hx
      have := constW_ok (m := m) (S := S) (w := w) h1
      refine ⟨this.1, fun i hi => ?_⟩
      have hi' : i ∈ x.ids := hi
      rw [this.2] at hi'
      cases hi'
    · cases hx
      exact ⟨trivial, fun i hi => by cases hi⟩
  · rename_i g
    cases hx
    show RV m S w (.pointer (some ⟨g, 0, none⟩)) (match G.at g with | some c => .w (.c c) | none => .undef) ∧ _
    cases hg : G.at g with
    | none => exact ⟨trivial, fun i hi => by simp [ev, hg, V.ids] at hi⟩
    | some c =>
      unfold Glob.at at hg
      simp only [Option.map_eq_some_iff] at hg
      obtain ⟨p, hp, rfl⟩ := hg
      have hm := List.mem_of_find?_eq_some hp
      have he : p.1 = g := by simpa using List.find?_some hp
      have hk := h.glob p hm
      have h2 := hk.1.rpra (m' := m) hk.2.1
      rw [he] at h2
      refine ⟨h2.1, fun i hi => ?_⟩
      simp only [ev, Glob.at, hp, Option.map_some, V.ids, W.ids, h2.2] at hi
      cases hi
  · rename_i f
    cases hx
    exact ⟨Reads.fn f [] [] (fun _ => .bool false) rfl (fun j hj => by cases hj) (fun j hj => by cases hj), fun i hi => by cases hi⟩
end
end Go.Proofs.Ytldcgjhfaledfaa
