/- The plain logic (2): the operations on data, without memory: what each gives, and what it makes of the function's own variables. Own work. -/
import Derived.Test.YtldcgjhfaledfaaAlA
set_option linter.unusedVariables false
set_option linter.unusedSimpArgs false
namespace Go.Proofs.Ytldcgjhfaledfaa
open Go.RowKit

def allSome {α β : Type} (f : α → Option β) : List α → Option (List β)
  | [] => some []
  | x :: r => match f x, allSome f r with | some y, some l => some (y :: l) | _, _ => none
def upd {α : Type} (f : Nat → α) (i : Nat) (x : α) : Nat → α := fun j => if j = i then x else f j
def updO {α : Type} (f : Nat → α) (i : Option Nat) (x : α) : Nat → α := match i with | some i => upd f i x | none => f
theorem upd_same {α : Type} (f : Nat → α) (i : Nat) (x : α) : upd f i x i = x := by simp [upd]
theorem upd_ne {α : Type} (f : Nat → α) {i j : Nat} (x : α) (h : j ≠ i) : upd f i x j = f j := by simp [upd, h]

/-- A static operand. -/
inductive SX where
  | t (n : Nat)
  | k (v : W)
  | g (n : Nat)
  | u
deriving Inhabited
/-- One cell, or so many. -/
inductive Kd where
  | sc
  | ag (n : Nat)
deriving Inhabited, DecidableEq
def Kd.size : Kd → Nat | .sc => 1 | .ag n => n
inductive Bx where
  | ownBox | ownArr | roBox | roArr
deriving Inhabited, DecidableEq
inductive SOp where
  | mv (x : SX)
  | nilOwn (sz : Nat)
  | pick (c a b : SX)
  | alloc (cs : List C)
  | allocArr (es : List D)
  | box (m : Bx) (x : SX)
  | build (z : List C) (ps : List (Nat × Nat × SX))
  | bldSl (own : Bool) (n sz : Nat) (z : D) (ps : List (Nat × SX))
  | bldFz (n sz : Nat) (z : D) (ps : List (Nat × SX))
  | buildF (z : List C) (ps : List (Nat × Nat × SX))
  | load (kd : Kd) (x : SX)
  | loadB (kd : Kd) (x : SX)
  | loadX (kd : Kd) (x : SX) (ex : List SX)
  | store (kd : Kd) (x y : SX)
  | bin (op : BinOp) (x y : SX)
  | eqB (neg : Bool) (x y : SX)
  | eqA (neg : Bool) (ks : List Nat) (x y : SX)
  | un (op : UnOp) (x : SX)
  | conv (k : IntKind) (x : SX)
  | b2s (x : SX)
  | s2b (own : Bool) (x : SX)
  | make (sz byt : Nat) (z : D) (l c : SX)
  | slice (sz : Nat) (x : SX) (lo hi mx : Option SX)
  | sliceStr (x : SX) (lo hi : Option SX)
  | sliceArr (sz n : Nat) (x : SX) (lo hi : Option SX)
  | fieldAddr (off : Nat) (x : SX)
  | field (off : Nat) (kd : Kd) (x : SX)
  | idxSl (sz : Nat) (x i : SX)
  | idxPa (sz n : Nat) (x i : SX)
  | idxArr (sz n : Nat) (kd : Kd) (x i : SX)
  | idxStr (x i : SX)
  | extract (x : SX) (i : Nat)
  | len (x : SX)
  | lenStr (x : SX)
  | lenArr (n : Nat)
  | app (str : Bool) (sz byt : Nat) (x y : SX)
  | appN (str : Bool) (sz byt : Nat) (x y : SX)
  | copy (sz : Nat) (x y : SX)
  | min (xs : List SX)
  | max (xs : List SX)
  | mark (x : SX)
  | frz (x : SX)
  | markF (x : SX)
  | clos (f : Nat) (xs : List SX)
  | call (f : FuncId) (xs : List SX) (own : Option (Nat × Nat))
  | closM (f : Nat) (xs ys : List SX)
  | callM (f : FuncId) (xs : List SX)
  | nilChk (x : SX)
deriving Inhabited

/-! ### Values -/
def vd (x : D) : V := .w (.c (.d x))
def asI : V → Option (IntKind × Int) | .w (.c (.d (.int k n))) => some (k, n) | _ => none
def asB : V → Option Bool | .w (.c (.d (.bool b))) => some b | _ => none
def asW : V → Option W | .w x => some x | _ => none
def wcells : W → List C
  | .c (.d (.agg cs)) => cs.map C.d
  | .c x => [x]
  | .mix cs => cs
def aggW : W → Option (List C)
  | .c (.d (.agg cs)) => some (cs.map C.d)
  | .mix cs => some cs
  | _ => none
def aggV : V → Option (List C) | .w x => aggW x | _ => none
/-- Structs of numbers (0), bools (1) and strings (2) compared. -/
def eqC : Nat → C → C → Option Bool
  | 0, .d (.int k a), .d (.int k' b) => if k = k' then some (a == b) else none
  | 1, .d (.bool a), .d (.bool b) => some (a == b)
  | 2, .d (.str a), .d (.str b) => some (a.toList == b.toList)
  | _, _, _ => none
theorem eqC_i (k : IntKind) (a b : Int) : eqC 0 (.d (.int k a)) (.d (.int k b)) = some (if a = b then true else false) := by
  show (if k = k then some (a == b) else none) = _
  rw [if_pos rfl]
  by_cases h : a = b <;> simp [h]
theorem eqC_b (a b : Bool) : eqC 1 (.d (.bool a)) (.d (.bool b)) = some (a == b) := rfl
theorem eqC_s (a b : ByteArray) : eqC 2 (.d (.str a)) (.d (.str b)) = some (a.toList == b.toList) := rfl
def andO : Option Bool → Option Bool → Option Bool | some p, some q => some (p && q) | _, _ => none
def eqCs : List Nat → List C → List C → Option Bool
  | [], [], [] => some true
  | k :: ks, a :: r, b :: s => andO (eqC k a b) (eqCs ks r s)
  | _, _, _ => none
def eqV3 (neg : Bool) : Option Bool → Option D | some r => some (.bool (if neg then !r else r)) | none => none
def eqV2 (neg : Bool) (ks : List Nat) : Option (List C) → Option (List C) → Option D | some a, some b => eqV3 neg (eqCs ks a b) | _, _ => none
def eqV (neg : Bool) (ks : List Nat) (x y : V) : Option D := eqV2 neg ks (aggV x) (aggV y)
theorem andO_do (p q : Bool) : andO (some p) (some q) = some (p && q) := rfl
theorem eqCs_n : eqCs [] [] [] = some true := rfl
theorem eqCs_c (k : Nat) (ks : List Nat) (a b : C) (r s : List C) : eqCs (k :: ks) (a :: r) (b :: s) = andO (eqC k a b) (eqCs ks r s) := rfl
theorem eqV_do (neg : Bool) (ks : List Nat) (x y : V) : eqV neg ks x y = eqV2 neg ks (aggV x) (aggV y) := rfl
theorem eqV2_do (neg : Bool) (ks : List Nat) (a b : List C) : eqV2 neg ks (some a) (some b) = eqV3 neg (eqCs ks a b) := rfl
theorem eqV3_t (r : Bool) : eqV3 true (some r) = some (.bool (!r)) := rfl
theorem eqV3_f (r : Bool) : eqV3 false (some r) = some (.bool r) := rfl
theorem eqV_ok {neg : Bool} {ks : List Nat} {x y : V} {d : D} (h : eqV neg ks x y = some d) : ∃ cs ds b, aggV x = some cs ∧ aggV y = some ds ∧ eqCs ks cs ds = some b ∧ d = .bool (if neg then !b else b) := by
  rw [eqV_do] at h
  cases hx : aggV x with
  | none => rw [hx] at h; cases h
  | some cs =>
    cases hy : aggV y with
    | none => rw [hx, hy] at h; cases h
    | some ds =>
      rw [hx, hy, eqV2_do] at h
      cases hc : eqCs ks cs ds with
      | none => rw [hc] at h; cases h
      | some b =>
        rw [hc] at h
        cases h
        exact ⟨cs, ds, b, rfl, rfl, hc, rfl⟩
def allD : List C → Option (List D)
  | [] => some []
  | .d x :: r => (allD r).map (x :: ·)
  | _ :: _ => none
/-- The same, nil too. -/
def allDn : List C → Option (List D)
  | [] => some []
  | .d x :: r => (allDn r).map (x :: ·)
  | .nil :: r => (allDn r).map (.sl [] :: ·)
  | _ :: _ => none
def mkAgg (cs : List C) : W := match allD cs with | some ds => .c (.d (.agg ds)) | none => .mix cs
def pureW : W → Option D
  | .c (.d x) => some x
  | .c .nil => some (.sl [])
  | .mix cs => (allDn cs).map .agg
  | _ => none
def pureV : V → Option D | .w x => pureW x | _ => none
/-- n cells of an object from a place on, as data. -/
def obSl (o : Ob) (off n : Nat) : Option (List D) :=
  match o with
  | .row _ es => if off + n ≤ es.length then some ((es.drop off).take n) else none
  | .box cs => if off + n ≤ cs.length then allD ((cs.drop off).take n) else none
def Ob.sz : Ob → Nat | .row sz _ => sz | .box _ => 1
def toD (h : Heap) : C → Option D
  | .d x => some x
  | .nil => some (.sl [])
  | .own id _ off n => match h id with | some o => (obSl o off n).map .sl | none => none
  | _ => none
def toDs (h : Heap) : List C → Option (List D)
  | [] => some []
  | c :: r => match toD h c, toDs h r with | some x, some l => some (x :: l) | _, _ => none
def toW (h : Heap) : W → Option D
  | .c x => toD h x
  | .mix cs => (toDs h cs).map .agg
def toV (h : Heap) : V → Option D | .w x => toW h x | _ => none
def toVs (h : Heap) : List V → Option (List D)
  | [] => some []
  | v :: r => match toV h v, toVs h r with | some x, some l => some (x :: l) | _, _ => none
def killAll (h : Heap) : List C → Heap
  | [] => h
  | .own id .. :: r => upd (killAll h r) id none
  | _ :: r => killAll h r
/-- A value, as data: rows of its own are from now on only read. -/
def frzV (h : Heap) : V → V
  | .w (.c (.own id _ off n)) => match h id with
    | some o => match obSl o off n with | some es => .w (.c (.d (.sl es))) | none => .undef
    | none => .undef
  | .w (.c .nil) => .w (.c (.d (.sl [])))
  | .w (.mix cs) => match toDs h cs with | some ds => .w (.c (.d (.agg ds))) | none => .undef
  | v => v
def cellsV : V → List C | .w y => wcells y | _ => []
def C.isOwn : C → Bool | .own .. => true | _ => false
def V.hasOwn : V → Bool
  | .w (.c x) => x.isOwn
  | .w (.mix cs) => cs.any C.isOwn
  | _ => false
/-- Data that reads no memory. -/
def D.flat : D → Bool | .int .. | .bool _ | .str _ => true | .sl _ => false | .agg cs => cs.all (fun | .int .. | .bool _ | .str _ => true | _ => false) | .ref _ => false | .fn .. => false
def C.flat : C → Bool | .d x => x.flat | .fr _ es => es.all D.flat | _ => false
def W.flat : W → Bool | .c x => x.flat | .mix cs => cs.all C.flat
def V.flat : V → Bool | .w x => x.flat | .tup ws => ws.all W.flat | .undef => false
/-- Data that reads only bytes, if any memory at all. -/
def D.isU8 : D → Bool | .int .u8 _ => true | _ => false
def D.byt1 : D → Bool | .int .. | .bool _ | .str _ => true | .sl es => es.all D.isU8 | _ => false
def C.byt : C → Bool | .d x => x.byt1 | .fr _ es => es.all (fun e => e.cells.all D.byt1) | _ => false
def W.byt : W → Bool | .c (.d (.agg cs)) => cs.all D.byt1 | .c x => x.byt | .mix cs => cs.all C.byt
def V.byt : V → Bool | .w x => x.byt | .tup ws => ws.all W.byt | .undef => false
/-- A row of the function's own, as data, in which no cell is a byte. -/
def V.own1 : V → Bool | .w (.c (.own ..)) => true | _ => false
def D.noU8 : D → Bool | .sl es => es.all (fun e => e.cells.all fun x => !x.isU8) | _ => false
def noU8s : List V → List D → Bool
  | v :: vs, d :: ds => (!v.hasOwn || (v.own1 && d.noU8)) && noU8s vs ds
  | _, _ => true
/-- What a call gives can't share the rows of the function's own that it got: it reads no memory, or only bytes, which these rows don't have. -/
def OwnOk (h : Heap) (vs : List V) (res : V) : Prop := vs.any V.hasOwn = true → res.flat = true ∨ (res.byt = true ∧ ∃ ds, toVs h vs = some ds ∧ noU8s vs ds = true)
def setR {α : Type} (l : List α) (off : Nat) (cs : List α) : List α := l.take off ++ cs ++ l.drop (off + cs.length)
def allSz (sz : Nat) (es : List D) : Bool := es.all fun e => e.cells.length == sz

/-! ### What an operation gives: a value, the variables, the names that are taken -/
abbrev R := V × Heap × (Nat → Bool)
section
variable (ρ : SX → V) (h : Heap) (u : Nat → Bool) (dst : Nat)

def newO (o : Ob) (v : C) : Option R := if u (8 * dst) then none else some (.w (.c v), upd h (8 * dst) (some o), upd u (8 * dst) true)
def ldV (h : Heap) (kd : Kd) : V → Option W
  | .w (.c (.ptr id _ i o)) =>
    match h id with
    | some (.box cs) => match kd with
      | .sc => (cs[i + o]?).map .c
      | .ag n => if i + o + n ≤ cs.length then some (mkAgg ((cs.drop (i + o)).take n)) else none
    | some (.row _ es) => match es[i]? with
      | some e => match kd with
        | .sc => (e.cells[o]?).map fun x => .c (.d x)
        | .ag n => if o + n ≤ e.cells.length then some (.c (.d (.agg ((e.cells.drop o).take n)))) else none
      | none => none
    | none => none
  | .w (.c (.pa id _)) =>
    match h id with
    | some (.row sz es) => if sz = 1 ∧ kd = .ag es.length then some (.c (.d (.agg (es.flatMap D.cells)))) else none
    | _ => none
  | .w (.c (.rp cs)) => match kd with
    | .sc => (cs[0]?).map fun x => .c (.d x)
    | .ag n => if n ≤ cs.length then some (.c (.d (.agg (cs.take n)))) else none
  | .w (.c (.ra es)) => if allSz 1 es = true ∧ kd = .ag es.length then some (.c (.d (.agg (es.flatMap D.cells)))) else none
  | .w (.c (.d (.ref cs))) => match kd with
    | .sc => (cs[0]?).map fun x => .c (.d x)
    | .ag n => if n ≤ cs.length then some (.c (.d (.agg (cs.take n)))) else none
  | _ => none
/-- A load out of a box (not of a row), or of what is only read: nothing that grows a row touches it. -/
def ldB (h : Heap) (kd : Kd) : V → Option W
  | .w (.c (.ptr id _ i o)) =>
    match h id with
    | some (.box cs) => match kd with
      | .sc => (cs[i + o]?).map .c
      | .ag n => if i + o + n ≤ cs.length then some (mkAgg ((cs.drop (i + o)).take n)) else none
    | _ => none
  | .w (.c (.rp cs)) => match kd with
    | .sc => (cs[0]?).map fun x => .c (.d x)
    | .ag n => if n ≤ cs.length then some (.c (.d (.agg (cs.take n)))) else none
  | .w (.c (.ra es)) => if allSz 1 es = true ∧ kd = .ag es.length then some (.c (.d (.agg (es.flatMap D.cells)))) else none
  | .w (.c (.d (.ref cs))) => match kd with
    | .sc => (cs[0]?).map fun x => .c (.d x)
    | .ag n => if n ≤ cs.length then some (.c (.d (.agg (cs.take n)))) else none
  | _ => none
def Cp.ids : Cp → List Nat
  | .d _ => []
  | .p id .. => [id]
def C.ids : C → List Nat
  | .own id .. => [id]
  | .ptr id .. => [id]
  | .pa id .. => [id]
  | .cf _ pre post => pre.flatMap Cp.ids ++ post.flatMap Cp.ids
  | _ => []
def W.ids : W → List Nat
  | .c x => x.ids
  | .mix cs => cs.flatMap C.ids
def V.ids : V → List Nat
  | .w x => x.ids
  | .tup ws => ws.flatMap W.ids
  | .undef => []
/-- Apart from these variables of the function's own; with none named: from all. -/
def disV (l : List V) (x : V) : Bool := if l.isEmpty then x.ids.isEmpty else l.all fun y => x.ids.all fun i => !y.ids.contains i
def ldX (h : Heap) (kd : Kd) (l : List V) (x : V) : Option W := if disV l x = true then ldV h kd x else none
theorem ldX_ld {h : Heap} {kd : Kd} {l : List V} {v : V} {y : W} (e : ldX h kd l v = some y) : disV l v = true ∧ ldV h kd v = some y := by
  unfold ldX at e
  split at e
  · rename_i hd; exact ⟨hd, e⟩
  · cases e
theorem disV_spec {l : List V} {x : V} (h : disV l x = true) : (l = [] → x.ids = []) ∧ ∀ y ∈ l, ∀ i ∈ x.ids, i ∉ y.ids := by
  unfold disV at h
  cases l with
  | nil => exact ⟨fun _ => List.isEmpty_iff.1 h, fun y hy => by cases hy⟩
  | cons a l =>
    refine ⟨fun e => (by cases e), fun y hy i hi hc => ?_⟩
    have := List.all_eq_true.1 (List.all_eq_true.1 h y hy) i hi
    simp [hc] at this
theorem ldB_ld {h : Heap} {kd : Kd} {v : V} {y : W} (e : ldB h kd v = some y) : ldV h kd v = some y := by
  unfold ldB at e
  split at e
  · split at e
    · rename_i id _ i o cs hid
      simp only [ldV, hid]
      exact e
    · cases e
  · exact e
  · exact e
  · exact e
  · cases e
/-- What a function literal captures. -/
def capV : V → Option D
  | .w (.c (.rp cs)) => some (.ref cs)
  | .w (.c (.d x)) => match x with | .agg _ => none | x => some x
  | _ => none
def capVs : List V → Option (List D)
  | [] => some []
  | v :: r => match capV v, capVs r with | some x, some l => some (x :: l) | _, _ => none
/-- .. what it may change: variables of the function's own. -/
def capP : V → Option Cp
  | .w (.c (.ptr id sz i o)) => some (.p id sz i o)
  | v => (capV v).map .d
def capPs : List V → Option (List Cp)
  | [] => some []
  | v :: r => match capP v, capPs r with | some x, some l => some (x :: l) | _, _ => none
def Cp.w : Cp → W | .d x => .c (.d x) | .p id sz i o => .c (.ptr id sz i o)
/-- A pointer, or a function, that is there. -/
def isPtr : V → Bool
  | .w (.c (.ptr ..)) => true
  | .w (.c (.pa ..)) => true
  | .w (.c (.rp _)) => true
  | .w (.c (.ra _)) => true
  | .w (.c (.d (.ref _))) => true
  | .w (.c (.d (.fn ..))) => true
  | .w (.c (.cf ..)) => true
  | _ => false
def stO (kd : Kd) (y : W) (i o : Nat) : Ob → Option Ob
  | .box cs => if (wcells y).length = kd.size ∧ i + o + kd.size ≤ cs.length then some (.box (setR cs (i + o) (wcells y))) else none
  | .row sz es => match es[i]?, pureW y with
    | some e, some x => match e with
      | .agg ds => if x.cells.length = kd.size ∧ o + kd.size ≤ ds.length then some (.row sz (es.set i (.agg (setR ds o x.cells)))) else none
      | _ => if kd = .sc ∧ o = 0 ∧ x.one = true then some (.row sz (es.set i x)) else none
    | _, _ => none
def stV (h : Heap) (kd : Kd) (x : V) (y : W) : Option Heap :=
  match x with
  | .w (.c (.ptr id _ i o)) => match h id with
    | some ob => (stO kd y i o ob).map fun o' => upd h id (some o')
    | none => none
  | .w (.c (.pa id _)) => match h id, y with
    | some (.row sz es), .c (.d (.agg cs)) => if sz = 1 ∧ kd = .ag es.length ∧ cs.length = es.length then some (upd h id (some (.row sz cs))) else none
    | _, _ => none
  | _ => none
def binI (op : BinOp) (k : IntKind) (a : Int) (k' : IntKind) (b : Int) : Option D :=
  match op with
  | .shl => if 0 ≤ b then some (.int k (k.wrap (a * 2 ^ min b.toNat k.bits))) else none
  | .shr => if 0 ≤ b then some (.int k (a / 2 ^ min b.toNat k.bits)) else none
  | _ => if k ≠ k' then none else match op with
    | .add => some (.int k (k.wrap (a + b)))
    | .sub => some (.int k (k.wrap (a - b)))
    | .mul => some (.int k (k.wrap (a * b)))
    | .quo => if b ≠ 0 then some (.int k (k.wrap (a.tdiv b))) else none
    | .rem => if b ≠ 0 then some (.int k (a.tmod b)) else none
    | .and | .or | .xor | .andNot => some (.int k (bits op k a b))
    | .eql => some (.bool (a == b))
    | .neq => some (.bool (a != b))
    | .lss => some (.bool (a < b))
    | .leq => some (.bool (a ≤ b))
    | .gtr => some (.bool (a > b))
    | .geq => some (.bool (a ≥ b))
    | _ => none
def binS (op : BinOp) (a b : ByteArray) : Option D :=
  let eq := a.toList == b.toList
  let lt := Op.bytesLess a.toList b.toList
  match op with
  | .add => if a.size + b.size ≤ 9223372036854775807 then some (.str (a ++ b)) else none
  | .eql => some (.bool eq)
  | .neq => some (.bool !eq)
  | .lss => some (.bool lt)
  | .leq => some (.bool (lt || eq))
  | .gtr => some (.bool !(lt || eq))
  | .geq => some (.bool !lt)
  | _ => none
def binV (op : BinOp) : V → V → Option D
  | .w (.c (.d (.int k a))), .w (.c (.d (.int k' b))) => binI op k a k' b
  | .w (.c (.d (.str a))), .w (.c (.d (.str b))) => binS op a b
  | _, _ => none
def unV (op : UnOp) : V → Option D
  | .w (.c (.d (.int k n))) => match op with
    | .neg => some (.int k (k.wrap (0 - n)))
    | .xor => some (.int k (bits .xor k (if k.signed then -1 else k.max) n))
    | _ => none
  | .w (.c (.d (.bool b))) => match op with | .not => some (.bool !b) | _ => none
  | _ => none
/-- Bytes as data; back. -/
def bD (x : UInt8) : D := .int .u8 (x.toNat : Int)
def ofB : D → Option UInt8 | .int .u8 n => if 0 ≤ n ∧ n < 256 then some (UInt8.ofNat n.toNat) else none | _ => none
def ofBs : List D → Option (List UInt8)
  | [] => some []
  | x :: r => match ofB x, ofBs r with | some a, some l => some (a :: l) | _, _ => none
def srcV (h : Heap) : Bool → V → Option (List D)
  | true, .w (.c (.d (.str s))) => some (s.data.toList.map bD)
  | false, v => match toV h v with | some (.sl ys) => some ys | _ => none
  | _, _ => none
def bound : Option SX → Nat → Option Nat
  | none, d => some d
  | some x, _ => match asI (ρ x) with | some (_, n) => if 0 ≤ n then some n.toNat else none | none => none
def slV (sz lo hi : Nat) : V → Option C
  | .w (.c (.d (.sl es))) => if lo ≤ hi ∧ hi ≤ es.length ∧ allSz sz es = true then some (.d (.sl ((es.drop lo).take (hi - lo)))) else none
  | .w (.c .nil) => if lo = 0 ∧ hi = 0 then some .nil else none
  | .w (.c (.own id sz' off n)) => if lo ≤ hi ∧ hi ≤ n ∧ sz' = sz then some (.own id sz (off + lo) (hi - lo)) else none
  | _ => none
def lenV' : V → Option Nat
  | .w (.c (.d (.sl es))) => some es.length
  | .w (.c .nil) => some 0
  | .w (.c (.own _ _ _ n)) => some n
  | _ => none
def fdV (off : Nat) : V → Option C
  | .w (.c (.ptr id sz i o)) => some (.ptr id sz i (o + off))
  | .w (.c (.rp cs)) => some (.rp (cs.drop off))
  | _ => none
def prt (cs : List C) (off : Nat) : Kd → Option W
  | .sc => (cs[off]?).map .c
  | .ag n => if off + n ≤ cs.length then some (mkAgg ((cs.drop off).take n)) else none
def idx (i : SX) (n : Nat) : Option Nat := match asI (ρ i) with | some (_, j) => if 0 ≤ j ∧ j < n then some j.toNat else none | none => none
def parts (ps : List (Nat × Nat × SX)) (cs : List C) : Option (List C) :=
  match ps with
  | [] => some cs
  | (off, size, x) :: r => match asW (ρ x) with
    | some y => if (wcells y).length = size ∧ off + size ≤ cs.length then parts r (setR cs off (wcells y)) else none
    | none => none
def elems (sz : Nat) (ps : List (Nat × SX)) (es : List D) : Option (List D) :=
  match ps with
  | [] => some es
  | (i, x) :: r => match pureV (ρ x) with
    | some e => if e.cells.length = sz ∧ i < es.length then elems sz r (es.set i e) else none
    | none => none
def ints (xs : List SX) : Option (IntKind × List Int) :=
  match xs with
  | [] => none
  | [x] => (asI (ρ x)).map fun (k, n) => (k, [n])
  | x :: r => match asI (ρ x), ints r with | some (k, n), some (k', l) => if k = k' then some (k, n :: l) else none | _, _ => none

def ef : SOp → Option R
  | .mv x => some (ρ x, h, u)
  | .nilOwn sz => newO h u dst (.row sz []) (.own (8 * dst) sz 0 0)
  | .pick c a b => (asB (ρ c)).map fun t => (if t then ρ a else ρ b, h, u)
  | .alloc cs => newO h u dst (.box cs) (.ptr (8 * dst) 1 0 0)
  | .allocArr es => newO h u dst (.row 1 es) (.pa (8 * dst) 1)
  | .box m x => match asW (ρ x) with
    | none => none
    | some y => match m with
      | .ownBox => newO h u dst (.box (wcells y)) (.ptr (8 * dst) 1 0 0)
      | .ownArr => match y with | .c (.d (.agg cs)) => newO h u dst (.row 1 cs) (.pa (8 * dst) 1) | _ => none
      | .roBox => (allDn (wcells y)).map fun cs => (.w (.c (.rp cs)), h, u)
      | .roArr => match y with | .c (.d (.agg cs)) => some (.w (.c (.ra cs)), h, u) | _ => none
  | .build z ps => (parts ρ ps z).map fun cs => (.w (mkAgg cs), h, u)
  | .bldSl own n sz z ps => match elems ρ sz ps (List.replicate n z) with
    | none => none
    | some es => if own then newO h u dst (.row sz es) (.own (8 * dst) sz 0 n) else some (if n = 0 then .w (.c .nil) else vd (.sl es), h, u)
  | .bldFz n sz z ps => (elems (fun x => frzV h (ρ x)) sz ps (List.replicate n z)).map fun es => (vd (.sl es), killAll h (ps.flatMap fun p => cellsV (ρ p.2)), u)
  | .buildF z ps => (parts (fun x => frzV h (ρ x)) ps z).map fun cs => (.w (mkAgg cs), killAll h (ps.flatMap fun p => cellsV (ρ p.2.2)), u)
  | .load kd x => (ldV h kd (ρ x)).map fun w => (.w w, h, u)
  | .loadB kd x => (ldB h kd (ρ x)).map fun w => (.w w, h, u)
  | .loadX kd x ex => (ldX h kd (ex.map ρ) (ρ x)).map fun w => (.w w, h, u)
  | .store kd x y => match asW (ρ y) with
    | none => none
    | some w => (stV h kd (ρ x) w).map fun h' => (.undef, h', u)
  | .bin op x y => (binV op (ρ x) (ρ y)).map fun d => (vd d, h, u)
  | .eqB neg x y => match asB (ρ x), asB (ρ y) with
    | some a, some b => some (vd (.bool (if neg then !(a == b) else (a == b))), h, u)
    | _, _ => none
  | .eqA neg ks x y => (eqV neg ks (ρ x) (ρ y)).map fun d => (vd d, h, u)
  | .un op x => (unV op (ρ x)).map fun d => (vd d, h, u)
  | .conv k x => (asI (ρ x)).map fun (_, n) => (vd (.int k (k.wrap n)), h, u)
  | .b2s x => match toV h (ρ x) with
    | some (.sl es) => (ofBs es).map fun l => (vd (.str ⟨l.toArray⟩), h, u)
    | _ => none
  | .s2b own x => match ρ x with
    | .w (.c (.d (.str s))) => if s.size ≤ maxLen then if own then newO h u dst (.row 1 (s.data.toList.map bD)) (.own (8 * dst) 1 0 s.size) else some (vd (.sl (s.data.toList.map bD)), h, u) else none
    | _ => none
  | .make sz byt z l c => match asI (ρ l), asI (ρ c) with
    | some (.i64, a), some (.i64, b) => if 0 ≤ a ∧ a ≤ b ∧ b * byt ≤ 140737488355328 ∧ b ≤ 140737488355328 then newO h u dst (.row sz (List.replicate a.toNat z)) (.own (8 * dst) sz 0 a.toNat) else none
    | _, _ => none
  | .slice sz x lo hi mx => match lenV' (ρ x) with
    | none => none
    | some n => match bound ρ lo 0, bound ρ hi n with
      | some l, some k => match bound ρ mx n with
        | some m => if k ≤ m ∧ m ≤ n then (slV sz l k (ρ x)).map fun c => (.w (.c c), h, u) else none
        | none => none
      | _, _ => none
  | .sliceStr x lo hi => match ρ x with
    | .w (.c (.d (.str s))) => match bound ρ lo 0, bound ρ hi s.size with
      | some l, some k => if l ≤ k ∧ k ≤ s.size then some (vd (.str (s.extract l k)), h, u) else none
      | _, _ => none
    | _ => none
  | .sliceArr sz n x lo hi => match bound ρ lo 0, bound ρ hi n with
    | some l, some k => if l ≤ k ∧ k ≤ n then match ρ x with
      | .w (.c (.pa id sz')) => match h id with
        | some (.row _ es) => if sz' = sz ∧ es.length = n then some (.w (.c (.own id sz l (k - l))), h, u) else none
        | _ => none
      | .w (.c (.ra es)) => if es.length = n ∧ allSz sz es = true then some (vd (.sl ((es.drop l).take (k - l))), h, u) else none
      | .w (.c (.ptr id sz' i o)) => match h id with
        | some (.box cs) => if sz = 1 ∧ sz' = 1 ∧ i + o + n ≤ cs.length then some (.w (.c (.own id 1 (i + o + l) (k - l))), h, u) else none
        | _ => none
      | _ => none
      else none
    | _, _ => none
  | .fieldAddr off x => (fdV off (ρ x)).map fun c => (.w (.c c), h, u)
  | .field off kd x => match aggV (ρ x) with
    | some cs => (prt cs off kd).map fun w => (.w w, h, u)
    | none => none
  | .idxSl sz x i => match ρ x with
    | .w (.c (.d (.sl es))) => match idx ρ i es.length with
      | some j => match es[j]? with
        | some e => if e.cells.length = sz then some (.w (.c (.rp e.cells)), h, u) else none
        | none => none
      | none => none
    | .w (.c (.own id sz' off n)) => match idx ρ i n with
      | some j => if sz' = sz then some (.w (.c (.ptr id sz (off + j) 0)), h, u) else none
      | none => none
    | _ => none
  | .idxPa sz n x i => match idx ρ i n with
    | none => none
    | some j => match ρ x with
      | .w (.c (.pa id sz')) => if sz' = sz then some (.w (.c (.ptr id sz j 0)), h, u) else none
      | .w (.c (.ra es)) => match es[j]? with | some e => if e.cells.length = sz ∧ es.length = n then some (.w (.c (.rp e.cells)), h, u) else none | none => none
      | .w (.c (.ptr id sz' i o)) => some (.w (.c (.ptr id sz' i (o + j * sz))), h, u)
      | .w (.c (.rp cs)) => some (.w (.c (.rp ((cs.drop (j * sz)).take sz))), h, u)
      | _ => none
  | .idxArr sz n kd x i => match aggV (ρ x), idx ρ i n with
    | some cs, some j => (prt cs (j * sz) kd).map fun w => (.w w, h, u)
    | _, _ => none
  | .idxStr x i => match ρ x with
    | .w (.c (.d (.str s))) => match idx ρ i s.size with
      | some j => (s.data.toList[j]?).map fun b => (vd (bD b), h, u)
      | none => none
    | _ => none
  | .extract x i => match ρ x with
    | .tup ws => (ws[i]?).map fun w => (.w w, h, u)
    | _ => none
  | .len x => (lenV' (ρ x)).map fun (n : Nat) => (vd (.int .i64 (n : Int)), h, u)
  | .lenStr x => match ρ x with
    | .w (.c (.d (.str s))) => some (vd (.int .i64 s.size), h, u)
    | _ => none
  | .lenArr n => some (vd (.int .i64 n), h, u)
  | .app str sz byt x y => match srcV h str (ρ y) with
    | none => none
    | some ys => if allSz sz ys = true then match ρ x with
      | .w (.c .nil) => if ys.length * byt ≤ 140737488355328 ∧ ys.length ≤ 140737488355328 then newO h u dst (.row sz ys) (.own (8 * dst) sz 0 ys.length) else none
      | .w (.c (.own id _ off n)) => match h id with
        | some (.row sz' es) => if off = 0 ∧ n = es.length ∧ sz' = sz ∧ (es.length + ys.length) * byt ≤ 140737488355328 ∧ es.length + ys.length ≤ 140737488355328 then
            newO (upd h id none) u dst (.row sz (es ++ ys)) (.own (8 * dst) sz 0 (es ++ ys).length) else none
        | _ => none
      | _ => none
      else none
  | .appN str sz byt x y => match srcV h str (ρ y) with
    | none => none
    | some ys => if allSz sz ys = true then match ρ x with
      | .w (.c .nil) => if ys.length * byt ≤ 140737488355328 ∧ ys.length ≤ 140737488355328 then newO h u dst (.row sz ys) (.own (8 * dst) sz 0 ys.length) else none
      | _ => none
      else none
  | .copy sz x y => match toV h (ρ y) with
    | some (.sl ys) => if allSz sz ys = true then match ρ x with
      | .w (.c .nil) => some (vd (.int .i64 0), h, u)
      | .w (.c (.own id _ off n)) => match h id with
        | some (.row sz' es) => if sz' = sz ∧ off + n ≤ es.length then some (vd (.int .i64 (Nat.min ys.length n : Nat)), upd h id (some (.row sz (setR es off (ys.take n)))), u) else none
        | some (.box cs) => if sz = 1 ∧ off + n ≤ cs.length then some (vd (.int .i64 (Nat.min ys.length n : Nat)), upd h id (some (.box (setR cs off (((ys.take n).flatMap D.cells).map C.d)))), u) else none
        | none => none
      | _ => none
      else none
    | _ => none
  | .min xs => (ints ρ xs).map fun (k, l) => (vd (.int k (match l with | [] => 0 | a :: r => r.foldl (fun x y => if y < x then y else x) a)), h, u)
  | .max xs => (ints ρ xs).map fun (k, l) => (vd (.int k (match l with | [] => 0 | a :: r => r.foldl (fun x y => if y > x then y else x) a)), h, u)
  | .mark x => match ρ x with
    | .w (.c (.own id sz off n)) => match h id with
      | some (.row sz' es) => if sz' = sz ∧ 0 < n then some (.w (.c (.own id sz off n)), h, u) else none
      | _ => none
    | _ => none
  | .markF x => match ρ x with
    | .w (.c (.own id sz off n)) => match h id with
      | some (.row sz' es) => if sz' = sz ∧ 0 < n ∧ off + n ≤ es.length then some (vd (.sl ((es.drop off).take n)), upd h id none, u) else none
      | _ => none
    | _ => none
  | .frz x => match ρ x with
    | .w y => (toW h y).map fun d => (vd d, killAll h (wcells y), u)
    | _ => none
  | .clos f xs => (capVs (xs.map ρ)).map fun ds => (vd (.fn f ds), h, u)
  | .call .. => none
  | .closM f xs ys => match capPs (xs.map ρ), capPs (ys.map ρ) with
    | some a, some b => some (.w (.c (.cf f a b)), h, u)
    | _, _ => none
  | .callM .. => none
  | .nilChk x => if isPtr (ρ x) = true then some (ρ x, h, u) else none
end
end Go.Proofs.Ytldcgjhfaledfaa
