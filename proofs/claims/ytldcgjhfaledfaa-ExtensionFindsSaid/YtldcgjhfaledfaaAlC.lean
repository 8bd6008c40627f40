/- The plain logic (3): what a function is said to return; code on data; what holds behind it. Own work. -/
import Derived.Test.YtldcgjhfaledfaaAlB
set_option linter.unusedVariables false
set_option linter.unusedSimpArgs false
namespace Go.Proofs.Ytldcgjhfaledfaa
open Go.RowKit

/-! ### Contracts -/
/-- What the package-level variables hold, by their number. -/
abbrev Glob := List (Nat × C)
def Glob.at (G : Glob) (g : Nat) : Option C := (G.find? (·.1 == g)).map (·.2)
def C.isR : C → Bool | .rp _ => true | .ra _ => true | _ => false
/-- An array's variable holds no more than the array (where an element is one cell). -/
def WholeRow (w : World) (g : Nat) (c : C) : Prop := ∀ es, c = .ra es → (∀ x ∈ es, x.cells.length = 1) → ∃ ty, w.shape? g = some (ty, es.length)
def GlobOk (G : Glob) (S : Cells) (w : World) : Prop := ∀ p ∈ G, RC (fun _ => none) S w (.pointer (some ⟨p.1, 0, none⟩)) p.2 ∧ p.2.isR = true ∧ WholeRow w p.1 p.2
/-- No cell of the row is frozen. -/
def Thawed (cur : Array Value) (fz : Nat × Nat) : Prop := fz.1 ≤ fz.2 ∧ (fz.1 < fz.2 → cur.size ≤ fz.1)
theorem Thawed.cell {cur : Array Value} {fz : Nat × Nat} (h : Thawed cur fz) : ∀ i, i < cur.size → ¬ (fz.1 ≤ i ∧ i < fz.2) := fun i hi hh => by have := h.2 (by omega); omega
theorem Thawed.of_size {cur cur' : Array Value} {fz : Nat × Nat} (h : Thawed cur fz) (e : cur'.size = cur.size) : Thawed cur' fz := by unfold Thawed; rw [e]; exact h
/-- A row in a block of its own, which S does not touch. -/
def FreshRow (S : Cells) (w : World) (B b sz : Nat) (es : List D) : Prop :=
  B ≤ b ∧ (∀ i, ¬ S b i) ∧ ∃ cur ty fz, w.heap[b]? = some (.cells cur ty fz) ∧ Thawed cur fz ∧ es.length * sz ≤ cur.size ∧
    ∀ i (h : i < es.length), es[i].cells.length = sz ∧ ∀ j (h2 : j < es[i].cells.length), ∃ v, cur[i * sz + j]? = some v ∧ Reads S w v es[i].cells[j]
/-- A cell of a result, and the blocks of its own that are new. -/
def ResC (S : Cells) (w : World) (B : Nat) (v : Value) (c : C) (bl : List Nat) : Prop :=
  match c with
  | .d x => Reads S w v x ∧ bl = []
  | .fr sz es => ((∃ ad, v = .slice ad 0 0) ∧ es = [] ∧ bl = []) ∨ ∃ b cap ty N, bl = [b] ∧ v = .slice (some ⟨b, 0, none⟩) es.length cap ∧ es.length ≤ cap ∧ cap ≤ maxLen ∧ w.shape? b = some (ty, N) ∧ cap * sz ≤ N ∧ FreshRow S w B b sz es
  | _ => False
inductive ResCs (S : Cells) (w : World) (B : Nat) : List Value → List C → List Nat → Prop
  | nil : ResCs S w B [] [] []
  | cons {v c b1 vs cs b2} : ResC S w B v c b1 → ResCs S w B vs cs b2 → ResCs S w B (v :: vs) (c :: cs) (b1 ++ b2)
def ResW (S : Cells) (w : World) (B : Nat) (v : Value) (x : W) (bl : List Nat) : Prop :=
  match x with
  | .c (.d (.agg cs)) => (∃ us : List Value, v = .agg us.toArray ∧ All2 (Reads S w) us cs) ∧ bl = []
  | .c x => ResC S w B v x bl
  | .mix cs => ∃ us : List Value, v = .agg us.toArray ∧ ResCs S w B us cs bl
inductive ResWs (S : Cells) (w : World) (B : Nat) : List Value → List W → List Nat → Prop
  | nil : ResWs S w B [] [] []
  | cons {v c b1 vs cs b2} : ResW S w B v c b1 → ResWs S w B vs cs b2 → ResWs S w B (v :: vs) (c :: cs) (b1 ++ b2)
def ResV (S : Cells) (w : World) (B : Nat) (v : Value) (x : V) (bl : List Nat) : Prop :=
  match x with
  | .w x => ResW S w B v x bl
  | .tup ws => ∃ us : List Value, v = .tuple us.toArray ∧ ResWs S w B us ws bl
  | .undef => False
def Ob.ids : Ob → List Nat
  | .row .. => []
  | .box cs => cs.flatMap C.ids
/-! ### Variables in memory -/
/-- The cells of a variable's block. -/
def CellsOk (m : Mp) (S : Cells) (w : World) (sz : Nat) (cur : Array Value) : Ob → Prop
  | .row _ es => es.length * sz ≤ cur.size ∧ ∀ i (h : i < es.length), es[i].cells.length = sz ∧ ∀ j (h2 : j < es[i].cells.length), ∃ v, cur[i * sz + j]? = some v ∧ Reads S w v es[i].cells[j]
  | .box cs => cs.length ≤ cur.size ∧ ∀ j (h : j < cs.length), ∃ v, cur[j]? = some v ∧ RC m S w v cs[j]
def ObjOk (m : Mp) (S : Cells) (B : Nat → Prop) (w : World) (id : Nat) (o : Ob) : Prop :=
  match m id with
  | none => ∃ sz, o = .row sz []
  | some (b, sz) => o.sz = sz ∧ B b ∧ (∀ i, ¬ S b i) ∧ ∃ cur ty fz, w.heap[b]? = some (.cells cur ty fz) ∧ Thawed cur fz ∧ CellsOk m S w sz cur o
/-- All that was there below a number lies as it lay, but for what B says. -/
structure Bel (n : Nat) (B : Nat → Prop) (w w' : World) : Prop where
  os : w'.os = w.os
  tape : w'.tape = w.tape
  output : w'.output = w.output
  size : w.heap.size ≤ w'.heap.size
  block : ∀ k, k < n → ¬ B k → w'.heap[k]? = w.heap[k]?
theorem Bel.refl (n : Nat) (B : Nat → Prop) (w : World) : Bel n B w w := ⟨rfl, rfl, rfl, Nat.le_refl _, fun _ _ _ => rfl⟩
theorem Bel.trans {n : Nat} {B : Nat → Prop} {a b c : World} (h : Bel n B a b) (k : Bel n B b c) : Bel n B a c :=
  ⟨k.os.trans h.os, k.tape.trans h.tape, k.output.trans h.output, Nat.le_trans h.size k.size, fun i hi hb => (k.block i hi hb).trans (h.block i hi hb)⟩
theorem Bel.of {n : Nat} {B : Nat → Prop} {w w' : World} (h : Below n w w') : Bel n B w w' := ⟨h.os, h.tape, h.output, h.size, fun k hk _ => h.block k hk⟩
theorem Bel.mono {n k : Nat} {B C : Nat → Prop} {w w' : World} (h : Bel k C w w') (hk : n ≤ k) (hB : ∀ b, b < n → C b → B b) : Bel n B w w' :=
  ⟨h.os, h.tape, h.output, h.size, fun i hi hb => h.block i (Nat.lt_of_lt_of_le hi hk) fun hc => hb (hB i hi hc)⟩
theorem Bel.below {n : Nat} {w w' : World} {B : Nat → Prop} (h : Bel n B w w') (hB : ∀ b, b < n → ¬ B b) : Below n w w' :=
  ⟨h.os, h.tape, h.output, h.size, fun k hk => h.block k hk (hB k hk)⟩
/-- Behind a step that leaves what was there as it was. -/
theorem Bel.step {n : Nat} {B : Nat → Prop} {a w w' : World} (h : Bel n B a w) (hn : n ≤ a.heap.size) (k : Below w.heap.size w w') : Bel n B a w' :=
  h.trans (Bel.of (k.mono (Nat.le_trans hn h.size)))
/-- The blocks of these variables. -/
def HeapBl (h : Heap) (m : Mp) (b : Nat) : Prop := ∃ id o s, h id = some o ∧ m id = some (b, s)
/-- Function f, called with these values, among them variables of the caller's (those of h0, named by L) returns this, and the variables are as in h1 (named by L1; those that L does not name are new); all other memory that was there is as it was. -/
def DenM (P : Program) (G : Glob) (f : FuncId) (args : List W) (h0 : Heap) (L : List Nat) (res : V) (h1 : Heap) (L1 : List Nat) : Prop :=
  ((∀ id o, h0 id = some o → id ∈ L ∧ ∀ j ∈ o.ids, j ∈ L) ∧ (∀ id ∈ L, h0 id ≠ none) ∧ (∀ x ∈ args, ∀ i ∈ x.ids, i ∈ L) ∧ (∀ id o, h1 id = some o → id ∈ L1 ∧ ∀ j ∈ o.ids, j ∈ L1) ∧ ∀ i ∈ res.ids, i ∈ L1) ∧
  ∀ (w : World) (S : Cells) (vs : List Value) (m : Mp), (∀ b i, S b i → b < w.heap.size) → GlobOk G S w → (∀ id o, h0 id = some o → ObjOk m S (fun _ => True) w id o) →
    (∀ i j b s s', h0 i ≠ none → h0 j ≠ none → m i = some (b, s) → m j = some (b, s') → i = j) → All2 (fun v x => RW m S w v x) vs args →
    Calls P f vs.toArray w fun e w' => ∃ v S' m', e = .returned v ∧ Bel w.heap.size (HeapBl h0 m) w w' ∧ KeepsOthers w w' ∧ Keeps S w w' ∧ (∀ b i, S b i → S' b i) ∧ (∀ b i, S' b i → b < w'.heap.size ∧ (S b i ∨ w.heap.size ≤ b ∨ HeapBl h0 m b)) ∧
      (∀ i ∈ L, i ∈ L1 → m' i = m i) ∧ (∀ id o, h1 id = some o → ObjOk m' S' (fun b => w.heap.size ≤ b ∨ HeapBl h0 m b) w' id o) ∧
      (∀ i j b s s', h1 i ≠ none → h1 j ≠ none → m' i = some (b, s) → m' j = some (b, s') → i = j) ∧ RV m' S' w' v res
/-- No row or variable of the function's own. -/
def C.isPure : C → Bool | .d _ => true | .nil => true | _ => false
def W.isPure : W → Bool | .c x => x.isPure | .mix _ => false
/-- Function f, called with these data, returns this, and leaves all memory that was there as it was. -/
def Den (P : Program) (G : Glob) (f : FuncId) (args : List D) (res : V) : Prop :=
  ∀ (w : World) (S : Cells) (vs : List Value), (∀ b i, S b i → b < w.heap.size) → GlobOk G S w → All2 (fun v x => RW (fun _ => none) S w v (.c (.d x))) vs args →
    Calls P f vs.toArray w fun e w' => ∃ v S' bl, e = .returned v ∧ Below w.heap.size w w' ∧ (∀ b i, S' b i → (S b i ∨ w.heap.size ≤ b) ∧ b < w'.heap.size) ∧ bl.Nodup ∧ ResV S' w' w.heap.size v res bl

/-- .. called with values of which more is known: nil too. -/
def DenW (P : Program) (G : Glob) (f : FuncId) (args : List W) (res : V) : Prop :=
  ∀ (w : World) (S : Cells) (vs : List Value), (∀ b i, S b i → b < w.heap.size) → GlobOk G S w → All2 (fun v x => RW (fun _ => none) S w v x) vs args →
    Calls P f vs.toArray w fun e w' => ∃ v S' bl, e = .returned v ∧ Below w.heap.size w w' ∧ (∀ b i, S' b i → (S b i ∨ w.heap.size ≤ b) ∧ b < w'.heap.size) ∧ bl.Nodup ∧ ResV S' w' w.heap.size v res bl
/-- A function value, called: what it has captured comes behind the arguments. -/
def DenF (P : Program) (G : Glob) (g : FuncId) (caps ds : List D) (res : V) : Prop :=
  (∀ (args : Array Value) (w : World), (callFunc g args).run P w = .ok (.enter g args) w) ∧ Den P G g (ds ++ caps) res
/-- The number that stands for 'the function value that is the first argument'. -/
def dynF : Nat := 1000000007
/-- A call with these values may be said to return this. -/
def CallOk (P : Program) (G : Glob) (h : Heap) (f : FuncId) (vs : List V) (res : V) : Prop :=
  (f ≠ dynF ∧ ∃ ds, toVs h vs = some ds ∧ Den P G f ds res) ∨ (f = dynF ∧ ∃ g caps ds, toVs h vs = some (.fn g caps :: ds) ∧ DenF P G g caps ds res) ∨
    (f ≠ dynF ∧ ∃ xs : List W, vs = xs.map V.w ∧ (∀ x ∈ xs, x.isPure = true) ∧ DenW P G f xs res)

/-- A function that is ranged over, of which the rounds get these data, and which changes no memory that was there. J: what holds behind so many rounds; Jx: where a round has said that no more are wanted. -/
def SeqD (P : Program) (G : Glob) (g : Nat) (caps : List D) (xs : List (List D)) : Prop :=
  (∀ (args : Array Value) (w : World), (callFunc g args).run P w = .ok (.enter g args) w) ∧ ∀ (n : Nat) (w : World) (S : Cells) (lb : List Value), (∀ b i, S b i → b < w.heap.size) → GlobOk G S w → All2 (fun v x => RW (fun _ => none) S w v (.c (.d x))) lb caps →
    ∀ (l : Nat) (J : Nat → World → Prop) (Jx : World → Prop), (∀ k W, J k W → Keeps S w W ∧ w.heap.size ≤ W.heap.size) →
      (∀ k W W', J k W → Below W.heap.size W W' → J k W') → (∀ W W', Jx W → Below W.heap.size W W' → Jx W') →
      (∀ k r W us, xs[k]? = some r → J k W → All2 (fun v x => RW (fun _ => none) S W v (.c (.d x))) us r → YieldAt Fence.wide n P l us.toArray W fun e W' => (e = .returned (.bool true) ∧ J (k + 1) W') ∨ (e = .returned (.bool false) ∧ Jx W')) →
      J 0 w → CallsIn Fence.wide n P g (#[.func (.yield l) #[] #[]] ++ lb.toArray) w fun e W' => (∃ v, e = .returned v) ∧ (J xs.length W' ∨ Jx W')

/-! ### Code on data -/
structure SOper where
  dst : Option Nat
  op : SOp
  guard : Option (Nat × Bool)
deriving Inhabited
inductive SCode where
  | skip
  | reg (ops : List SOper)
  | seq (a b : SCode)
  | cond (c : SX) (a b : SCode)
  | block (id : Nat) (c : SCode)
  | loop (c : SCode)
  | exit (id : Nat)
  | ret
  | rangeF (x : SX) (ps : List Nat) (asg body : SCode)
deriving Inhabited
inductive AX where
  | nrm | ex (id : Nat) | ret
structure SFn where
  np : Nat
  nt : Nat
  body : SCode
  res : List (Nat × Option Kd)
deriving Inhabited

def ev (G : Glob) (f : Nat → V) : SX → V
  | .t n => f n
  | .k v => .w v
  | .g n => match G.at n with | some c => .w (.c c) | none => .undef
  | .u => .undef
/-- A result as the caller has it: what is new memory is only read. -/
def C.ro : C → C | .fr _ es => .d (.sl es) | c => c
def W.ro : W → W | .c x => .c x.ro | .mix cs => mkAgg (cs.map C.ro)
def V.ro : V → V | .w x => .w x.ro | .tup ws => .tup (ws.map W.ro) | .undef => .undef
/-- .. or a row of the caller's own: the k-th of the results. -/
def ownV (h : Heap) (u : Nat → Bool) (dst k sz : Nat) : V → Option R
  | .w (.c (.fr sz' es)) => if k = 0 ∧ sz' = sz ∧ u (8 * dst) = false then some (.w (.c (.own (8 * dst) sz 0 es.length)), upd h (8 * dst) (some (.row sz es)), upd u (8 * dst) true) else none
  | .tup ws => match ws[k]? with
    | some (.c (.fr sz' es)) => if sz' = sz ∧ u (8 * dst) = false then some (.tup ((ws.map W.ro).set k (.c (.own (8 * dst) sz 0 es.length))), upd h (8 * dst) (some (.row sz es)), upd u (8 * dst) true) else none
    | _ => none
  | _ => none
def impV (h : Heap) (u : Nat → Bool) (dst : Nat) (own : Option (Nat × Nat)) (res : V) : Option R :=
  match own with
  | none => some (res.ro, h, u)
  | some (_, 0) => some (res.ro, h, u)
  | some (k, sz + 1) => ownV h u dst k (sz + 1) res
/-- A call that is marked (by the size 0): none of its arguments is a row or a variable of the function's own, so it can change places with what writes. -/
def PureOk (own : Option (Nat × Nat)) (vs : List V) : Prop := ∀ k, own = some (k, 0) → vs.all (fun v => v.ids.isEmpty) = true
theorem pok_none (vs : List V) : PureOk none vs := fun _ e => by cases e
theorem pok_own (k sz : Nat) (vs : List V) : PureOk (some (k, sz + 1)) vs := fun _ e => by cases e
theorem pok_pure (own : Option (Nat × Nat)) (vs : List V) (h : vs.all (fun v => v.ids.isEmpty) = true) : PureOk own vs := fun _ _ => h

/-! ### Calls that change variables of the caller's -/
def Cp.ren (g : Nat → Nat) : Cp → Cp
  | .d x => .d x
  | .p id sz i o => .p (g id) sz i o
def C.ren (g : Nat → Nat) : C → C
  | .own id sz off n => .own (g id) sz off n
  | .ptr id sz i o => .ptr (g id) sz i o
  | .pa id sz => .pa (g id) sz
  | .cf f pre post => .cf f (pre.map (Cp.ren g)) (post.map (Cp.ren g))
  | c => c
def W.ren (g : Nat → Nat) : W → W
  | .c x => .c (x.ren g)
  | .mix cs => .mix (cs.map (C.ren g))
def V.ren (g : Nat → Nat) : V → V
  | .w x => .w (x.ren g)
  | .tup ws => .tup (ws.map (W.ren g))
  | .undef => .undef
def Ob.ren (g : Nat → Nat) : Ob → Ob
  | .row sz es => .row sz es
  | .box cs => .box (cs.map (C.ren g))
/-- The caller's variables behind the call, and the names that are taken. -/
def heapM (h : Heap) (g : Nat → Nat) (L L1 : List Nat) (h1 : Heap) : Heap := fun i => match L1.find? (fun id => g id == i) with
  | some id => (h1 id).map (Ob.ren g)
  | none => if (L.any fun id => g id == i) then none else h i
def usedM (u : Nat → Bool) (g : Nat → Nat) (L1 : List Nat) : Nat → Bool := fun i => u i || L1.any fun id => g id == i
def GoM (P : Program) (G : Glob) (h : Heap) (u : Nat → Bool) (f : FuncId) (xs : List W) (r : R) : Prop :=
  ∃ (g : Nat → Nat) (args : List W) (h0 : Heap) (L : List Nat) (res : V) (h1 : Heap) (L1 : List Nat), DenM P G f args h0 L res h1 L1 ∧ xs = args.map (W.ren g) ∧ (∀ id o, h0 id = some o → h (g id) = some (o.ren g)) ∧
    (∀ i ∈ L ++ L1, ∀ j ∈ L ++ L1, g i = g j → i = j) ∧ (∀ id ∈ L1, id ∉ L → u (g id) = false) ∧ r = (res.ren g, heapM h g L L1 h1, usedM u g L1)
def CallM (P : Program) (G : Glob) (h : Heap) (u : Nat → Bool) (f : FuncId) (vs : List V) (r : R) : Prop :=
  (f ≠ dynF ∧ ∃ xs : List W, vs = xs.map V.w ∧ GoM P G h u f xs r) ∨
    (f = dynF ∧ ∃ (g : FuncId) (pre post : List Cp) (xs : List W), vs = .w (.c (.cf g pre post)) :: xs.map V.w ∧ (∀ (args : Array Value) (w : World), (callFunc g args).run P w = .ok (.enter g args) w) ∧ GoM P G h u g (pre.map Cp.w ++ xs ++ post.map Cp.w) r)

section
variable (P : Program) (G : Glob)
/-- The operation itself. -/
def opw (s : SOp) (ρ : SX → V) (h : Heap) (u : Nat → Bool) (dst : Nat) (K : R → Prop) : Prop :=
  match s with
  | .call f xs own => ∃ res, CallOk P G h f (xs.map ρ) res ∧ OwnOk h (xs.map ρ) res ∧ PureOk own (xs.map ρ) ∧ (match impV h u dst own res with | some r => K r | none => False)
  | .callM f xs => ∃ r, CallM P G h u f (xs.map ρ) r ∧ K r
  | s => match ef ρ h u dst s with | some r => K r | none => False
def St.put (σ : St) (dst : Option Nat) (r : R) : St := ⟨updO σ.f dst r.1, r.2.1, r.2.2⟩
/-- .. with its guard. -/
def aop (o : SOper) (K : St → Prop) (σ : St) : Prop :=
  match o.guard with
  | none => opw P G o.op (ev G σ.f) σ.h σ.u (o.dst.getD 0) (fun r => K (σ.put o.dst r))
  | some (t, want) => match asB (σ.f t) with
    | some b => (b = want → opw P G o.op (ev G σ.f) σ.h σ.u (o.dst.getD 0) (fun r => K (σ.put o.dst r))) ∧ (b ≠ want → K (σ.put o.dst (.tup [], σ.h, σ.u)))
    | none => σ.f t = .tup [] ∧ K (σ.put o.dst (.tup [], σ.h, σ.u))
def aops : List SOper → (St → Prop) → St → Prop
  | [], K, σ => K σ
  | o :: r, K, σ => aop P G o (aops r K) σ

/-! ### What is forgotten, and renamed: τ says no more than σ -/
structure Ent (σ τ : St) : Prop where
  ex : ∃ g : Nat → Nat, (∀ t, τ.f t = .undef ∨ σ.f t = (τ.f t).ren g) ∧ (∀ i o, τ.h i = some o → σ.h (g i) = some (o.ren g)) ∧ (∀ i j, τ.h i ≠ none → τ.h j ≠ none → g i = g j → i = j)
  slots : ∀ t, ∀ i ∈ (τ.f t).ids, τ.u i = true
  objs : ∀ i o, τ.h i = some o → τ.u i = true ∧ ∀ j ∈ o.ids, τ.u j = true

/-- The slots that code writes. -/
def SCode.writes : SCode → List Nat
  | .reg ops => ops.filterMap SOper.dst
  | .seq a b => a.writes ++ b.writes
  | .cond _ a b => a.writes ++ b.writes
  | .block _ c => c.writes
  | .loop c => c.writes
  | .rangeF _ ps a b => ps ++ a.writes ++ b.writes
  | _ => []
def parsL (f : Nat → V) : List Nat → List D → (Nat → V)
  | t :: ts, x :: xs => parsL (upd f t (vd x)) ts xs
  | _, _ => f
def awp : SCode → (AX → St → Prop) → St → Prop
  | .skip, Q, σ => Q .nrm σ
  | .reg ops, Q, σ => aops P G ops (Q .nrm) σ
  | .seq a b, Q, σ => awp a (fun e s => match e with | .nrm => awp b Q s | e => Q e s) σ
  | .cond c a b, Q, σ => match asB (ev G σ.f c) with
    | some t => (t = true → awp a Q σ) ∧ (t = false → awp b Q σ)
    | none => False
  | .block id c, Q, σ => awp c (fun e s => match e with | .ex i => if i = id then Q .nrm s else Q (.ex i) s | e => Q e s) σ
  | .loop c, Q, σ => ∃ I : Nat → St → Prop, (∃ n τ, Ent σ τ ∧ I n τ) ∧ ∀ n s, I n s → awp c (fun e s' => match e with | .nrm => ∃ n' τ, n' < n ∧ Ent s' τ ∧ I n' τ | e => Q e s') s
  | .exit id, Q, σ => Q (.ex id) σ
  | .ret, Q, σ => Q .ret σ
  | .rangeF x ps asg body, Q, σ => ∃ (g : Nat) (caps : List D) (xs : List (List D)) (f0 : Nat → V) (h0 : Heap) (u0 : Nat → Bool) (I : Nat → Heap → (Nat → Bool) → Prop),
      ev G σ.f x = .w (.c (.d (.fn g caps))) ∧ SeqD P G g caps xs ∧ (∀ r ∈ xs, r.length = ps.length) ∧ Ent σ ⟨f0, h0, u0⟩ ∧ (∀ t ∈ ps ++ asg.writes ++ body.writes, f0 t = .undef) ∧ I 0 h0 u0 ∧
      (∀ k r h u, xs[k]? = some r → I k h u → awp asg (fun e s => match e with
        | .nrm => awp body (fun e s' => match e with
          | .nrm => ∃ h' u', Ent s' ⟨f0, h', u'⟩ ∧ I (k + 1) h' u'
          | e => ∃ h' u', Ent s' ⟨f0, h', u'⟩ ∧ Q e ⟨f0, h', u'⟩) s
        | _ => False) ⟨parsL f0 ps r, h, u⟩) ∧
      ∀ h u, I xs.length h u → Q .nrm ⟨f0, h, u⟩

/-! ### The end -/
/-- A cell as it leaves the function: a row of its own as new memory; else as it is. -/
def exC (h : Heap) : C → C → Prop
  | .own id sz off n, .fr sz' es => off = 0 ∧ sz' = sz ∧ match h id with | some o => obSl o 0 n = some es ∧ (match o with | .row .. => True | .box _ => False) | none => False
  | .nil, .fr _ es => es = []
  | .nil, .d x => x = .sl []
  | .d x, .d y => x = y
  | _, _ => False
def exW (h : Heap) : W → W → Prop
  | .c x, .c y => exC h x y
  | .mix cs, .mix ds => All2 (exC h) cs ds
  | .mix cs, .c (.d (.agg ds)) => allDn cs = some ds
  | _, _ => False
def resW (σ : St) : Nat × Option Kd → Option W
  | (t, none) => asW (σ.f t)
  | (t, some kd) => ldV σ.h kd (σ.f t)
def exV (h : Heap) : List W → V → Prop
  | [x], .w y => exW h x y
  | x :: y :: r, .tup ws => All2 (exW h) (x :: y :: r) ws
  | [], .tup ws => ws = []
  | _, _ => False
/-- .. or all of it as data. -/
def exDs (h : Heap) : List W → V → Prop
  | [x], .w (.c (.d d)) => toW h x = some d
  | x :: y :: r, .tup ws => All2 (fun x z => ∃ d, z = .c (.d d) ∧ toW h x = some d) (x :: y :: r) ws
  | _, _ => False
def RetOk (σ : St) (l : List (Nat × Option Kd)) (res : V) : Prop :=
  ∃ ws, allSome (resW σ) l = some ws ∧ (((ws.flatMap W.ids).Nodup ∧ exV σ.h ws res) ∨ exDs σ.h ws res)
def entry (args : List D) : St := ⟨fun t => match args[t]? with | some x => vd x | none => .undef, fun _ => none, fun _ => false⟩
end
end Go.Proofs.Ytldcgjhfaledfaa
