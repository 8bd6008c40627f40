/- The plain logic (7): parts, cuts, indexes, loads. Own work. -/
import Derived.Test.YtldcgjhfaledfaaAlF
import Derived.Laws.StructEq
set_option linter.unusedVariables false
set_option linter.unusedSimpArgs false
namespace Go.Proofs.Ytldcgjhfaledfaa
open Go.RowKit

section
variable {P : Program} {G : Glob} {N : Nat} {Sin : Cells} {w0 : Gh} {σ : St} {a : Act} {w : World} {S : Cells} {m : Mp} {o : Oper} {K : St → Prop} {Q : Exit → Act → World → Prop}

theorem aggV_ok {x : V} {v : Value} {cs : List C} (h : RV m S w v x) (e : aggV x = some cs) : ∃ us : List Value, v = .agg us.toArray ∧ All2 (RC m S w) us cs ∧ cs.flatMap C.ids = x.ids := by
  unfold aggV at e
  split at e
  · rename_i y
    unfold aggW at e
    split at e
    · rename_i ds
      cases e
      obtain ⟨us, rfl, h1⟩ := h
      refine ⟨us, rfl, .mk (by simp [h1.length]) fun i g1 g2 => ?_, ?_⟩
      · simp only [List.getElem_map]
        exact h1.get i g1 (by simpa using g2)
      · simp only [V.ids, W.ids, C.ids]
        induction ds with
        | nil => rfl
        | cons c r ih => simp [C.ids]
    · cases e
      obtain ⟨us, rfl, h1⟩ := h
      exact ⟨us, rfl, h1, rfl⟩
    · cases e
  · cases e
theorem eqC_run {k : Nat} {x y : C} {v u : Value} {b : Bool} (hx : RC m S w v x) (hy : RC m S w u y) (e : eqC k x y = some b) {t : TypeId} (hk : eqK P t = some k) (d : Nat) :
    (Op.equalIn (d + 1) t v u).run P w = .ok b w ∧ (isAgg t).run P w = .ok false w := by
  unfold eqK at hk
  unfold eqC at e
  split at e
  · split at e
    · rename_i k1 a k2 c hkk
      subst hkk
      cases e
      cases hx; cases hy
      split at hk <;> cases hk
      rename_i ht
      exact ⟨run_equalIn_int w d t _ _ _ _ ht, by simp [isAgg, run_underlying ht]⟩
    · cases e
  · cases e
    cases hx; cases hy
    split at hk <;> cases hk
    rename_i ht
    exact ⟨run_equalIn_bool' w d t _ _ ht, by simp [isAgg, run_underlying ht]⟩
  · cases e
    cases hx; cases hy
    split at hk <;> cases hk
    rename_i ht
    exact ⟨run_equalIn_string w d t _ _ ht, by simp [isAgg, run_underlying ht]⟩
  · cases e
theorem eqCs_run (d : Nat) : ∀ (fs : List Field) (i : Nat) (ks : List Nat) (xs ys : List C) (us vs : List Value) (b : Bool), eqFs P fs i = some ks → eqCs ks xs ys = some b →
    All2 (RC m S w) (us.drop i) xs → All2 (RC m S w) (vs.drop i) ys → (Op.eqFields (d + 1) us.toArray vs.toArray fs).run P w = .ok b w
  | [], i, ks, xs, ys, us, vs, b, hf, he, h1, h2 => by
    cases hf
    cases xs with
    | nil =>
      cases ys with
      | nil => cases he; rfl
      | cons _ _ => cases he
    | cons _ _ => cases he
  | f :: fs, i, ks, xs, ys, us, vs, b, hf, he, h1, h2 => by
    unfold eqFs at hf
    split at hf
    · rename_i hn
      split at hf
      · rename_i k ks' hk hks
        cases hf
        cases xs with
        | nil => cases ys <;> cases he
        | cons a r =>
          cases ys with
          | nil => cases he
          | cons c s =>
          rw [eqCs_c] at he
          obtain ⟨p, q, hp, hq, rfl⟩ : ∃ p q, eqC k a c = some p ∧ eqCs ks' r s = some q ∧ (p && q) = b := by
            cases hp : eqC k a c with
            | none => rw [hp] at he; cases he
            | some p =>
              cases hq : eqCs ks' r s with
              | none => rw [hp, hq] at he; cases he
              | some q => rw [hp, hq] at he; cases he; exact ⟨p, q, rfl, rfl, rfl⟩
          focus
            obtain ⟨ua, ur, e1, ha, hr⟩ : ∃ ua ur, us.drop i = ua :: ur ∧ RC m S w ua a ∧ All2 (RC m S w) ur r := by
              cases hu : us.drop i with
              | nil => rw [hu] at h1; cases h1
              | cons x y => rw [hu] at h1; cases h1 with | cons q1 q2 => exact ⟨_, _, rfl, q1, q2⟩
            obtain ⟨vc, vs', e2, hc, hs⟩ : ∃ vc vs', vs.drop i = vc :: vs' ∧ RC m S w vc c ∧ All2 (RC m S w) vs' s := by
              cases hu : vs.drop i with
              | nil => rw [hu] at h2; cases h2
              | cons x y => rw [hu] at h2; cases h2 with | cons q1 q2 => exact ⟨_, _, rfl, q1, q2⟩
            have g1 : us[i]? = some ua := by rw [← List.head?_drop, e1]; rfl
            have g2 : vs[i]? = some vc := by rw [← List.head?_drop, e2]; rfl
            have d1 : us.drop (i + 1) = ur := by rw [← List.tail_drop, e1]; rfl
            have d2 : vs.drop (i + 1) = vs' := by rw [← List.tail_drop, e2]; rfl
            obtain ⟨r1, r2⟩ := eqC_run ha hc hp hk d
            have ih := eqCs_run d fs (i + 1) ks' r s us vs q hks hq (by rw [d1]; exact hr) (by rw [d2]; exact hs)
            have p1 : (part f.type us.toArray f.offset).run P w = .ok ua w := by
              rw [hn.2]; simp [part, r2, g1]
            have p2 : (part f.type vs.toArray f.offset).run P w = .ok vc w := by
              rw [hn.2]; simp [part, r2, g2]
            unfold Op.eqFields
            rw [if_pos hn.1]
            simp only [Sem.run_bind, p1, p2, r1, Result.andThen_ok]
            cases p
            · simp
            · simpa using ih
      · cases hf
    · cases hf
theorem snd_eqA (neg : Bool) (op : BinOp) (hop : op = if neg then .neq else .eql) (t t' : TypeId) {ks : List Nat} (ht : eqTy P t = some ks) (x y : Operand) (x' y' : SX) (ho : o.op = .binOp op t x y t') (hx : compX x = some x') (hy : compX y = some y') (h : Inv G N Sin w0 σ a w S m) (hd : ∀ t, o.dst = some t → t < N ∧ w0.fx t = none)
    {d : D} (hb : eqV neg ks (ev G σ.f x') (ev G σ.f y') = some d) (hK : K (σ.put o.dst (vd d, σ.h, σ.u))) : o.wp P a w (Nx G N Sin w0 K) Q := by
  have h1 := (h.operand hx).1
  have h2 := (h.operand hy).1
  obtain ⟨cs, ds, b, e1, e2, hbb, rfl⟩ := eqV_ok hb
  · obtain ⟨us, g1, q1, _⟩ := aggV_ok h1 e1
    obtain ⟨vs, g2, q2, _⟩ := aggV_ok h2 e2
    unfold eqTy at ht
    split at ht
    · rename_i fs hu
      split at ht
      · rename_i hg
        have hfo : P.fieldsOf t = fs := by unfold Program.fieldsOf; rw [hu]
        have key := run_equalIn_agg (P := P) w 9999 t us.toArray vs.toArray (by rw [hfo]; exact hu) hg.1
        rw [hfo, eqCs_run 9998 fs.toList 0 ks cs ds us vs b ht hbb (by simpa using q1) (by simpa using q2)] at key
        refine finD h hd ?_ (.bool _) hK
        simp only [execOp, ho, g1, g2]
        have hguard : ∀ op, (eqGuard op t x y (.agg us.toArray) (.agg vs.toArray)).run P w = .ok () w := fun op => run_eqGuard_agg (P := P) w op t x y us.toArray vs.toArray hg.2
        subst hop
        cases neg
        · have k1 := run_eql_struct (P := P) w t us.toArray vs.toArray
          rw [key] at k1
          simp [hguard .eql, k1]
        · have k1 := run_neq_struct (P := P) w t us.toArray vs.toArray
          rw [key] at k1
          simp [hguard .neq, k1]
      · cases ht
    · cases ht
theorem idx_ok (h : Inv G N Sin w0 σ a w S m) {i : Operand} {i' : SX} (hi : compX i = some i') {n j : Nat} (e : idx (ev G σ.f) i' n = some j) : ∃ k, a.eval i = .int k (j : Int) ∧ j < n := by
  unfold idx at e
  split at e
  · rename_i k q hq
    split at e
    · rename_i hb
      cases e
      have := asI_ok (h.operand hi).1 hq
      exact ⟨k, by rw [this]; congr 1; omega, by omega⟩
    · cases e
  · cases e
def Bd (v : Option Value) (d l : Nat) : Prop := (v = none ∧ l = d) ∨ ∃ k, v = some (.int k (l : Int))
theorem bound_ok (h : Inv G N Sin w0 σ a w S m) {x : Option Operand} {x' : Option SX} (hx : compXo x = some x') {d l : Nat} (e : bound (ev G σ.f) x' d = some l) : Bd (x.map a.eval) d l ∧ (x'.isSome = x.isSome) := by
  cases x with
  | none =>
    cases hx
    simp only [bound, Option.some.injEq] at e
    exact ⟨.inl ⟨rfl, e.symm⟩, rfl⟩
  | some y =>
    simp only [compXo, Option.map_eq_some_iff] at hx
    obtain ⟨z, hz, rfl⟩ := hx
    simp only [bound] at e
    split at e
    · rename_i k q hq
      split at e
      · rename_i h0
        cases e
        have := asI_ok (h.operand hz).1 hq
        exact ⟨.inr ⟨k, by rw [Option.map_some, this]; congr 2; omega⟩, rfl⟩
      · cases e
    · cases e
theorem run_bounds {isSlice : Bool} {len cap l k q : Nat} {lo hi mx : Option Value} (h1 : Bd lo 0 l) (h2 : Bd hi len k) (h3 : Bd mx cap q) (h4 : mx.isSome = true → hi.isSome = true) (e1 : l ≤ k) (e2 : k ≤ q) (e3 : q ≤ cap) :
    (Instr.sliceBounds isSlice len cap lo hi mx).run P w = .ok (l, k, q) w := by
  have b : ∀ (x y : Nat) (t : IntKind) (c : BoundsCode), x ≤ y → (Instr.sliceBound (.int t (x : Int)) y c).run P w = .ok x w := fun x y t c hxy => by
    have := run_sliceBound (P := P) w t (x : Int) y c (by omega) (by omega)
    simpa using this
  rcases h1 with ⟨rfl, rfl⟩ | ⟨t1, rfl⟩ <;> rcases h2 with ⟨rfl, rfl⟩ | ⟨t2, rfl⟩ <;> rcases h3 with ⟨rfl, rfl⟩ | ⟨t3, rfl⟩ <;>
    first
      | (simp at h4; done)
      | (simp [Instr.sliceBounds, b _ _ _ _ e1, b _ _ _ _ e2, b _ _ _ _ e3]; done)
      | (simp [Instr.sliceBounds, b _ _ _ _ e1, b _ _ _ _ e2]; done)
      | (simp [Instr.sliceBounds, b _ _ _ _ e1]; done)
      | (simp [Instr.sliceBounds, b _ _ _ _ e2, b _ _ _ _ e3]; done)
      | (simp [Instr.sliceBounds, b _ _ _ _ e2]; done)
      | (simp [Instr.sliceBounds]; done)

theorem snd_field (t : TypeId) (x : Operand) (x' : SX) (f : Nat) (ho : o.op = .field t x f) (hx : compX x = some x') {fs : Array Field} (ht : P.underlying t = some (.struct fs)) {fd : Field} (hf : fs[f]? = some fd) {kd : Kd} (hk : tyKd P fd.type = some kd)
    (h : Inv G N Sin w0 σ a w S m) (hd : ∀ t, o.dst = some t → t < N ∧ w0.fx t = none) {cs : List C} (hc : aggV (ev G σ.f x') = some cs) {y : W} (hy : prt cs fd.offset kd = some y) (hK : K (σ.put o.dst (.w y, σ.h, σ.u))) : o.wp P a w (Nx G N Sin w0 K) Q := by
  have h1 := h.operand hx
  obtain ⟨us, e1, h2, h3⟩ := aggV_ok h1.1 hc
  obtain ⟨v, hr, hv, hi⟩ := prt_ok (P := P) h2 hy hk
  refine fin0 h hd (x := .w y) ?_ hv (fun j hj => h1.2 j (h3 ▸ hi j hj)) hK
  simp only [execOp, ho, e1]
  refine run_v ?_
  simp [Instr.field, run_underlying ht, hf, asAgg, hr]
/-- An element's type. -/
theorem elTy_ok {e : TypeId} {s b : Nat} {z : D} (h : elTy P e = some (s, b, z)) : ∃ i zv, P.info? e = some i ∧ i.size = s ∧ i.bytes = b ∧ i.zero = some zv ∧ 0 < s ∧ z.cells.length = s ∧ (∀ S w, All2 (Reads S w) zv.cells.toList z.cells) := by
  unfold elTy at h
  split at h
  · rename_i i hk hi
    split at h
    · rename_i zv hz
      simp only [Option.map_eq_some_iff, Prod.mk.injEq] at h
      obtain ⟨d, hd, rfl, rfl, h3⟩ := h
      subst h3
      have hone : d.cells = [d] := (constD_ok (S := fun _ _ => False) (w := default) hd).cellsOf
      refine ⟨i, zv, hi, ?_, rfl, hz, by omega, by rw [hone]; rfl, fun S w => ?_⟩
      · unfold tyKd at hk
        rw [hi] at hk
        split at hk
        · cases hk
        · cases hk
        · rename_i e1 _; cases e1; split at hk
          · assumption
          · cases hk
        · cases hk
      · rw [hone]
        have : zv.cells = #[zv] := by
          unfold constD at hd
          split at hd <;> first | rfl | cases hd
        rw [this]
        exact .cons (constD_ok hd) .nil
    · cases h
  · rename_i n i hk hi
    split at h
    · rename_i zv hz
      split at h
      · rename_i ds hds
        split at h
        · rename_i hn
          simp only [Option.some.injEq, Prod.mk.injEq] at h
          obtain ⟨rfl, rfl, rfl⟩ := h
          refine ⟨i, zv, hi, ?_, rfl, hz, hn.1, hn.2, fun S w => allSome_ok (fun _ _ => constD_ok) hds⟩
          unfold tyKd at hk
          rw [hi] at hk
          split at hk
          · rename_i e1 _; cases e1; cases hk; rfl
          · rename_i e1 _; cases e1; cases hk; rfl
          · split at hk <;> cases hk
          · cases hk
        · cases h
      · cases h
    · cases h
  · cases h
theorem slTy_ok {t e : TypeId} {s b : Nat} {z : D} (h : slTy P t = some (e, s, b, z)) : P.underlying t = some (.slice e) ∧ elTy P e = some (s, b, z) := by
  unfold slTy at h
  split at h
  · rename_i e' he
    simp only [Option.map_eq_some_iff, Prod.mk.injEq] at h
    obtain ⟨⟨s', b', z'⟩, h1, rfl, rfl, rfl, rfl⟩ := h
    exact ⟨he, h1⟩
  · cases h
theorem run_sizeOf_el {e : TypeId} {s b : Nat} {z : D} (h : elTy P e = some (s, b, z)) : (sizeOf e).run P w = .ok s w := by
  obtain ⟨i, _, h1, h2, _⟩ := elTy_ok h
  simp [sizeOf, typeInfo, h1, h2]

theorem snd_idxArr (t e : TypeId) (n : Nat) (ht : P.underlying t = some (.array n e)) {s b : Nat} {z : D} (he : elTy P e = some (s, b, z)) {kd : Kd} (hk : tyKd P e = some kd) (x i : Operand) (x' i' : SX) (ho : o.op = .index t x i) (hx : compX x = some x') (hi : compX i = some i')
    (h : Inv G N Sin w0 σ a w S m) (hd : ∀ t, o.dst = some t → t < N ∧ w0.fx t = none) {cs : List C} (hc : aggV (ev G σ.f x') = some cs) {j : Nat} (hj : idx (ev G σ.f) i' n = some j) {y : W} (hy : prt cs (j * s) kd = some y) (hK : K (σ.put o.dst (.w y, σ.h, σ.u))) : o.wp P a w (Nx G N Sin w0 K) Q := by
  have h1 := h.operand hx
  obtain ⟨us, e1, h2, h3⟩ := aggV_ok h1.1 hc
  obtain ⟨k, e2, hlt⟩ := idx_ok h hi hj
  obtain ⟨v, hr, hv, hids⟩ := prt_ok (P := P) h2 hy hk
  refine fin0 h hd (x := .w y) ?_ hv (fun j hj => h1.2 j (h3 ▸ hids j hj)) hK
  simp only [execOp, ho, e1, e2]
  refine run_v ?_
  have h0 : (0 : Int) ≤ (j : Int) ∧ (j : Int) < (n : Int) := by omega
  simp [Instr.index, run_underlying ht, asIntOf, hlt, run_sizeOf_el he, hr]
theorem snd_idxStr (t : TypeId) (ht : P.underlying t = some .string) (x i : Operand) (x' i' : SX) (ho : o.op = .index t x i) (hx : compX x = some x') (hi : compX i = some i')
    (h : Inv G N Sin w0 σ a w S m) (hd : ∀ t, o.dst = some t → t < N ∧ w0.fx t = none) {s : ByteArray} (hs : ev G σ.f x' = .w (.c (.d (.str s)))) {j : Nat} (hj : idx (ev G σ.f) i' s.size = some j) {b : UInt8} (hb : s.data.toList[j]? = some b) (hK : K (σ.put o.dst (vd (bD b), σ.h, σ.u))) : o.wp P a w (Nx G N Sin w0 K) Q := by
  have h1 := (h.operand hx).1
  rw [hs] at h1
  obtain ⟨k, e2, hlt⟩ := idx_ok h hi hj
  refine finD h hd (v := .int .u8 (b.toNat : Int)) ?_ (.int _ _) hK
  simp only [execOp, ho, rv_str h1, e2]
  refine run_v ?_
  rw [run_index_string w t s k j ht, dif_pos (by omega)]
  have hb' : s[(j : Int).toNat]'(by omega) = b := by
    obtain ⟨g1, g2⟩ := List.getElem?_eq_some_iff.1 hb
    rw [← g2]
    simp only [Int.toNat_natCast]
    rfl
  rw [hb']
theorem snd_sliceStr (t : TypeId) (ht : P.underlying t = some .string) (x : Operand) (lo hi : Option Operand) (x' : SX) (lo' hi' : Option SX) (ho : o.op = .slice t x lo hi none) (hx : compX x = some x') (hlo : compXo lo = some lo') (hhi : compXo hi = some hi')
    (h : Inv G N Sin w0 σ a w S m) (hd : ∀ t, o.dst = some t → t < N ∧ w0.fx t = none) {s : ByteArray} (hs : ev G σ.f x' = .w (.c (.d (.str s)))) {l k : Nat} (hl : bound (ev G σ.f) lo' 0 = some l) (hk : bound (ev G σ.f) hi' s.size = some k) (h1 : l ≤ k) (h2 : k ≤ s.size)
    (hK : K (σ.put o.dst (vd (.str (s.extract l k)), σ.h, σ.u))) : o.wp P a w (Nx G N Sin w0 K) Q := by
  have hv := (h.operand hx).1
  rw [hs] at hv
  refine finD h hd (v := .string (s.extract l k)) ?_ (.str _) hK
  simp only [execOp, ho, rv_str hv]
  refine run_v ?_
  rw [run_sliceAt_string w t _ _ _ _ ht]
  have := run_bounds (P := P) (w := w) (isSlice := false) (bound_ok h hlo hl).1 (bound_ok h hhi hk).1 (show Bd (none : Option Value) s.size s.size from .inl ⟨rfl, rfl⟩) (fun h => by cases h) h1 h2 (Nat.le_refl _)
  simp [Instr.slice, run_underlying ht, this]
theorem snd_lenArr (t : TypeId) (n : Nat) (e : TypeId) (ht : P.underlying t = some (.array n e)) (x : Operand) (c : Call) (ho : o.op = .call c) (hc : c.callee = .builtin .len) (hts : c.argTypes.toList = [t]) (hargs : c.args.toList = [x])
    (h : Inv G N Sin w0 σ a w S m) (hd : ∀ t, o.dst = some t → t < N ∧ w0.fx t = none) (hK : K (σ.put o.dst (vd (.int .i64 n), σ.h, σ.u))) : o.wp P a w (Nx G N Sin w0 K) Q := by
  have e1 : c.argTypes = #[t] := by apply Array.ext'; simpa using hts
  have e2 : c.args = #[x] := by apply Array.ext'; simpa using hargs
  refine finD h hd (v := .int .i64 n) ?_ (.int _ _) hK
  simp only [execOp, ho, resolve, hc, invoke, builtin, e1, e2]
  simp [Builtin.len_, run_underlying ht, goInt]
theorem snd_lenStr (t : TypeId) (ht : P.underlying t = some .string) (x : Operand) (x' : SX) (c : Call) (ho : o.op = .call c) (hc : c.callee = .builtin .len) (hts : c.argTypes.toList = [t]) (hargs : c.args.toList = [x]) (hx : compX x = some x')
    (h : Inv G N Sin w0 σ a w S m) (hd : ∀ t, o.dst = some t → t < N ∧ w0.fx t = none) {s : ByteArray} (hs : ev G σ.f x' = .w (.c (.d (.str s)))) (hK : K (σ.put o.dst (vd (.int .i64 s.size), σ.h, σ.u))) : o.wp P a w (Nx G N Sin w0 K) Q := by
  have e1 : c.argTypes = #[t] := by apply Array.ext'; simpa using hts
  have e2 : c.args = #[x] := by apply Array.ext'; simpa using hargs
  have hv := (h.operand hx).1
  rw [hs] at hv
  refine finD h hd (v := .int .i64 s.size) ?_ (.int _ _) hK
  simp only [execOp, ho, resolve, hc, invoke, builtin, e1, e2]
  simp [Builtin.len_, run_underlying ht, goInt, rv_str hv]
theorem lenV_ok {x : V} {v : Value} {n : Nat} (h : RV m S w v x) (hn : lenV' x = some n) : ∃ ad cap, v = .slice ad n cap := by
  unfold lenV' at hn
  split at hn
  · cases hn
    rcases Reads.row h with ⟨h1, rfl⟩ | ⟨ad, cap, sz, h1, _⟩
    · exact ⟨none, 0, h1⟩
    · exact ⟨some ad, cap, h1⟩
  · cases hn
    obtain ⟨ad, h⟩ := h
    exact ⟨ad, 0, h⟩
  · rename_i id sz off n'
    cases hn
    have hv' : OwnV m w v id sz off n := h
    unfold OwnV at hv'
    split at hv'
    · obtain ⟨⟨ad, h1⟩, _, rfl⟩ := hv'; exact ⟨ad, 0, h1⟩
    · obtain ⟨_, ad, cap, _, _, h1, _⟩ := hv'; exact ⟨some ad, cap, h1⟩
  · cases hn
theorem snd_len (t e : TypeId) (ht : P.underlying t = some (.slice e)) (x : Operand) (x' : SX) (c : Call) (ho : o.op = .call c) (hc : c.callee = .builtin .len) (hts : c.argTypes.toList = [t]) (hargs : c.args.toList = [x]) (hx : compX x = some x')
    (h : Inv G N Sin w0 σ a w S m) (hd : ∀ t, o.dst = some t → t < N ∧ w0.fx t = none) {n : Nat} (hn : lenV' (ev G σ.f x') = some n) (hK : K (σ.put o.dst (vd (.int .i64 n), σ.h, σ.u))) : o.wp P a w (Nx G N Sin w0 K) Q := by
  have e1 : c.argTypes = #[t] := by apply Array.ext'; simpa using hts
  have e2 : c.args = #[x] := by apply Array.ext'; simpa using hargs
  obtain ⟨ad, cap, hval⟩ := lenV_ok (h.operand hx).1 hn
  refine finD h hd (v := .int .i64 n) ?_ (.int _ _) hK
  simp only [execOp, ho, resolve, hc, invoke, builtin, e1, e2]
  simp [Builtin.len_, run_underlying ht, goInt, hval]
end
end Go.Proofs.Ytldcgjhfaledfaa
