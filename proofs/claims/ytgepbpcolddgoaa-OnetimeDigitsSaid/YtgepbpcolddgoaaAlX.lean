/- The plain logic (23): a law's frame where the sizes of its parameters count. Own work. -/
import Derived.Test.YtgepbpcolddgoaaAlU
import Derived.SizedLaws
set_option linter.unusedVariables false
set_option linter.unusedSimpArgs false
namespace Go.Proofs.Ytgepbpcolddgoaa
open Go.RowKit Go.ChangeShapes
section
variable {H : Type} {enc : TypeId × Value → H} {P : Program}

/-- No slice among the parameters takes more bytes than the model's reach. -/
def SizedPar (P : Program) (ts : List TypeId) (xs : List D) : Prop :=
  ∀ (j : Nat) (t e : TypeId) (es : List D), ts[j]? = some t → P.underlying t = some (.slice e) → xs[j]? = some (D.sl es) → es.length * P.bytesOf e ≤ reachBytes
theorem trodAll_at {w : World} {base : Nat} {spare : Nat → Bool} {held : Bool} : ∀ {ts : List TypeId} {vs : List Value} {ds : List (DataW H)} {ps : List MemPlace}, DataW.TrodAll enc P w base spare held ts vs ds ps →
    ∀ {j : Nat} {t : TypeId}, ts[j]? = some t → ∃ v d p, vs[j]? = some v ∧ ds[j]? = some d ∧ DataW.Trod enc P w base spare held t v d p
  | [], _, _, _, _, j, t, ht => by simp at ht
  | t0 :: ts, [], ds, _, h, _, _, _ => by cases ds <;> exact h.elim
  | t0 :: ts, _ :: _, [], _, h, _, _, _ => h.elim
  | t0 :: ts, v :: vs, d :: ds, ps, h, j, t, ht => by
    obtain ⟨p, q, a1, a2, _⟩ := h
    cases j with
    | zero =>
      simp only [List.getElem?_cons_zero, Option.some.injEq] at ht
      subst ht
      exact ⟨v, d, p, rfl, rfl, a1⟩
    | succ j => exact trodAll_at a2 ht
theorem all2_at {α β : Type} {R : α → β → Prop} : ∀ {l : List α} {m : List β}, All2 R l m → ∀ {j : Nat} {a : α}, l[j]? = some a → ∃ b, m[j]? = some b ∧ R a b
  | _, _, .nil, j, a, h => by simp at h
  | _, _, .cons (a := x) (b := y) h1 h2, j, a, h => by
    cases j with
    | zero =>
      simp only [List.getElem?_cons_zero, Option.some.injEq] at h
      subst h
      exact ⟨y, rfl, h1⟩
    | succ j => exact all2_at h2 h
theorem pars_sized {w : World} {base : Nat} {spare : Nat → Bool} {held : Bool} {ts vts : List TypeId} {vs : List Value} {ds gs : List (DataW H)} {ps : List MemPlace} {xs : List D}
    (h1 : DataW.TrodAll enc P w base spare held ts vs ds ps) (h2 : All2 (fun v x => RW (fun _ => none) (Old w) w v (.c (.d x))) vs xs)
    (hz : (DataW.weightsEach P (ts ++ vts) (ds ++ gs)).all (· ≤ reachBytes) = true) : SizedPar P ts xs := by
  intro j t e es ht hu hx
  obtain ⟨v, d, p, hv, hd, ⟨fuel, h3⟩⟩ := trodAll_at h1 ht
  obtain ⟨y, hy, hr⟩ := all2_at h2 hv
  rw [hx] at hy
  cases hy
  have hr : Reads (Old w) w v (.sl es) := hr
  have ht' : (ts ++ vts)[j]? = some t := by rw [List.getElem?_append_left (List.getElem?_eq_some_iff.1 ht).1]; exact ht
  have hd' : (ds ++ gs)[j]? = some d := by rw [List.getElem?_append_left (List.getElem?_eq_some_iff.1 hd).1]; exact hd
  rcases hr.row with ⟨rfl, rfl⟩ | ⟨a, cap, sz, rfl, _⟩
  · simp
  · rcases DataW.trod_slice hu h3 with ⟨hc, _⟩ | ⟨a', len, cap', elems, rest, n, _, hc, hx', _, _, _, hl, _⟩
    · have : (Value.slice (some a) es.length cap).cells.toList = [Value.slice (some a) es.length cap] := rfl
      rw [this] at hc
      cases hc
    · have : (Value.slice (some a) es.length cap).cells.toList = [Value.slice (some a) es.length cap] := rfl
      rw [this] at hc
      simp only [List.cons.injEq, and_true, Value.slice.injEq] at hc
      obtain ⟨_, rfl, _⟩ := hc
      cases hx'
      have := sized_slice hz ht' hd' hu
      rw [List.length_map, hl] at this
      refine Nat.le_trans ?_ this
      exact Nat.mul_le_mul_right _ (Nat.le_add_right _ _)
theorem law_calls_s {f : FuncId} {fn : Func} {s : ChangeSpec} {ts : List TypeId} {ss : List ParSh} {tb : TypeId} (hts : fn.params.toList = ts) (hss : allSome (parOf P) ts = some ss) (hvars : s.vars = [])
    (hlay : laidOutB P = true) (hread : ∀ t ∈ ts, P.readableRec t = true ∧ t < P.types.size) (hres : fn.resultTypes = #[tb]) (htb : P.underlying tb = some .bool)
    (hspec : ∀ ds : List (DataW H), ds.length = ts.length → s.fn H ds = { results := [.lit (.bool true)], args := ds }) {G : Glob}
    (den : ∀ xs, All2 HasPar xs ss → SizedPar P ts xs → Den P G f xs (.w (.c (.d (.bool true)))))
    {W : World} {base : Nat} {args : Array Value} {ds gs : List (DataW H)} {before : List MemPlace}
    (hval : ∀ (j : Nat) t v, fn.params[j]? = some t → args[j]? = some v → Value.okWide P W .any base t v) (hW : DataW.Whole enc P fn.params.toList s.vars false W args.toList ds gs before)
    {vts : List TypeId} (hz : (DataW.weightsEach P (fn.params.toList ++ vts) (ds ++ gs)).all (· ≤ reachBytes) = true) (hG : GlobOk G (Old W) W) :
    Calls P f args W fun e W' => ∃ v, e = .returned v ∧ s.post enc P fn false true false false W args v W' := by
  have hW' := hW
  obtain ⟨p, q, hA, hV, rfl, hfz, hnd⟩ := hW
  rw [hts] at hA hz
  obtain ⟨xs, h1, h2⟩ := pars_ok hss (fun j t v ht hv => ⟨base, hval j t v (by rw [← ht, ← hts]; simp) (by rw [← hv]; simp)⟩) hA
  have hd := den xs h2 (pars_sized hA h1 hz) W (Old W) args.toList (fun b i h => h) hG h1
  have hg : gs = [] ∧ q = [] := by
    rw [hvars] at hV
    cases gs with
    | nil => exact ⟨rfl, hV⟩
    | cons _ _ => exact hV.elim
  obtain ⟨rfl, rfl⟩ := hg
  refine hd.mono ?_
  rintro e W' ⟨v, S', bl, rfl, hb, _, _, hr⟩
  have hv : v = .bool true := by
    have : ResC S' W' W.heap.size v (.d (.bool true)) bl := hr
    obtain ⟨a, _⟩ := this
    cases a
    rfl
  subst hv
  refine ⟨_, rfl, ds, [], p ++ [], [], p, [], hW', ?_, ?_, ?_, hb.frame _, fun h => by cases h⟩
  · rw [hres, List.append_nil, hspec ds (trodAll_len hA)]
    exact trodAll_mk1 (shut_bool htb _)
  · rw [hts, List.append_nil, hspec ds (trodAll_len hA)]
    exact trodAll_stays hlay hb hread hA
  · rw [List.append_nil, hspec ds (trodAll_len hA), hvars]
    rfl
end
theorem sized_bytes {P : Program} {ts : List TypeId} {xs : List D} (hz : SizedPar P ts xs) {j : Nat} {t e : TypeId} {l : List UInt8} (ht : ts[j]? = some t) (hu : P.underlying t = some (.slice e)) (hx : xs[j]? = some (.sl (l.map bD))) (hb : P.bytesOf e = 1) : l.length ≤ 140737488351232 := by
  have := hz j t e _ ht hu hx
  rw [hb, List.length_map, Nat.mul_one] at this
  exact this
end Go.Proofs.Ytgepbpcolddgoaa
