/- The plain logic (8): addresses, cuts of slices, loads. Own work. -/
import Derived.Test.YtldcgjhfaledfaaAlG
set_option linter.unusedVariables false
set_option linter.unusedSimpArgs false
namespace Go.Proofs.Ytldcgjhfaledfaa
open Go.RowKit

section
variable {P : Program} {G : Glob} {N : Nat} {Sin : Cells} {w0 : Gh} {σ : St} {a : Act} {w : World} {S : Cells} {m : Mp} {o : Oper} {K : St → Prop} {Q : Exit → Act → World → Prop}

theorem add_none (b o n : Nat) : (⟨b, o, none⟩ : Addr).add n = ⟨b, o + n, none⟩ := by
  unfold Addr.add; split <;> simp_all
/-- Cells from a later place on. -/
theorem CellsAt.from {ad : Addr} {cs : List D} (h : CellsAt S w ad cs) (n : Nat) : CellsAt S w (ad.add n) (cs.drop n) := by
  intro j hj
  rw [List.length_drop] at hj
  obtain ⟨v, h1, h2, h3⟩ := h (n + j) (by omega)
  have hs := cell_spot h2
  obtain ⟨b, off, sp⟩ := ad
  simp only at hs
  subst hs
  rw [add_none]
  simp only [Nat.add_assoc]
  exact ⟨v, h1, h2, by rw [List.getElem_drop]; exact h3⟩
theorem CellsAt.take {ad : Addr} {cs : List D} (h : CellsAt S w ad cs) (n : Nat) : CellsAt S w ad (cs.take n) := by
  intro j hj
  rw [List.length_take] at hj
  obtain ⟨v, h1, h2, h3⟩ := h j (by omega)
  exact ⟨v, h1, h2, by rw [List.getElem_take]; exact h3⟩
theorem RowAt.from {ad : Addr} {sz : Nat} {es : List D} (h : RowAt S w ad sz es) (hsz : 0 < sz) (n : Nat) : RowAt S w (ad.add (n * sz)) sz (es.drop n) := by
  intro i hi
  rw [List.length_drop] at hi
  obtain ⟨h1, h2⟩ := h (n + i) (by omega)
  obtain ⟨v, _, hc, _⟩ := h2 0 (by omega)
  have hs := cell_spot hc
  obtain ⟨b, off, sp⟩ := ad
  simp only at hs
  subst hs
  rw [add_none]
  simp only [List.getElem_drop]
  refine ⟨h1, ?_⟩
  have e : off + n * sz + i * sz = off + (n + i) * sz := by rw [Nat.add_mul, Nat.add_assoc]
  simp only [e]
  exact h2
theorem RowAt.take {ad : Addr} {sz : Nat} {es : List D} (h : RowAt S w ad sz es) (n : Nat) : RowAt S w ad sz (es.take n) := by
  intro i hi
  rw [List.length_take] at hi
  rw [List.getElem_take]
  exact h i (by omega)
theorem allSz_ok {sz : Nat} {es : List D} (h : allSz sz es = true) : ∀ e ∈ es, e.cells.length = sz := by
  unfold allSz at h
  rw [List.all_eq_true] at h
  intro e he
  simpa using h e he
theorem RowAt.size {ad : Addr} {sz sz' : Nat} {es : List D} (h : RowAt S w ad sz es) (k : ∀ e ∈ es, e.cells.length = sz') : RowAt S w ad sz' es := by
  intro i hi
  obtain ⟨h1, h2⟩ := h i hi
  have := k es[i] (List.getElem_mem hi)
  obtain rfl : sz = sz' := by omega
  exact ⟨h1, h2⟩

theorem snd_fieldAddr (t : TypeId) (x : Operand) (x' : SX) (f : Nat) (ho : o.op = .fieldAddr t x f) (hx : compX x = some x') {fs : Array Field} (ht : P.underlying t = some (.struct fs)) {fd : Field} (hf : fs[f]? = some fd) {i : TypeInfo} (hi : P.info? fd.type = some i) (hsz : i.size ≠ 0)
    (h : Inv G N Sin w0 σ a w S m) (hd : ∀ t, o.dst = some t → t < N ∧ w0.fx t = none) {c : C} (hc : fdV fd.offset (ev G σ.f x') = some c) (hK : K (σ.put o.dst (.w (.c c), σ.h, σ.u))) : o.wp P a w (Nx G N Sin w0 K) Q := by
  have h1 := h.operand hx
  have run : ∀ ad : Addr, a.eval x = .pointer (some ad) → (execOp a.eval o).run P w = .ok (.value (.pointer (some (ad.add fd.offset)))) w := fun ad e => by
    simp only [execOp, ho, e]
    refine run_v ?_
    simp [Instr.fieldAt, run_underlying ht, hf, Instr.sureAddr, fieldPlace, sizeOf, typeInfo, hi, hsz]
  unfold fdV at hc
  split at hc
  · rename_i id sz q off e
    cases hc
    rw [e] at h1
    obtain ⟨⟨b, hm, hv⟩, hids⟩ := h1
    refine fin0 h hd (run _ hv) (x := .w (.c (.ptr id sz q (off + fd.offset)))) ⟨b, hm, ?_⟩ hids hK
    rw [add_none, Nat.add_assoc]
  · rename_i cs e
    cases hc
    rw [e] at h1
    obtain ⟨⟨ad, hv, hcs⟩, _⟩ := h1
    exact fin0 h hd (run _ hv) (x := .w (.c (.rp (cs.drop fd.offset)))) ⟨_, rfl, hcs.from _⟩ (fun i hi => by cases hi) hK
  · cases hc
theorem run_indexSl {t e : TypeId} {s b : Nat} {z : D} (ht : slTy P t = some (e, s, b, z)) (ad : Addr) (n cap : Nat) (k : IntKind) (j : Nat) (hj : j < n) :
    (Instr.indexAt t (.slice (some ad) n cap) (.int k (j : Int))).run P w = .ok (.pointer (some (ad.add (j * s)))) w := by
  obtain ⟨hu, he⟩ := slTy_ok ht
  simp [Instr.indexAt, run_underlying hu, asIntOf, hj, run_sizeOf_el he]
theorem snd_idxSl (t e : TypeId) {s b : Nat} {z : D} (ht : slTy P t = some (e, s, b, z)) (x i : Operand) (x' i' : SX) (ho : o.op = .indexAddr t x i) (hx : compX x = some x') (hi : compX i = some i')
    (h : Inv G N Sin w0 σ a w S m) (hd : ∀ t, o.dst = some t → t < N ∧ w0.fx t = none) {r : R} (hr : ef (ev G σ.f) σ.h σ.u (o.dst.getD 0) (.idxSl s x' i') = some r) (hK : K (σ.put o.dst r)) : o.wp P a w (Nx G N Sin w0 K) Q := by
  have h1 := h.operand hx
  have hpos : 0 < s := by obtain ⟨_, _, _, _, _, _, h5, _⟩ := elTy_ok (slTy_ok ht).2; exact h5
  simp only [ef] at hr
  split at hr
  · rename_i es e1
    split at hr
    · rename_i j hj
      obtain ⟨k, e2, hlt⟩ := idx_ok h hi hj
      split at hr
      · rename_i el hel
        split at hr
        · rename_i hsz
          cases hr
          rw [e1] at h1
          rcases Reads.row h1.1 with ⟨_, rfl⟩ | ⟨ad, cap, sz', hv, hcap, hmax, hrow⟩
          · simp at hlt
          · obtain ⟨hlt', rfl⟩ := List.getElem?_eq_some_iff.1 hel
            obtain ⟨g1, g2⟩ := hrow j hlt
            obtain rfl : sz' = s := by omega
            obtain ⟨v, _, hc, _⟩ := g2 0 (by omega)
            have hs := cell_spot hc
            obtain ⟨bb, off, sp⟩ := ad
            simp only at hs
            subst hs
            refine fin0 h hd (v := .pointer (some ⟨bb, off + j * sz', none⟩)) ?_ (x := .w (.c (.rp es[j].cells))) ⟨_, rfl, g2⟩ (fun i hi => by cases hi) hK
            simp only [execOp, ho, hv, e2]
            refine run_v ?_
            rw [run_indexSl ht _ _ _ _ _ hlt, add_none]
        · cases hr
      · cases hr
    · cases hr
  · rename_i id sz' off n e1
    split at hr
    · rename_i j hj
      obtain ⟨k, e2, hlt⟩ := idx_ok h hi hj
      split at hr
      · rename_i hs
        subst hs
        cases hr
        rw [e1] at h1
        obtain ⟨hv, hids⟩ := h1
        have hv' : OwnV m w (a.eval x) id sz' off n := hv
        unfold OwnV at hv'
        split at hv'
        · omega
        · rename_i bb sz2 hm
          obtain ⟨rfl, ad, cap, ty, M, g1, g2, g3, g4, g5, g6⟩ := hv'
          have hids' : ∀ i ∈ (V.w (.c (.ptr id sz2 (off + j) 0))).ids, σ.u i = true := hids
          refine fin0 h hd (v := .pointer (some ⟨bb, (off + j) * sz2 + 0, none⟩)) ?_ (x := .w (.c (.ptr id sz2 (off + j) 0))) ⟨bb, hm, rfl⟩ hids' hK
          simp only [execOp, ho, g1, e2]
          refine run_v ?_
          rw [run_indexSl ht _ _ _ _ _ hlt, g4 (by omega), add_none, Nat.add_mul]
          rfl
      · cases hr
    · cases hr
  · cases hr
theorem run_indexArr {t e : TypeId} {n : Nat} (hu : P.underlying t = some (.array n e)) {s b : Nat} {z : D} (he : elTy P e = some (s, b, z)) (ad : Addr) (k : IntKind) (j : Nat) (hj : j < n) :
    (Instr.indexAt t (.pointer (some ad)) (.int k (j : Int))).run P w = .ok (.pointer (some (ad.add (j * s)))) w := by
  simp [Instr.indexAt, run_underlying hu, asIntOf, hj, run_sizeOf_el he, Instr.sureAddr]
theorem snd_idxPa (t e : TypeId) (n : Nat) (hu : P.underlying t = some (.array n e)) {s b : Nat} {z : D} (he : elTy P e = some (s, b, z)) (x i : Operand) (x' i' : SX) (ho : o.op = .indexAddr t x i) (hx : compX x = some x') (hi : compX i = some i')
    (h : Inv G N Sin w0 σ a w S m) (hd : ∀ t, o.dst = some t → t < N ∧ w0.fx t = none) {r : R} (hr : ef (ev G σ.f) σ.h σ.u (o.dst.getD 0) (.idxPa s n x' i') = some r) (hK : K (σ.put o.dst r)) : o.wp P a w (Nx G N Sin w0 K) Q := by
  have h1 := h.operand hx
  have hpos : 0 < s := by obtain ⟨_, _, _, _, _, _, h5, _⟩ := elTy_ok he; exact h5
  simp only [ef] at hr
  split at hr
  · cases hr
  · rename_i j hj
    obtain ⟨k, e2, hlt⟩ := idx_ok h hi hj
    have run : ∀ ad : Addr, a.eval x = .pointer (some ad) → (execOp a.eval o).run P w = .ok (.value (.pointer (some (ad.add (j * s))))) w := fun ad e => by
      simp only [execOp, ho, e, e2]
      exact run_v (run_indexArr hu he ad k j hlt)
    split at hr
    · rename_i id sz' e1
      split at hr
      · rename_i hs
        subst hs
        cases hr
        rw [e1] at h1
        obtain ⟨⟨bb, hm, hv⟩, hids⟩ := h1
        have hids' : ∀ i ∈ (V.w (.c (.ptr id sz' j 0))).ids, σ.u i = true := hids
        refine fin0 h hd (run _ hv) (x := .w (.c (.ptr id sz' j 0))) ⟨bb, hm, ?_⟩ hids' hK
        rw [add_none]
        simp
      · cases hr
    · rename_i es e1
      split at hr
      · rename_i el hel
        split at hr
        · rename_i hsz
          cases hr
          rw [e1] at h1
          obtain ⟨⟨ad, sz', hv, hrow⟩, _⟩ := h1
          obtain ⟨hlt', rfl⟩ := List.getElem?_eq_some_iff.1 hel
          obtain ⟨g1, g2⟩ := hrow j hlt'
          obtain rfl : sz' = s := by omega
          obtain ⟨v, _, hc, _⟩ := g2 0 (by omega)
          have hs := cell_spot hc
          obtain ⟨bb, off, sp⟩ := ad
          simp only at hs
          subst hs
          have := run _ hv
          rw [add_none] at this
          exact fin0 h hd this (x := .w (.c (.rp es[j].cells))) ⟨_, rfl, g2⟩ (fun i hi => by cases hi) hK
        · cases hr
      · cases hr
    · rename_i id sz' q off e1
      cases hr
      rw [e1] at h1
      obtain ⟨⟨bb, hm, hv⟩, hids⟩ := h1
      have hids' : ∀ i ∈ (V.w (.c (.ptr id sz' q (off + j * s)))).ids, σ.u i = true := hids
      refine fin0 h hd (run _ hv) (x := .w (.c (.ptr id sz' q (off + j * s)))) ⟨bb, hm, ?_⟩ hids' hK
      rw [add_none, Nat.add_assoc]
    · rename_i cs e1
      cases hr
      rw [e1] at h1
      obtain ⟨⟨ad, hv, hcs⟩, _⟩ := h1
      exact fin0 h hd (run _ hv) (x := .w (.c (.rp ((cs.drop (j * s)).take s)))) ⟨_, rfl, (hcs.from _).take _⟩ (fun i hi => by cases hi) hK
    · cases hr

theorem run_sliceSl {t e : TypeId} {s b : Nat} {z : D} (ht : slTy P t = some (e, s, b, z)) (ad : Option Addr) (n cap : Nat) {lo hi mx : Option Value} {l k q : Nat} (h1 : Bd lo 0 l) (h2 : Bd hi n k) (h3 : Bd mx cap q) (h4 : mx.isSome = true → hi.isSome = true) (e1 : l ≤ k) (e2 : k ≤ q) (e3 : q ≤ cap) :
    (Instr.sliceAt t (.slice ad n cap) lo hi mx).run P w = .ok (.slice (if q = l then ad else ad.map (·.add (l * s))) (k - l) (q - l)) w := by
  obtain ⟨hu, he⟩ := slTy_ok ht
  have hb := run_bounds (P := P) (w := w) (isSlice := true) h1 h2 h3 h4 e1 e2 e3
  have := run_sizeOf_el (w := w) he
  simp [Instr.sliceAt, Instr.slice, run_underlying hu, hb, this]
theorem snd_slice (t e : TypeId) {s b : Nat} {z : D} (ht : slTy P t = some (e, s, b, z)) (x : Operand) (lo hi mx : Option Operand) (x' : SX) (lo' hi' mx' : Option SX) (ho : o.op = .slice t x lo hi mx) (hx : compX x = some x') (hlo : compXo lo = some lo') (hhi : compXo hi = some hi') (hmx : compXo mx = some mx') (hmh : (mx'.isSome && hi'.isNone) = false)
    (h : Inv G N Sin w0 σ a w S m) (hd : ∀ t, o.dst = some t → t < N ∧ w0.fx t = none) {r : R} (hr : ef (ev G σ.f) σ.h σ.u (o.dst.getD 0) (.slice s x' lo' hi' mx') = some r) (hK : K (σ.put o.dst r)) : o.wp P a w (Nx G N Sin w0 K) Q := by
  have hv := h.operand hx
  have hpos : 0 < s := by obtain ⟨_, _, _, _, _, _, h5, _⟩ := elTy_ok (slTy_ok ht).2; exact h5
  simp only [ef] at hr
  split at hr
  · cases hr
  · rename_i n hn
    obtain ⟨ad, cap, hval⟩ := lenV_ok hv.1 hn
    split at hr
    · rename_i l k hl hk
      split at hr
      · rename_i q hq
        split at hr
        · rename_i hle
          simp only [Option.map_eq_some_iff] at hr
          obtain ⟨c, hc, rfl⟩ := hr
          have b1 := bound_ok h hlo hl
          have b2 := bound_ok h hhi hk
          have b3 := bound_ok h hmx hq
          -- the third bound, as the memory has it
          have run : n ≤ cap → l ≤ k → ∃ q', k ≤ q' ∧ q' ≤ cap ∧ (execOp a.eval o).run P w = .ok (.value (.slice (if q' = l then ad else ad.map (·.add (l * s))) (k - l) (q' - l))) w := by
            intro hnc hlk
            have hmi : (mx.map a.eval).isSome = true → (hi.map a.eval).isSome = true := by
              rw [Option.isSome_map, Option.isSome_map, ← b3.2, ← b2.2]
              intro g
              rw [g] at hmh
              cases hi' with
              | none => simp at hmh
              | some _ => rfl
            by_cases hm0 : (mx.map a.eval) = none
            · refine ⟨cap, by omega, Nat.le_refl _, ?_⟩
              simp only [execOp, ho, hval]
              exact run_v (run_sliceSl ht ad n cap b1.1 b2.1 (.inl ⟨hm0, rfl⟩) hmi hlk (by omega) (Nat.le_refl _))
            · refine ⟨q, hle.1, by omega, ?_⟩
              simp only [execOp, ho, hval]
              refine run_v (run_sliceSl ht ad n cap b1.1 b2.1 ?_ hmi hlk hle.1 (by omega))
              rcases b3.1 with ⟨g, _⟩ | g
              · exact absurd g hm0
              · exact .inr g
          unfold slV at hc
          split at hc
          · rename_i es e1
            split at hc
            · rename_i hb
              cases hc
              rw [e1] at hv hn
              simp only [lenV', Option.some.injEq] at hn
              subst hn
              rcases Reads.row hv.1 with ⟨g1, rfl⟩ | ⟨ad', cap', sz', g1, g2, g3, g4⟩
              · rw [hval] at g1
                cases g1
                obtain ⟨q', hq1, hq2, hrun⟩ := run (Nat.le_refl _) hb.1
                have hk0 : k = 0 := by simpa using hb.2.1
                subst hk0
                obtain rfl : l = 0 := by omega
                obtain rfl : q' = 0 := by omega
                refine finD h hd (x := .sl ((([] : List D).drop 0).take (0 - 0))) hrun ?_ hK
                exact .nil
              · rw [hval] at g1
                cases g1
                obtain ⟨q', hq1, hq2, hrun⟩ := run g2 hb.1
                have hrow := g4.size (allSz_ok hb.2.2)
                refine finD h hd (x := .sl ((es.drop l).take (k - l))) hrun ?_ hK
                have hlen : ((es.drop l).take (k - l)).length = k - l := by rw [List.length_take, List.length_drop]; omega
                have hr2 : ∃ ad2, (if q' = l then some ad' else (some ad').map (·.add (l * s))) = some ad2 ∧ RowAt S w ad2 s ((es.drop l).take (k - l)) := by
                  by_cases e : q' = l
                  · rw [if_pos e]
                    have : k - l = 0 := by omega
                    rw [this]
                    exact ⟨ad', rfl, fun i hi => by simp at hi⟩
                  · rw [if_neg e]
                    exact ⟨_, rfl, (hrow.from hpos l).take _⟩
                obtain ⟨ad2, e2, hrow2⟩ := hr2
                rw [e2]
                have := Reads.of_row hrow2 (cap := q' - l) (by rw [hlen]; omega) (by omega)
                rwa [hlen] at this
            · cases hc
          · rename_i e1
            split at hc
            · rename_i hb
              cases hc
              obtain ⟨rfl, rfl⟩ := hb
              rw [e1] at hv hn
              simp only [lenV', Option.some.injEq] at hn
              subst hn
              obtain ⟨ad0, hv'⟩ : ∃ ad, a.eval x = .slice ad 0 0 := hv.1
              rw [hval] at hv'
              cases hv'
              obtain ⟨q', hq1, hq2, hrun⟩ := run (Nat.le_refl _) (Nat.le_refl _)
              obtain rfl : q' = 0 := by omega
              exact fin0 h hd hrun (x := .w (.c .nil)) ⟨_, rfl⟩ (fun i hi => by cases hi) hK
            · cases hc
          · rename_i id sz' off n' e1
            split at hc
            · rename_i hb
              cases hc
              obtain ⟨hb1, hb2, rfl⟩ := hb
              rw [e1] at hv hn
              simp only [lenV', Option.some.injEq] at hn
              subst hn
              obtain ⟨hv1, hids⟩ := hv
              have hids' : ∀ i ∈ (V.w (.c (.own id sz' (off + l) (k - l)))).ids, σ.u i = true := hids
              have hv' : OwnV m w (a.eval x) id sz' off n' := hv1
              unfold OwnV at hv'
              split at hv'
              · rename_i hm
                obtain ⟨⟨ad0, g1⟩, rfl, rfl⟩ := hv'
                rw [hval] at g1
                cases g1
                obtain ⟨q', hq1, hq2, hrun⟩ := run (Nat.le_refl _) hb1
                obtain rfl : k = 0 := by omega
                obtain rfl : l = 0 := by omega
                obtain rfl : q' = 0 := by omega
                refine fin0 h hd hrun (x := .w (.c (.own id sz' (0 + 0) (0 - 0)))) ?_ hids' hK
                show OwnV m w _ id sz' _ _
                unfold OwnV
                rw [hm]
                exact ⟨⟨_, rfl⟩, rfl, rfl⟩
              · rename_i bb sz2 hm
                obtain ⟨rfl, ad', cap', ty, M, g1, g2, g3, g4, g5, g6⟩ := hv'
                rw [hval] at g1
                cases g1
                obtain ⟨q', hq1, hq2, hrun⟩ := run g2 hb1
                refine fin0 h hd hrun (x := .w (.c (.own id sz2 (off + l) (k - l)))) ?_ hids' hK
                show OwnV m w _ id sz2 _ _
                unfold OwnV
                rw [hm]
                have g6' : (off + l + (q' - l)) * sz2 ≤ M := Nat.le_trans (Nat.mul_le_mul_right _ (by omega)) g6
                by_cases e : q' = l
                · rw [if_pos e]
                  exact ⟨rfl, ad', q' - l, ty, M, rfl, by omega, by omega, fun hp => by
                    obtain ⟨rfl, rfl⟩ : off = 0 ∧ l = 0 := by omega
                    exact g4 (.inr rfl), g5, g6'⟩
                · rw [if_neg e]
                  refine ⟨rfl, _, q' - l, ty, M, rfl, by omega, by omega, fun hp => ?_, g5, g6'⟩
                  rw [g4 (by omega)]
                  show (⟨bb, off * sz2, none⟩ : Addr).add (l * sz2) = _
                  rw [add_none, Nat.add_mul]
            · cases hc
          · cases hc
        · cases hr
      · cases hr
    · cases hr
theorem snd_sliceArr (t e : TypeId) (n : Nat) (hu : P.underlying t = some (.array n e)) {s b : Nat} {z : D} (he : elTy P e = some (s, b, z)) (hn63 : n ≤ maxLen) (x : Operand) (lo hi : Option Operand) (x' : SX) (lo' hi' : Option SX) (ho : o.op = .slice t x lo hi none) (hx : compX x = some x') (hlo : compXo lo = some lo') (hhi : compXo hi = some hi')
    (h : Inv G N Sin w0 σ a w S m) (hd : ∀ t, o.dst = some t → t < N ∧ w0.fx t = none) {r : R} (hr : ef (ev G σ.f) σ.h σ.u (o.dst.getD 0) (.sliceArr s n x' lo' hi') = some r) (hK : K (σ.put o.dst r)) : o.wp P a w (Nx G N Sin w0 K) Q := by
  have h1 := h.operand hx
  have hpos : 0 < s := by obtain ⟨_, _, _, _, _, _, h5, _⟩ := elTy_ok he; exact h5
  simp only [ef] at hr
  split at hr
  · rename_i l k hl hk
    have b1 := bound_ok h hlo hl
    have b2 := bound_ok h hhi hk
    split at hr
    · rename_i hb
      have run : ∀ ad : Addr, a.eval x = .pointer (some ad) → (execOp a.eval o).run P w = .ok (.value (.slice (some (if n = l then ad else ad.add (l * s))) (k - l) (n - l))) w := fun ad e => by
        simp only [execOp, ho, e]
        refine run_v ?_
        have hbd := run_bounds (P := P) (w := w) (isSlice := false) b1.1 b2.1 (show Bd (none : Option Value) n n from .inl ⟨rfl, rfl⟩) (fun h => by cases h) hb.1 hb.2 (Nat.le_refl _)
        have hsz := run_sizeOf_el (w := w) he
        simp [Instr.sliceAt, run_underlying hu, Instr.sureAddr, hbd, hsz]
      split at hr
      · rename_i id sz' e1
        split at hr
        · rename_i szr es hob
          split at hr
          · rename_i hc
            obtain ⟨rfl, rfl⟩ := hc
            cases hr
            rw [e1] at h1
            obtain ⟨⟨bb, hm, hv⟩, hids⟩ := h1
            have hids' : ∀ i ∈ (V.w (.c (.own id sz' l (k - l)))).ids, σ.u i = true := hids
            have hobj := (h.obj id _ hob).1
            unfold ObjOk at hobj
            rw [hm] at hobj
            obtain ⟨_, _, _, cur, ty, fz, g4, _, g6, _⟩ := hobj
            refine fin0 h hd (run _ hv) (x := .w (.c (.own id sz' l (k - l)))) ?_ hids' hK
            show OwnV m w _ id sz' _ _
            unfold OwnV
            rw [hm]
            refine ⟨rfl, _, es.length - l, ty, cur.size, rfl, by omega, by omega, fun hp => ?_, by simp [World.shape?, g4], Nat.le_trans (Nat.mul_le_mul_right _ (by omega)) g6⟩
            by_cases e0 : es.length = l
            · rw [if_pos e0]
              obtain rfl : l = 0 := by omega
              simp
            · rw [if_neg e0, add_none]
              simp
          · cases hr
        · cases hr
      · rename_i es e1
        split at hr
        · rename_i hc
          cases hr
          rw [e1] at h1
          obtain ⟨⟨ad, sz', hv, hrow⟩, _⟩ := h1
          have hrow := hrow.size (allSz_ok hc.2)
          refine finD h hd (run _ hv) (x := .sl ((es.drop l).take (k - l))) ?_ hK
          have hlen : ((es.drop l).take (k - l)).length = k - l := by rw [List.length_take, List.length_drop]; omega
          have hr2 : ∃ ad2, (if n = l then ad else ad.add (l * s)) = ad2 ∧ RowAt S w ad2 s ((es.drop l).take (k - l)) := by
            by_cases e : n = l
            · rw [if_pos e]
              have : k - l = 0 := by omega
              rw [this]
              exact ⟨ad, rfl, fun i hi => by simp at hi⟩
            · rw [if_neg e]
              exact ⟨_, rfl, (hrow.from hpos l).take _⟩
          obtain ⟨ad2, e2, hrow2⟩ := hr2
          rw [e2]
          have := Reads.of_row hrow2 (cap := n - l) (by rw [hlen]; omega) (by omega)
          rwa [hlen] at this
        · cases hr
      · rename_i id sz' q off e1
        split at hr
        · rename_i cs hob
          split at hr
          · rename_i hc
            obtain ⟨rfl, rfl, hc3⟩ := hc
            cases hr
            rw [e1] at h1
            obtain ⟨⟨bb, hm, hv⟩, hids⟩ := h1
            have hids' : ∀ i ∈ (V.w (.c (.own id 1 (q + off + l) (k - l)))).ids, σ.u i = true := hids
            have hobj := (h.obj id _ hob).1
            unfold ObjOk at hobj
            rw [hm] at hobj
            obtain ⟨_, _, _, cur, ty, fz, g4, _, g6, _⟩ := hobj
            refine fin0 h hd (run _ hv) (x := .w (.c (.own id 1 (q + off + l) (k - l)))) ?_ hids' hK
            show OwnV m w _ id 1 _ _
            unfold OwnV
            rw [hm]
            refine ⟨rfl, _, n - l, ty, cur.size, rfl, by omega, by omega, fun hp => ?_, by simp [World.shape?, g4], by omega⟩
            by_cases e0 : n = l
            · rw [if_pos e0]
              obtain ⟨rfl, rfl, rfl⟩ : q = 0 ∧ off = 0 ∧ l = 0 := by omega
              simp
            · rw [if_neg e0, add_none]
              simp
          · cases hr
        · cases hr
      · cases hr
    · cases hr
  · cases hr
end
end Go.Proofs.Ytldcgjhfaledfaa
