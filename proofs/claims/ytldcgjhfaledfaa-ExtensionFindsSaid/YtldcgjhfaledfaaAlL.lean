/- The plain logic (12): copy; values that end as data; least and greatest; calls. Own work. -/
import Derived.Test.YtldcgjhfaledfaaAlK
set_option linter.unusedVariables false
set_option linter.unusedSimpArgs false
namespace Go.Proofs.Ytldcgjhfaledfaa
open Go.RowKit

section
variable {P : Program} {G : Glob} {N : Nat} {Sin : Cells} {w0 : Gh} {σ : St} {a : Act} {w : World} {S : Cells} {m : Mp} {o : Oper} {K : St → Prop} {Q : Exit → Act → World → Prop}

theorem upd_self (h : Heap) (id : Nat) {ob : Ob} (e : h id = some ob) : upd h id (some ob) = h := by
  funext k
  unfold upd
  split
  · rename_i hk; rw [hk, e]
  · rfl
theorem rowSetR {s s' : Nat} {es ys : List D} {cur : Array Value} (h : CellsOk m S w s cur (.row s' es)) (hys : ∀ e ∈ ys, e.cells.length = s) {off : Nat} (hle : off + ys.length ≤ es.length) {news : List Value} (hall : All2 (Reads S w) news (ys.flatMap D.cells)) : CellsOk m S w s (setL cur (off * s) news) (.row s' (setR es off ys)) := by
  obtain ⟨h1, h2⟩ := h
  have hl := hall.length
  rw [flat_len hys] at hl
  have hfit : off * s + ys.length * s ≤ cur.size := by
    rw [← Nat.add_mul]
    exact Nat.le_trans (Nat.mul_le_mul_right _ hle) h1
  have hlen := setR_length es off ys hle
  refine ⟨by rw [hlen, setL_size]; exact h1, fun i hi => ?_⟩
  have hg := setR_get es off ys hle i
  rw [List.getElem?_eq_getElem hi] at hg
  rw [hlen] at hi
  by_cases hin : off ≤ i ∧ i < off + ys.length
  · rw [if_pos hin, List.getElem?_eq_getElem (by omega), Option.some.injEq] at hg
    rw [hg]
    have hc := hys ys[i - off] (List.getElem_mem (by omega))
    refine ⟨hc, fun j hj => ?_⟩
    have hf := flat_get hys (i - off) (by omega) j (by omega)
    rw [List.getElem?_eq_getElem hj] at hf
    obtain ⟨v, h3, h4⟩ := hall.get? hf
    obtain ⟨h5, h6⟩ := List.getElem?_eq_some_iff.1 h3
    refine ⟨v, ?_, h4⟩
    have := setL_in news cur (off * s) ((i - off) * s + j) (by omega) h5
    rw [h6] at this
    have e : off * s + ((i - off) * s + j) = i * s + j := by
      have : off * s + (i - off) * s = i * s := by rw [← Nat.add_mul]; congr 1; omega
      omega
    rw [← e]
    exact this
  · rw [if_neg hin, List.getElem?_eq_getElem (by omega), Option.some.injEq] at hg
    rw [hg]
    obtain ⟨h3, h4⟩ := h2 i hi
    refine ⟨h3, fun j hj => ?_⟩
    obtain ⟨v, h5, h6⟩ := h4 j hj
    refine ⟨v, ?_, h6⟩
    rw [setL_out news cur (off * s) _ ?_]
    · exact h5
    · rcases Nat.lt_or_ge i off with hlt | hge
      · have := Nat.mul_le_mul_right s (show i + 1 ≤ off by omega)
        rw [Nat.add_mul] at this
        omega
      · have := Nat.mul_le_mul_right s (show off + ys.length ≤ i by omega)
        rw [Nat.add_mul] at this
        omega
theorem run_storeBack {b off : Nat} {us : List Value} {ad : Addr} (had : 0 < us.length → ad = ⟨b, off, none⟩) (h1 : ∀ u ∈ us, u.oneCell' = true) {cur : Array Value} {ty : TypeId} {fz : Nat × Nat} (hc : w.heap[b]? = some (.cells cur ty fz)) (hf : Thawed cur fz) (hle : off + us.length ≤ cur.size) :
    (storeCells ad us).run P w = .ok () (w.setCells b off us) := by
  cases us with
  | nil => rfl
  | cons u r =>
    rw [had (by simp)]
    have := run_storeCells_cells (P := P) b off (u :: r) 0 w (fun j hj => by
      rw [cell_of_row w b _ cur ty fz hc]
      have : off + 0 + j < cur.size := by omega
      simp only [Array.getElem?_eq_getElem this, Option.isSome_some]) (fun j hj => frozen_of hc hf (by omega)) h1
    simpa using this
theorem snd_copy (t e u : TypeId) {s b : Nat} {z : D} (ht : slTy P t = some (e, s, b, z)) (hu : P.underlying u = some (.slice e)) (x y : Operand) (x' y' : SX) (c : Call) (ho : o.op = .call c) (hc : c.callee = .builtin .copy) (hts : c.argTypes.toList = [t, u]) (hargs : c.args.toList = [x, y]) (hx : compX x = some x') (hy : compX y = some y')
    (h : Inv G N Sin w0 σ a w S m) (hd : ∀ t, o.dst = some t → t < N ∧ w0.fx t = none) {r : R} (hr : ef (ev G σ.f) σ.h σ.u (o.dst.getD 0) (.copy s x' y') = some r) (hK : K (σ.put o.dst r)) : o.wp P a w (Nx G N Sin w0 K) Q := by
  obtain ⟨hu0, he⟩ := slTy_ok ht
  obtain ⟨i, zv, hi, hs, hb, hz, hpos, hlen, hrd⟩ := elTy_ok he
  have e1 : c.argTypes = #[t, u] := by apply Array.ext'; simpa using hts
  have e2 : c.args = #[x, y] := by apply Array.ext'; simpa using hargs
  have h1 := h.operand hx
  have h2 := h.operand hy
  have hexec : ∀ v w', (Builtin.copy_ #[t, u] o.type #[a.eval x, a.eval y]).run P w = .ok v w' → (execOp a.eval o).run P w = .ok (.value v) w' := fun v w' hv => by
    simp only [execOp, ho, resolve, hc, invoke, builtin, e1, e2]
    simp [hv]
  simp only [ef] at hr
  split at hr
  · rename_i ys hys
    split at hr
    · rename_i hsz
      have hysz := allSz_ok hsz
      have hsrc := toV_cells h h2.1 hys hsz
      -- the first k of them
      have first : ∀ k, k ≤ ys.length → ∃ news, (Builtin.lenOf (a.eval y)).run P w = .ok ys.length w ∧ (Builtin.firstCells s k (a.eval y)).run P w = .ok news.toArray w ∧ All2 (Reads S w) news ((ys.take k).flatMap D.cells) := by
        intro k hk
        rcases hsrc with ⟨g1, rfl⟩ | ⟨ad, cap, news, g1, g2, g3⟩
        · rw [g1]
          have : k = 0 := by simpa using hk
          subst this
          exact ⟨[], rfl, run_firstCells_none _ _ _ _ _, .nil⟩
        · rw [g1]
          have hnl := g2.length
          rw [flat_len hysz] at hnl
          have hkl : k * s ≤ ys.length * s := Nat.mul_le_mul_right _ hk
          refine ⟨news.take (k * s), rfl, run_firstCells_some w s k ad _ cap _ (by rw [List.length_take]; omega) (fun j v hj => ?_), ?_⟩
          · rw [List.getElem?_take] at hj
            split at hj
            · exact g3 j v hj
            · cases hj
          · have := flat_cut hysz (off := 0) (n := k) (by omega)
            simp only [List.drop_zero, Nat.zero_mul] at this
            rw [this]
            exact g2.take _
      have one : ∀ {news : List Value} {l : List D}, All2 (Reads S w) news l → ∀ u ∈ news, u.oneCell' = true := fun hall u hu' => by
        obtain ⟨j, hj, rfl⟩ := List.getElem_of_mem hu'
        exact (hall.get j hj (by rw [← hall.length]; exact hj)).oneCell
      split at hr
      · rename_i ex
        cases hr
        rw [ex] at h1
        obtain ⟨ad0, hval⟩ : ∃ ad, a.eval x = .slice ad 0 0 := h1.1
        obtain ⟨news, f1, f2, f3⟩ := first 0 (Nat.zero_le _)
        have hn0 : news = [] := by simpa using f3.length
        subst hn0
        refine finD h hd (hexec _ _ ?_) (.int .i64 0) hK
        rw [hval]
        cases ad0 <;> simp [storeCells, Builtin.copy_, run_underlying hu0, sizeOf, typeInfo, hi, hs, f1, f2, goInt]
      · rename_i id sz' off n ex
        rw [ex] at h1
        have hv' : OwnV m w (a.eval x) id sz' off n := h1.1
        obtain ⟨news, f1, f2, f3⟩ := first (Nat.min ys.length n) (Nat.min_le_left _ _)
        have htk : ys.take n = ys.take (Nat.min ys.length n) := by
          rcases Nat.le_total n ys.length with g | g
          · rw [show Nat.min ys.length n = n from Nat.min_eq_right g]
          · rw [show Nat.min ys.length n = ys.length from Nat.min_eq_left g, List.take_of_length_le g, List.take_length]
        have htl : (ys.take (Nat.min ys.length n)).length = Nat.min ys.length n := by
          rw [List.length_take]; exact Nat.min_eq_left (Nat.min_le_left _ _)
        have htsz : ∀ e ∈ ys.take (Nat.min ys.length n), e.cells.length = s := fun e he => hysz e (List.mem_of_mem_take he)
        have hnl := f3.length
        rw [flat_len htsz, htl] at hnl
        have hkn : Nat.min ys.length n ≤ n := Nat.min_le_right _ _
        split at hr
        · rename_i szr es hob
          split at hr
          · rename_i hcond
            obtain ⟨rfl, hfit⟩ := hcond
            cases hr
            rw [htk] at hK
            have hobj := h.obj id _ hob
            have hk := hobj.1
            unfold ObjOk at hk
            unfold OwnV at hv'
            split at hv'
            · rename_i hm
              rw [hm] at hk
              obtain ⟨s2, hrow⟩ := hk
              cases hrow
              obtain ⟨⟨ad0, hval⟩, rfl, rfl⟩ := hv'
              have hk0 : Nat.min ys.length 0 = 0 := Nat.min_eq_right (Nat.zero_le _)
              rw [hk0] at hK f2
              have heq : upd σ.h id (some (Ob.row szr (setR [] 0 (ys.take 0)))) = σ.h := upd_self _ _ (by rw [hob]; simp [setR])
              rw [heq] at hK
              refine finD h hd (hexec _ _ ?_) (.int .i64 ((0 : Nat) : Int)) hK
              rw [hval]
              have hk1 : Nat.min ys.length 0 = 0 := hk0
              have hn0 : news = [] := by
                have := f3.length
                rw [hk1] at this
                simpa using this
              subst hn0
              cases ad0 <;> simp [storeCells, Builtin.copy_, run_underlying hu0, sizeOf, typeInfo, hi, hs, f1, hk1, f2, goInt]
            · rename_i bb sz2 hm
              rw [hm] at hk
              obtain ⟨rfl, ad, cap, ty, M, hval, g2, g3, g4, g5, g6⟩ := hv'
              obtain ⟨k1, k2, k3, cur, ty', fz, k4, k5, k6⟩ := hk
              simp only [Ob.sz] at k1
              subst k1
              have hle := k6.1
              have hfit2 : off * szr + news.length ≤ cur.size := by
                rw [hnl, ← Nat.add_mul]
                exact Nat.le_trans (Nat.mul_le_mul_right _ (by omega)) hle
              have run : (Builtin.copy_ #[t, u] o.type #[a.eval x, a.eval y]).run P w = .ok (.int .i64 (Nat.min ys.length n : Nat)) (w.setCells bb (off * szr) news) := by
                rw [hval]
                have hst := run_storeBack (P := P) (ad := ad) (off := off * szr) (fun hp => g4 (by
                  rcases Nat.eq_zero_or_pos cap with h0 | h0
                  · have : n = 0 := by omega
                    rw [hnl] at hp
                    have h3 : Nat.min ys.length n = 0 := by omega
                    rw [h3] at hp
                    simp at hp
                  · exact .inl h0)) (one f3) k4 k5 hfit2
                simp [Builtin.copy_, run_underlying hu0, sizeOf, typeInfo, hi, hs, f1, f2, goInt, hst]
              have hI := h.write (w' := w.setCells bb (off * szr) news) (o' := .row szr (setR es off (ys.take (Nat.min ys.length n)))) hob hm rfl k4 (setCells_heap news _ w cur k4) (setL_size _ _ _) (fun k hk => setCells_other news _ w k hk) (rowSetR k6 htsz (by rw [htl]; omega) f3) (fun j hj => by cases hj) (setCells_below k2 news _ w h.below) (setCells_size news _ w)
              exact fin hI hd (hexec _ _ run) (x := vd (.int .i64 (Nat.min ys.length n : Nat))) (Reads.rw (m := m) (.int _ _)) (fun i hi => by cases hi) hK
          · cases hr
        · rename_i cs hob
          split at hr
          · rename_i hcond
            obtain ⟨hs1, hfit⟩ := hcond
            cases hr
            rw [htk] at hK
            have hobj := h.obj id _ hob
            have hk := hobj.1
            unfold ObjOk at hk
            unfold OwnV at hv'
            split at hv'
            · rename_i hm
              rw [hm] at hk
              obtain ⟨s2, hrow⟩ := hk
              cases hrow
            · rename_i bb sz2 hm
              rw [hm] at hk
              obtain ⟨rfl, ad, cap, ty, M, hval, g2, g3, g4, g5, g6⟩ := hv'
              obtain ⟨k1, k2, k3, cur, ty', fz, k4, k5, k6⟩ := hk
              simp only [Ob.sz] at k1
              subst k1
              have hle := k6.1
              have hnl1 : news.length = Nat.min ys.length n := by rw [hnl, hs1, Nat.mul_one]
              have hfit2 : off + news.length ≤ cur.size := by omega
              have run : (Builtin.copy_ #[t, u] o.type #[a.eval x, a.eval y]).run P w = .ok (.int .i64 (Nat.min ys.length n : Nat)) (w.setCells bb off news) := by
                rw [hval]
                have hst := run_storeBack (P := P) (ad := ad) (off := off) (fun hp => by
                  have := g4 (by
                    rcases Nat.eq_zero_or_pos cap with h0 | h0
                    · have : n = 0 := by omega
                      omega
                    · exact .inl h0)
                  simpa using this) (one f3) k4 k5 hfit2
                simp [Builtin.copy_, run_underlying hu0, sizeOf, typeInfo, hi, hs, f1, f2, goInt, hst]
              have hfl : ((ys.take (Nat.min ys.length n)).flatMap D.cells).length = news.length := f3.length.symm
              have hdl : (((ys.take (Nat.min ys.length n)).flatMap D.cells).map C.d).length = news.length := by rw [List.length_map, hfl]
              have hlenR := setR_length cs off (((ys.take (Nat.min ys.length n)).flatMap D.cells).map C.d) (by omega)
              have hcells : CellsOk m S w 1 (setL cur off news) (.box (setR cs off (((ys.take (Nat.min ys.length n)).flatMap D.cells).map C.d))) := by
                refine ⟨by rw [hlenR, setL_size]; exact hle, fun j hj => ?_⟩
                have hg := setR_get cs off (((ys.take (Nat.min ys.length n)).flatMap D.cells).map C.d) (by omega) j
                rw [List.getElem?_eq_getElem hj] at hg
                rw [hlenR] at hj
                by_cases hin : off ≤ j ∧ j < off + news.length
                · rw [if_pos (by omega), List.getElem?_map] at hg
                  have hlt : j - off < ((ys.take (Nat.min ys.length n)).flatMap D.cells).length := by omega
                  rw [List.getElem?_eq_getElem hlt, Option.map_some, Option.some.injEq] at hg
                  have h5 : j - off < news.length := by omega
                  refine ⟨news[j - off], ?_, ?_⟩
                  · have := setL_in news cur off (j - off) (by omega) h5
                    rw [show off + (j - off) = j by omega] at this
                    exact this
                  · rw [hg]
                    exact f3.get (j - off) h5 hlt
                · rw [if_neg (by omega), List.getElem?_eq_getElem (by omega), Option.some.injEq] at hg
                  obtain ⟨v, q1, q2⟩ := k6.2 j hj
                  refine ⟨v, ?_, by rw [hg]; exact q2⟩
                  rw [setL_out news cur off j (by omega)]
                  exact q1
              have hI := h.write (w' := w.setCells bb off news) (o' := .box (setR cs off (((ys.take (Nat.min ys.length n)).flatMap D.cells).map C.d))) hob hm rfl k4 (setCells_heap news _ w cur k4) (setL_size _ _ _) (fun k hk => setCells_other news _ w k hk) hcells
                (setR_ids hobj.2.2 fun j hj => by
                  obtain ⟨c, hc1, hc2⟩ := List.mem_flatMap.1 hj
                  obtain ⟨d, _, rfl⟩ := List.mem_map.1 hc1
                  cases hc2) (setCells_below k2 news _ w h.below) (setCells_size news _ w)
              exact fin hI hd (hexec _ _ run) (x := vd (.int .i64 (Nat.min ys.length n : Nat))) (Reads.rw (m := m) (.int _ _)) (fun i hi => by cases hi) hK
          · cases hr
        · cases hr
      · cases hr
    · cases hr
  · cases hr

/-! ### Values that end as data -/
theorem Inv.killAll (h : Inv G N Sin w0 σ a w S m) : ∀ cs : List C, ∃ S', Inv G N Sin w0 ⟨σ.f, Go.Proofs.Ytldcgjhfaledfaa.killAll σ.h cs, σ.u⟩ a w S' m ∧ (∀ b i, S b i → S' b i) ∧ ∀ id ∈ cs.flatMap C.ids, ∀ o b s i, (∃ sz off n, C.own id sz off n ∈ cs) → σ.h id = some o → m id = some (b, s) → S' b i
  | [] => ⟨S, h, fun _ _ h => h, fun id hid => by cases hid⟩
  | c :: r => by
    obtain ⟨S1, h1, h2, h3⟩ := Inv.killAll h r
    cases c with
    | own id sz off n =>
      by_cases hl : (Go.Proofs.Ytldcgjhfaledfaa.killAll σ.h r) id = none
      · refine ⟨S1, ?_, h2, fun id' _ ob b s i ⟨sz', off', n', hmem⟩ ho hm => ?_⟩
        · have := h1.kill id
          exact this
        · rcases List.mem_cons.1 hmem with e | e
          · cases e
            exact Classical.byContradiction fun hn => by
              have key : ∀ l : List C, (Go.Proofs.Ytldcgjhfaledfaa.killAll σ.h l) id = none → (∃ sz off n, C.own id sz off n ∈ l) := by
                intro l
                induction l with
                | nil => intro hh; simp only [Go.Proofs.Ytldcgjhfaledfaa.killAll] at hh; rw [ho] at hh; cases hh
                | cons c l ih =>
                  intro hh
                  cases c <;> simp only [Go.Proofs.Ytldcgjhfaledfaa.killAll] at hh
                  case own id2 sz2 off2 n2 =>
                      (by_cases e : id = id2
                       · subst e; exact ⟨sz2, off2, n2, List.mem_cons_self ..⟩
                       · simp only [upd, e, if_false] at hh
                         obtain ⟨x, y, z, hz⟩ := ih hh
                         exact ⟨x, y, z, List.mem_cons_of_mem _ hz⟩)
                  all_goals (obtain ⟨x, y, z, hz⟩ := ih hh; exact ⟨x, y, z, List.mem_cons_of_mem _ hz⟩)
              obtain ⟨x, y, z, hz⟩ := key r hl
              exact hn (h3 id (List.mem_flatMap.2 ⟨_, hz, by simp [C.ids]⟩) ob b s i ⟨x, y, z, hz⟩ ho hm)
          · exact h3 id' (List.mem_flatMap.2 ⟨_, e, by simp [C.ids]⟩) ob b s i ⟨sz', off', n', e⟩ ho hm
      · obtain ⟨o1, ho1⟩ := Option.ne_none_iff_exists'.1 hl
        refine ⟨_, h1.freeze id o1 ho1, fun b i hs => .inl (h2 b i hs), fun id' _ ob b s i ⟨sz', off', n', hmem⟩ ho hm => ?_⟩
        rcases List.mem_cons.1 hmem with e | e
        · cases e; exact .inr ⟨s, hm⟩
        · exact .inl (h3 id' (List.mem_flatMap.2 ⟨_, e, by simp [C.ids]⟩) ob b s i ⟨sz', off', n', e⟩ ho hm)
    | _ =>
      refine ⟨S1, h1, h2, fun id' _ ob b s i ⟨sz', off', n', hmem⟩ ho hm => ?_⟩
      rcases List.mem_cons.1 hmem with e | e
      · cases e
      · exact h3 id' (List.mem_flatMap.2 ⟨_, e, by simp [C.ids]⟩) ob b s i ⟨sz', off', n', e⟩ ho hm
theorem toD_own {h : Heap} {c : C} {d : D} (e : toD h c = some d) : ∀ id ∈ c.ids, ∃ sz off n, c = .own id sz off n := by
  cases c <;> simp only [toD] at e <;> first | (cases e; done) | skip
  · intro id hid; cases hid
  · intro id hid; cases hid
  · intro id hid
    simp only [C.ids, List.mem_singleton] at hid
    subst hid
    exact ⟨_, _, _, rfl⟩
theorem toDs_own {h : Heap} : ∀ {cs : List C} {ds : List D}, toDs h cs = some ds → ∀ c ∈ cs, ∀ id ∈ c.ids, ∃ sz off n, c = .own id sz off n
  | [], _, _ => fun c hc => by cases hc
  | c :: r, ds, e => by
    simp only [toDs] at e
    split at e
    · rename_i x l h1 h2
      intro c' hc
      rcases List.mem_cons.1 hc with rfl | hc
      · exact toD_own h1
      · exact toDs_own h2 c' hc
    · cases e
theorem snd_frz (x : Operand) (y : SX) (ho : o.op = .move x ∨ o.op = .assign x) (hx : compX x = some y) (h : Inv G N Sin w0 σ a w S m) (hd : ∀ t, o.dst = some t → t < N ∧ w0.fx t = none) {r : R} (hr : ef (ev G σ.f) σ.h σ.u (o.dst.getD 0) (.frz y) = some r) (hK : K (σ.put o.dst r)) : o.wp P a w (Nx G N Sin w0 K) Q := by
  have h1 := h.operand hx
  simp only [ef] at hr
  split at hr
  · rename_i yw ey
    simp only [Option.map_eq_some_iff] at hr
    obtain ⟨d, hd', rfl⟩ := hr
    rw [ey] at h1
    obtain ⟨S', hI, hS, hown⟩ := h.killAll (wcells yw)
    have hall : ∀ id ∈ yw.ids, ∀ ob b s i, σ.h id = some ob → m id = some (b, s) → S' b i := by
      intro id hid ob b s i ho' hm
      have hw : (wcells yw).flatMap C.ids = yw.ids := by
        obtain ⟨_, _, _, h4⟩ := wcells_ok h1.1
        exact h4
      have hid' := hid
      rw [← hw] at hid'
      refine hown id hid' ob b s i ?_ ho' hm
      unfold toW at hd'
      split at hd'
      · rename_i c
        obtain ⟨sz, off, n, rfl⟩ := toD_own hd' id hid
        exact ⟨sz, off, n, by simp [wcells]⟩
      · rename_i cs
        simp only [Option.map_eq_some_iff] at hd'
        obtain ⟨ds, he, _⟩ := hd'
        obtain ⟨c, hc1, hc2⟩ := List.mem_flatMap.1 hid
        obtain ⟨sz, off, n, rfl⟩ := toDs_own he c hc1 id hc2
        exact ⟨sz, off, n, hc1⟩
    have hrd := toW_ok h hS hall h1.1 hd'
    refine fin hI hd (v := a.eval x) ?_ (x := vd d) ?_ (fun i hi => by cases hi) hK
    · unfold execOp
      rcases ho with ho | ho <;> rw [ho] <;> rfl
    · show RW m S' w _ (.c (.d d))
      cases d with
      | agg cs => exact hrd
      | _ => exact hrd
  · cases hr

/-! ### A slice's elements, rows of its own among them, which are from then on only read -/
theorem frzV_ok (h : Inv G N Sin w0 σ a w S m) {S' : Cells} (hS : ∀ b i, S b i → S' b i) {v : Value} {x : V} (hown : ∀ id, (∃ sz off n, C.own id sz off n ∈ cellsV x) → ∀ ob b s i, σ.h id = some ob → m id = some (b, s) → S' b i) (hv : RV m S w v x) : RV m S' w v (frzV σ.h x) := by
  have keep : RV m S' w v x := RV.mono hS hv
  have key : ∀ y d, x = .w y → cellsV x = wcells y → toW σ.h y = some d → RV m S' w v (.w (.c (.d d))) := by
    rintro y d rfl hcell hd'
    have hall : ∀ id ∈ y.ids, ∀ ob b s i, σ.h id = some ob → m id = some (b, s) → S' b i := by
      intro id hid
      refine hown id ?_
      rw [hcell]
      unfold toW at hd'
      split at hd'
      · rename_i c
        obtain ⟨sz, off, n, rfl⟩ := toD_own hd' id hid
        exact ⟨sz, off, n, by simp [wcells]⟩
      · rename_i cs
        simp only [Option.map_eq_some_iff] at hd'
        obtain ⟨ds, he, _⟩ := hd'
        obtain ⟨c, hc1, hc2⟩ := List.mem_flatMap.1 hid
        obtain ⟨sz, off, n, rfl⟩ := toDs_own he c hc1 id hc2
        exact ⟨sz, off, n, hc1⟩
    have hrd := toW_ok h hS hall (show RW m S w v y from hv) hd'
    show RW m S' w _ (.c (.d d))
    cases d with
    | agg cs => exact hrd
    | _ => exact hrd
  unfold frzV
  split
  · rename_i id sz off n
    split
    · rename_i o ho
      split
      · rename_i es he
        exact key _ (.sl es) rfl rfl (by simp [toW, toD, ho, he])
      · trivial
    · trivial
  · obtain ⟨ad, rfl⟩ : ∃ ad, v = .slice ad 0 0 := hv
    exact Reads.zero ad
  · rename_i cs
    split
    · rename_i ds hds
      exact key _ (.agg ds) rfl rfl (by simp [toW, hds])
    · trivial
  · exact keep
theorem frzV_ids (h : Heap) (x : V) : ∀ i ∈ (frzV h x).ids, i ∈ x.ids := by
  intro i hi
  unfold frzV at hi
  split at hi
  · split at hi
    · split at hi <;> cases hi
    · cases hi
  · cases hi
  · split at hi <;> cases hi
  · exact hi
/-- A struct literal, the rows of its own in which are from then on only read. -/
theorem snd_buildF (t : TypeId) (ps : Array (Nat × Operand)) (ho : o.op = .build t ps) (place : Nat → Option (Nat × Nat)) (zv : Value) (hb : ∀ l cells, Instr.fill place zv.cells l = some cells → P.built t l = some cells) {cs : List C} (hcs : allSome constC zv.cells.toList = some cs)
    {qs : List (Nat × Nat × SX)} (hq : All2 (fun p q => place p.1 = some (q.1, q.2.1) ∧ compX p.2 = some q.2.2) ps.toList qs) (h : Inv G N Sin w0 σ a w S m) (hd : ∀ t, o.dst = some t → t < N ∧ w0.fx t = none)
    {cs' : List C} (hp : parts (fun x => frzV σ.h (ev G σ.f x)) qs cs = some cs') (hK : K (σ.put o.dst (.w (mkAgg cs'), killAll σ.h (qs.flatMap fun p => cellsV (ev G σ.f p.2.2)), σ.u))) : o.wp P a w (Nx G N Sin w0 K) Q := by
  obtain ⟨S', hI, hS, hown⟩ := h.killAll (qs.flatMap fun p => cellsV (ev G σ.f p.2.2))
  have hz := allSome_const (m := m) (S := S') (w := w) hcs
  have hq2 : All2 (fun p q => place p.1 = some (q.1, q.2.1) ∧ RV m S' w (a.eval p.2) (frzV σ.h (ev G σ.f q.2.2)) ∧ ∀ i ∈ (frzV σ.h (ev G σ.f q.2.2)).ids, σ.u i = true) ps.toList qs := hq.weak fun p q _ hqm hpq =>
    ⟨hpq.1, frzV_ok h hS (fun id ⟨sz, off, n, hc⟩ ob b s i ho' hm => hown id (List.mem_flatMap.2 ⟨_, List.mem_flatMap.2 ⟨q, hqm, hc⟩, by simp [C.ids]⟩) ob b s i ⟨sz, off, n, List.mem_flatMap.2 ⟨q, hqm, hc⟩⟩ ho' hm) (h.operand hpq.2).1,
      fun i hi => (h.operand hpq.2).2 i (frzV_ids _ _ i hi)⟩
  obtain ⟨cur', h1, h2, h3⟩ := fill_gen place hz.1 (fun i hi => by rw [hz.2] at hi; cases hi) hq2 hp
  have hmk := mkAgg_ok h2
  rw [Array.toArray_toList] at hmk
  refine fin hI hd (x := .w (mkAgg cs')) ?_ hmk.1 (fun i hi => h3 i (hmk.2 i hi)) hK
  simp only [execOp, ho]
  refine run_v (run_build w t _ cur' (hb _ _ ?_))
  rw [← h1]
  congr 1
  simp
/-- .. and from now on only read. -/
theorem snd_markF (t e : TypeId) (ht : P.underlying t = some (.slice e)) (he : P.underlying e = some (.int .u8)) (x : Operand) (x' : SX) (ho : o.op = .convert t t x) (hx : compX x = some x') (h : Inv G N Sin w0 σ a w S m) (hd : ∀ t, o.dst = some t → t < N ∧ w0.fx t = none) {r : R} (hr : ef (ev G σ.f) σ.h σ.u (o.dst.getD 0) (.markF x') = some r) (hK : K (σ.put o.dst r)) : o.wp P a w (Nx G N Sin w0 K) Q := by
  simp only [ef] at hr
  split at hr
  · rename_i id sz off n e1
    split at hr
    · rename_i sz' es ho1
      split at hr
      · rename_i hsz
        cases hr
        obtain ⟨v, w1, run, hinv, hv, _⟩ := mark_ok t e ht he x x' ho hx h e1 ho1 hsz.2.1
        obtain ⟨S', hI, hS, hown⟩ := hinv.killAll [.own id sz off n]
        have hf := frzV_ok hinv hS (x := .w (.c (.own id sz off n))) (fun id' ⟨sz2, off2, n2, hc⟩ ob b s i ho' hm => by
          refine hown id' ?_ ob b s i ⟨sz2, off2, n2, hc⟩ ho' hm
          exact List.mem_flatMap.2 ⟨_, hc, by simp [C.ids]⟩) hv
        have hfe : frzV σ.h (.w (.c (.own id sz off n))) = vd (.sl ((es.drop off).take n)) := by
          simp only [frzV, ho1, obSl, if_pos hsz.2.2, vd]
        rw [hfe] at hf
        exact fin hI hd run (x := vd (.sl ((es.drop off).take n))) hf (fun i hi => by cases hi) hK
      · cases hr
    · cases hr
  · cases hr
theorem snd_bldFz (t e : TypeId) {s b : Nat} {z : D} (ht : slTy P t = some (e, s, b, z)) (n : Nat) (hn : n * s ≤ 2 ^ 24) (hn1 : 0 < n) (ps : Array (Nat × Operand)) (ho : o.op = .buildSlice t n ps) {qs : List (Nat × SX)}
    (hq : All2 (fun p q => p.1 = q.1 ∧ compX p.2 = some q.2) ps.toList qs)
    (h : Inv G N Sin w0 σ a w S m) (hd : ∀ t, o.dst = some t → t < N ∧ w0.fx t = none) {r : R} (hr : ef (ev G σ.f) σ.h σ.u (o.dst.getD 0) (.bldFz n s z qs) = some r) (hK : K (σ.put o.dst r)) : o.wp P a w (Nx G N Sin w0 K) Q := by
  obtain ⟨hu0, he⟩ := slTy_ok ht
  obtain ⟨i, zv, hi, hs, hb, hz, hpos, hlen, hrd⟩ := elTy_ok he
  have hn2 : n ≤ 16777216 := by
    have := Nat.le_mul_of_pos_right n hpos
    have : (2 : Nat) ^ 24 = 16777216 := by decide
    omega
  simp only [ef, Option.map_eq_some_iff] at hr
  obtain ⟨es, hes, rfl⟩ := hr
  obtain ⟨S', hI, hS, hown⟩ := h.killAll (qs.flatMap fun p => cellsV (ev G σ.f p.2))
  have h0 := cellsMade (m := m) (S := S') (w := w) (e := e) (b := b) (zv := zv) hrd hlen hpos n n (Nat.le_refl _) s
  have hq2 : All2 (fun p q => p.1 = q.1 ∧ RV m S' w (a.eval p.2) (frzV σ.h (ev G σ.f q.2))) ps.toList qs := hq.weak fun p q _ hqm hpq =>
    ⟨hpq.1, frzV_ok h hS (fun id ⟨sz, off, n, hc⟩ ob b s i ho' hm => hown id (List.mem_flatMap.2 ⟨_, List.mem_flatMap.2 ⟨q, hqm, hc⟩, by simp [C.ids]⟩) ob b s i ⟨sz, off, n, List.mem_flatMap.2 ⟨q, hqm, hc⟩⟩ ho' hm) (h.operand hpq.2).1⟩
  obtain ⟨cur, g1, g2, g3, g4⟩ := fillE_gen h0 hq2 hes
  rw [List.length_replicate] at g3
  rw [size_madeCells] at g4
  have hn3 : ¬ 16777216 < n * s := by have : (2 : Nat) ^ 24 = 16777216 := by decide
                                      omega
  have run : (execOp a.eval o).run P w = .ok (.value (.slice (some ⟨w.heap.size, 0, none⟩) n n)) (w.alloc (.cells cur e)) := by
    simp only [execOp, ho]
    refine run_v ?_
    have hfill : Instr.fill (fun i => some (i * s, s)) (madeCells zv.cells (n * s)) ((ps.map fun x => (x.1, a.eval x.2)).toList) = some cur := by
      rw [← g1]; congr 1; simp
    have hns : ¬ n * s = 0 := by
      have := Nat.mul_pos hn1 hpos
      omega
    have hfill' : Instr.fill (fun i => some (i * s, s)) (Array.map (fun x => zv.cells[x % zv.cells.size]!) (Array.range (n * s))) (List.map (fun x => (x.1, a.eval x.2)) ps.toList) = some cur := by
      rw [← hfill]
      simp [madeCells]
    simp [Instr.buildSlice, run_underlying hu0, sizeOf, typeInfo, hi, hs, hn3, hns, zeroValue, hz, newRow, hfill']
  have hr2 := readsNew (ty := e) (cap := n) hI g2 (by omega) (by simp only [maxLen]; omega)
  rw [g3] at hr2
  exact fin (hI.newRo _) hd run (x := vd (.sl es)) (hr2.rw (m := m)) (fun i hi => by cases hi) hK

/-! ### min, max -/
theorem ints_ok (h : Inv G N Sin w0 σ a w S m) : ∀ {xs : List Operand} {ys : List SX} {k : IntKind} {l : List Int}, allSome compX xs = some ys → ints (ev G σ.f) ys = some (k, l) → xs.map a.eval = l.map (Value.int k) ∧ l ≠ []
  | [], ys, k, l, h1, h2 => by simp only [allSome, Option.some.injEq] at h1; subst h1; simp [ints] at h2
  | x :: xs, ys, k, l, h1, h2 => by
    simp only [allSome] at h1
    split at h1
    · rename_i y ys' hx hxs
      cases h1
      cases ys' with
      | nil =>
        simp only [ints, Option.map_eq_some_iff] at h2
        obtain ⟨⟨k', n⟩, h3, h4⟩ := h2
        cases h4
        have := asI_ok (h.operand hx).1 h3
        have hxs0 : xs = [] := by
          cases xs with
          | nil => rfl
          | cons x2 r => simp only [allSome] at hxs; split at hxs <;> cases hxs
        subst hxs0
        exact ⟨by simp [this], by simp⟩
      | cons y2 r =>
        simp only [ints] at h2
        split at h2
        · rename_i k1 n1 k2 l2 h3 h4
          split at h2
          · rename_i hk
            cases h2
            subst hk
            have h5 := asI_ok (h.operand hx).1 h3
            obtain ⟨h6, _⟩ := ints_ok h hxs h4
            exact ⟨by simp [h5, h6], by simp⟩
          · cases h2
        · cases h2
    · cases h1
theorem run_foldMin (k : IntKind) : ∀ (l : List Int) (x : Int), ((l.map (Value.int k)).foldlM Builtin.min2 (.int k x)).run P w = .ok (.int k (l.foldl (fun x y => if y < x then y else x) x)) w
  | [], x => rfl
  | y :: r, x => by
    simp only [List.map_cons, List.foldlM_cons, List.foldl_cons, Sem.run_bind, Builtin.min2, Sem.run_pure, Result.andThen_ok]
    exact run_foldMin k r _
theorem run_foldMax (k : IntKind) : ∀ (l : List Int) (x : Int), ((l.map (Value.int k)).foldlM Builtin.max2 (.int k x)).run P w = .ok (.int k (l.foldl (fun x y => if y > x then y else x) x)) w
  | [], x => rfl
  | y :: r, x => by
    simp only [List.map_cons, List.foldlM_cons, List.foldl_cons, Sem.run_bind, Builtin.max2, Sem.run_pure, Result.andThen_ok]
    exact run_foldMax k r _
theorem snd_minmax (mx : Bool) (c : Call) (ho : o.op = .call c) (hc : c.callee = .builtin (if mx then .max else .min)) {ys : List SX} (hys : allSome compX c.args.toList = some ys) (h : Inv G N Sin w0 σ a w S m) (hd : ∀ t, o.dst = some t → t < N ∧ w0.fx t = none)
    {r : R} (hr : ef (ev G σ.f) σ.h σ.u (o.dst.getD 0) (if mx then .max ys else .min ys) = some r) (hK : K (σ.put o.dst r)) : o.wp P a w (Nx G N Sin w0 K) Q := by
  have key : ∀ k l, ints (ev G σ.f) ys = some (k, l) → ∃ x0 l0, l = x0 :: l0 ∧ (c.args.map a.eval) = ((x0 :: l0).map (Value.int k)).toArray := by
    intro k l hl
    obtain ⟨h1, h2⟩ := ints_ok h hys hl
    cases l with
    | nil => exact absurd rfl h2
    | cons x0 l0 =>
      refine ⟨x0, l0, rfl, ?_⟩
      apply Array.ext'
      simpa using h1
  cases mx
  · simp only [Bool.false_eq_true, if_false, ef, Option.map_eq_some_iff] at hr hc
    obtain ⟨⟨k, l⟩, hl, rfl⟩ := hr
    obtain ⟨x0, l0, rfl, hargs⟩ := key k l hl
    refine finD h hd ?_ (.int k _) hK
    simp only [execOp, ho, resolve, hc, invoke, builtin, hargs]
    simp [Builtin.min_, run_foldMin]
  · simp only [if_true, ef, Option.map_eq_some_iff] at hr hc
    obtain ⟨⟨k, l⟩, hl, rfl⟩ := hr
    obtain ⟨x0, l0, rfl, hargs⟩ := key k l hl
    refine finD h hd ?_ (.int k _) hK
    simp only [execOp, ho, resolve, hc, invoke, builtin, hargs]
    simp [Builtin.max_, run_foldMax]
end
end Go.Proofs.Ytldcgjhfaledfaa
