/- The contracts of layer 1's Fields, and of the reference's. -/
import Derived.Test.YtbfmabjpjblpaaaFld4
set_option linter.unusedVariables false
set_option linter.unusedSimpArgs false
namespace Go.Proofs.Ytbfmabjpjblpaaa
open Go.RowKit

/-- What the loop over the fields has gathered: the fields fs, with rest to come. -/
def Got (b : List UInt8) (fs : Fs) (rest : List UInt8) : Prop := parse b = (parse rest).map (fs ++ ·)
theorem Got.start (b : List UInt8) : Got b [] b := by unfold Got; cases parse b <;> simp
theorem Got.step {b : List UInt8} {fs : Fs} {rest : List UInt8} (h : Got b fs rest) (h1 : 4 ≤ rest.length) (h2 : 4 + fsz rest ≤ rest.length) : Got b (fs ++ [((ftp rest : Int), fdt rest)]) (rest.drop (4 + fsz rest)) := by
  unfold Got at *
  rw [h, parse_step rest h1 h2]
  cases parse (rest.drop (4 + fsz rest)) <;> simp
theorem Got.fail {b : List UInt8} {fs : Fs} {rest : List UInt8} (h : Got b fs rest) (h0 : 0 < rest.length) (h1 : rest.length < 4 ∨ rest.length < 4 + fsz rest) (hb : b.length ≤ 65535) : fcode b = 1 ∧ flist b = [] := by
  unfold Got at h
  rw [parse_short rest h0 h1] at h
  have hn : ¬ 65535 < b.length := by omega
  unfold fcode flist
  rw [h, if_neg hn, if_neg hn]
  exact ⟨rfl, rfl⟩
theorem Got.done {b : List UInt8} {fs : Fs} (h : Got b fs []) (hb : b.length ≤ 65535) : fcode b = 0 ∧ flist b = fs := by
  unfold Got at h
  rw [parse_nil] at h
  have hn : ¬ 65535 < b.length := by omega
  unfold fcode flist
  rw [h, if_neg hn, if_neg hn]
  simp
theorem slen_slc {w : World} {v : Value} {l : List UInt8} (h : Slc w v l) : slen v = l.length := by
  obtain ⟨A, c, rfl, _⟩ := h; rfl
theorem cell_new' (w : World) (cs : Array Value) (t : TypeId) (i : Nat) (u : Value) (g : Nat) (hg : g = w.heap.size) (h : cs[i]? = some u) : (w.alloc (.cells cs t)).cell? ⟨g, i, none⟩ = some u := by
  subst hg; exact cell_new w cs t i u h
theorem fcode_long (b : List UInt8) (hb : 65535 < b.length) : fcode b = 2 ∧ flist b = [] := by
  unfold fcode flist
  rw [if_pos hb, if_pos hb]
  exact ⟨rfl, rfl⟩
set_option maxRecDepth 100000 in
set_option maxHeartbeats 1600000 in
theorem fields_any (v : Value) (b : List UInt8) (w : World) (hv : Slc w v b) (hl : b.length ≤ 1099511627776) :
    Calls Try.prog 28 #[v] w fun e w' => ∃ u, e = .returned (.tuple #[u, .int .i64 (fcode b)]) ∧ OwnF w' w.heap.size u (flist b) ∧ Below w.heap.size w w' := by
  have hlen := lenV hv
  by_cases hbig : 65535 < b.length
  · obtain ⟨f1, f2⟩ := fcode_long b hbig
    have F1 := Lib.hid f1
    have F2 := Lib.hid f2
    clear f1 f2
    go_enter Try.func28, Try.ntmps28
    go_wp2
    go_ret2
    exact ⟨_, by rw [F1.out]; rfl, by rw [F2.out]; exact OwnF.nil _ _, Below.refl _ _⟩
  · go_enter Try.func28, Try.ntmps28
    go_wp2
    clear hlen
    go_loopw [0, 4, 5, 6, 7] (fun a s _ _ _ wr => ∃ (rest : List UInt8) (fs : Fs), Slc w a rest ∧ Got b fs rest ∧ fs.length * 4 + rest.length ≤ b.length ∧ OwnF wr w.heap.size s fs ∧ Below w.heap.size w wr) (fun a _ _ _ _ _ => slen a)
    case atStart => exact ⟨b, [], hv, Got.start b, by simp, OwnF.nil _ _, Below.refl _ _⟩
    case round =>
      obtain ⟨rest, fs, hs, hgot, hle, ho, hbl⟩ := hrel
      have hlr := lenV hs
      by_cases h0 : 0 < rest.length
      · by_cases hok : 4 ≤ rest.length ∧ 4 + fsz rest ≤ rest.length
        · obtain ⟨h4, h5⟩ := hok
          obtain ⟨A3, k3, s3, e3⟩ := cutL hs (4 + fsz rest) h5
          replace e3 : ∀ W, (Instr.slice 23 u0 (some (.int .i64 (4 + (fsz rest : Int)))) none none).run Try.prog W = .ok (.slice A3 (rest.length - (4 + fsz rest)) k3) W := e3
          have hsl := slen_slc hs
          have Hg := Lib.hid (hgot.step h4 h5)
          go_wp2_with (first
            | (go_at_call 36; refine (first_yes _ rest _ (hs.below hbl) (by omega) h4 h5).mono ?_; rintro e w1 ⟨u, rfl, ou, b1⟩; obtain ⟨A2, k2, rfl⟩ := ou.slc.shape)
            | (at_builtin; refine wpList_appF _ rfl _ _ rfl w.heap.size _ _ rfl (((ho.below b1).alloc _).alloc _) (w1.heap.size + 1) _ _ (fdt rest) rfl (cell_new' (w1.alloc _) _ _ 0 _ (w1.heap.size + 1) (by simp) rfl) (cell_new' (w1.alloc _) _ _ 1 _ (w1.heap.size + 1) (by simp) rfl) (((ou.mono hbl.size).alloc _).alloc _) (by omega) (by have := hbl.size; have := b1.size; simp; omega) ?_; intro v' w2 ho' hg'))
          have hbl' : Below w.heap.size w w2 := by
            have z0 := hbl.size
            have z1 := b1.size
            have hb2 : Below w.heap.size w w1 := hbl.trans (b1.mono z0)
            exact ((hb2.alloc (by omega) _).alloc (by simp; omega) _).grown hg' (by simp; omega) ho.base
          clear hg' ho ou b1
          go_wp2
          go_roundw
          case rel => exact ⟨_, _, s3, Hg.out, by simp; omega, ho', hbl'⟩
          case measure => rw [hsl]; simp [slen]; omega
        · obtain ⟨f1, f2⟩ := hgot.fail h0 (by omega) (by omega)
          have F1 := Lib.hid f1
          have F2 := Lib.hid f2
          clear f1 f2
          go_wp2_with (go_at_call 36; refine (first_no _ rest _ (hs.below hbl) (by omega)).mono ?_; rintro e w1 ⟨rfl, b1⟩)
          have bl2 : Below w.heap.size w (w1.alloc (.cells #[.int .i64 0, .slice none 0 0] 41)) := (hbl.trans (b1.mono hbl.size)).alloc (by have := hbl.size; have := b1.size; omega) _
          go_ret2
          exact ⟨_, by rw [F1.out]; rfl, by rw [F2.out]; exact OwnF.nil _ _, bl2⟩
      · obtain rfl : rest = [] := List.eq_nil_of_length_eq_zero (by omega)
        obtain ⟨f1, f2⟩ := hgot.done (by omega)
        have F1 := Lib.hid f1
        have F2 := Lib.hid f2
        clear f1 f2
        go_wp2
        go_ret2
        exact ⟨_, by rw [F1.out]; rfl, by rw [F2.out]; exact ho, hbl⟩

theorem rfsz (v : Value) (b rest : List UInt8) (i : Nat) (w : World) (hr : b.drop i = rest) (h : Slc w v ((b.drop (i + 2)).take 2)) : Calls Try.prog 17 #[v] w fun e w' => e = .returned (.int .u64 (fsz rest)) ∧ w = w' := by
  subst hr
  have e : fsz (b.drop i) = getN ((b.drop (i + 2)).take 2) := by unfold fsz; rw [List.drop_drop]
  rw [e]
  exact rget_any _ _ _ h
theorem rftp (v : Value) (b rest : List UInt8) (i : Nat) (w : World) (hr : b.drop i = rest) (h : Slc w v ((b.drop i).take 2)) : Calls Try.prog 17 #[v] w fun e w' => e = .returned (.int .u64 (ftp rest)) ∧ w = w' := by
  subst hr
  exact rget_any _ _ _ h
set_option maxRecDepth 100000 in
set_option maxHeartbeats 1600000 in
theorem rfields_any (v : Value) (b : List UInt8) (w : World) (hv : Slc w v b) (hl : b.length ≤ 1099511627776) :
    Calls Try.prog 29 #[v] w fun e w' => ∃ u, e = .returned (.tuple #[u, .int .i64 (fcode b)]) ∧ OwnF w' w.heap.size u (flist b) ∧ Below w.heap.size w w' := by
  have hlen := lenV hv
  by_cases hbig : 65535 < b.length
  · obtain ⟨f1, f2⟩ := fcode_long b hbig
    have F1 := Lib.hid f1
    have F2 := Lib.hid f2
    clear f1 f2
    go_enter Try.func29, Try.ntmps29
    go_wp2
    go_ret2
    exact ⟨_, by rw [F1.out]; rfl, by rw [F2.out]; exact OwnF.nil _ _, Below.refl _ _⟩
  · go_enter Try.func29, Try.ntmps29
    go_wp2
    go_loopw [4, 5, 6] (fun s k _ wr => ∃ (i : Nat) (fs : Fs), i ≤ b.length ∧ k = .int .i64 i ∧ Got b fs (b.drop i) ∧ fs.length ≤ i ∧ OwnF wr w.heap.size s fs ∧ Below w.heap.size w wr) (fun _ k _ _ => b.length - (intOf k).toNat)
    case atStart => exact ⟨0, [], Nat.zero_le _, rfl, Got.start b, by simp, OwnF.nil _ _, Below.refl _ _⟩
    case round =>
      obtain ⟨i, fs, hi, rfl, hgot, hle, ho, hbl⟩ := hrel
      obtain ⟨rest, hr⟩ : ∃ rest, b.drop i = rest := ⟨_, rfl⟩
      rw [hr] at hgot
      have hrl : rest.length = b.length - i := by rw [← hr, List.length_drop]
      have Hr := Lib.hid hr
      have Hrl := Lib.hid hrl
      have hz := fsz_lt rest
      have hz2 := ftp_lt rest
      by_cases h0 : i < b.length
      · by_cases h4 : 4 ≤ b.length - i
        · obtain ⟨A1, k1, s1, e1⟩ := cutLH hv (i + 2) (i + 4) (by omega) (by omega)
          replace e1 : ∀ W, (Instr.slice 23 v (some (.int .i64 ((i : Int) + 2))) (some (.int .i64 ((i : Int) + 4))) none).run Try.prog W = .ok (.slice A1 (i + 4 - (i + 2)) k1) W := e1
          rw [show i + 4 - (i + 2) = 2 by omega] at s1 e1
          by_cases h5 : 4 + fsz rest ≤ b.length - i
          · obtain ⟨A2, k2, s2, e2⟩ := cutLH hv i (i + 2) (by omega) (by omega)
            replace e2 : ∀ W, (Instr.slice 23 v (some (.int .i64 (i : Int))) (some (.int .i64 ((i : Int) + 2))) none).run Try.prog W = .ok (.slice A2 (i + 2 - i) k2) W := e2
            rw [show i + 2 - i = 2 by omega] at s2 e2
            obtain ⟨A3, k3, s3, e3⟩ := cutLH hv (i + 4) (i + 4 + fsz rest) (by omega) (by omega)
            replace e3 : ∀ W, (Instr.slice 23 v (some (.int .i64 ((i : Int) + 4))) (some (.int .i64 ((i : Int) + 4 + (fsz rest : Int)))) none).run Try.prog W = .ok (.slice A3 (i + 4 + fsz rest - (i + 4)) k3) W := e3
            rw [show i + 4 + fsz rest - (i + 4) = fsz rest by omega] at s3 e3
            have s3' : Slc w (.slice A3 (fsz rest) k3) (fdt rest) := by
              rw [show (b.drop (i + 4)).take (fsz rest) = fdt rest by unfold fdt; rw [← hr, List.drop_drop]] at s3
              exact s3
            have hwa : IntKind.i64.wrap ((i : Int) + 2) = (i : Int) + 2 := IntWalk.i64_in _ (by omega)
            have hwb : IntKind.i64.wrap ((i : Int) + 4) = (i : Int) + 4 := IntWalk.i64_in _ (by omega)
            have hwc : IntKind.i64.wrap ((i : Int) + 4 + (fsz rest : Int)) = (i : Int) + 4 + (fsz rest : Int) := IntWalk.i64_in _ (by omega)
            have hwd : IntKind.i64.wrap (ftp rest : Int) = ftp rest := IntWalk.i64_in _ (by omega)
            have Hg := Lib.hid (hgot.step (by omega) (by omega))
            have hfd : Hid ((fdt rest).length = fsz rest) := by show _ = _; unfold fdt; rw [List.length_take, List.length_drop]; omega
            clear hr hrl s3 hgot
            go_wp2_with (go_at_call 17; refine (rfsz _ b rest i _ Hr.out (s1.below hbl)).mono ?_; rintro e w' ⟨rfl, rfl⟩)
            go_region_law (first
              | (go_simp; go_at_call 17; refine (rftp _ b rest i _ Hr.out (by first | exact (s2.below hbl).drew | exact ((s2.below hbl).alloc _).drew)).mono ?_; rintro e w' ⟨rfl, rfl⟩)
              | (go_simp; go_at_call 31; refine (rjoin_any _ _ _ (Slcs.one _ _ _ 23 (s3'.below hbl)).drew (by simp only [sumLen, List.map_cons, List.map_nil, List.sum_cons, List.sum_nil, hfd.out]; omega)).mono ?_; rintro e w2 ⟨u, rfl, ou, b2⟩; rw [List.flatten_cons, List.flatten_nil, List.append_nil] at ou; obtain ⟨A4, k4, rfl⟩ := ou.shape (fsz rest) hfd.out)
              | (refine step_appF _ rfl _ _ rfl w.heap.size _ _ rfl (((ho.alloc _).drew.below b2).alloc _) w2.heap.size _ _ (fdt rest) rfl (cell_new w2 _ _ 0 _ rfl) (cell_new w2 _ _ 1 _ rfl) ((ou.mono (by have := hbl.size; simp; omega)).alloc _) (by omega) (by have := hbl.size; have := b2.size; simp at *; omega) ?_; intro v' w3 ho' hg'))
            all_goals
              have hbl' : Below w.heap.size w w3 := by
                have z0 := hbl.size
                have hb2 : Below w.heap.size w w2 := (hbl.alloc z0 _).drew.trans (b2.mono (by simp; omega))
                exact (hb2.alloc hb2.size _).grown hg' (by have := hb2.size; simp; omega) ho.base
              have Hr2 : Hid (b.drop (i + (4 + fsz rest)) = rest.drop (4 + fsz rest)) := by show _ = _; rw [← Hr.out, List.drop_drop]
              clear hg' ho ou b2
              go_wp2
              go_roundw
              case rel => exact ⟨i + (4 + fsz rest), _, by omega, by go_num, by rw [Hr2.out]; exact Hg.out, by simp; omega, ho', hbl'⟩
              case measure => simp [intOf] <;> omega
          · obtain ⟨f1, f2⟩ := hgot.fail (by omega) (.inr (by omega)) (by omega)
            have F1 := Lib.hid f1
            have F2 := Lib.hid f2
            clear f1 f2 hr hrl
            go_wp2_with (go_at_call 17; refine (rfsz _ b rest i _ Hr.out (s1.below hbl)).mono ?_; rintro e w' ⟨rfl, rfl⟩)
            go_ret2
            exact ⟨_, by rw [F1.out]; rfl, by rw [F2.out]; exact OwnF.nil _ _, hbl⟩
        · obtain ⟨f1, f2⟩ := hgot.fail (by omega) (.inl (by omega)) (by omega)
          have F1 := Lib.hid f1
          have F2 := Lib.hid f2
          clear f1 f2 hr hrl
          go_wp2
          go_ret2
          exact ⟨_, by rw [F1.out]; rfl, by rw [F2.out]; exact OwnF.nil _ _, hbl⟩
      · obtain rfl : i = b.length := by omega
        obtain rfl : rest = [] := List.eq_nil_of_length_eq_zero (by omega)
        obtain ⟨f1, f2⟩ := hgot.done (by omega)
        have F1 := Lib.hid f1
        have F2 := Lib.hid f2
        clear f1 f2 hr hrl
        go_wp2
        go_ret2
        exact ⟨_, by rw [F1.out]; rfl, by rw [F2.out]; exact ho, hbl⟩

end Go.Proofs.Ytbfmabjpjblpaaa
