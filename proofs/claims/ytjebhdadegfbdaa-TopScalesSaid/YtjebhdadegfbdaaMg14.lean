/- Texts of one's own, merged: from: Layer 13 on data: the program: windows; what the clock shows; when it does. Own work. -/
import Derived.Test.YtjebhdadegfbdaaMg7
import Derived.Test.YtjebhdadegfbdaaMg11
import Derived.Test.YtjebhdadegfbdaaMg13
import Derived.Test.YtjebhdadegfbdaaMg10
import Derived.Test.YtjebhdadegfbdaaMg9
import Derived.Test.YtjebhdadegfbdaaMg16
set_option linter.unusedVariables false
set_option linter.unusedSimpArgs false
namespace Go.Proofs.Ytjebhdadegfbdaa
open Go.RowKit

/-! ### A range over a function, with what is known behind so many rounds -/
def rngJ (st : Nat → Heap × (Nat → Bool)) (J : Nat → Prop) (k : Nat) (h : Heap) (u : Nat → Bool) : Prop := (h, u) = st k ∧ J k
theorem range_sj {P : Program} {G : Glob} {Q : AX → St → Prop} {σ : St} {x : SX} {ps : List Nat} {asg body : SCode} {g : Nat} {caps : List D} {xs : List (List D)} (f0 : Nat → V) {f1 : Nat → V} (hf : f0 = f1) (st : Nat → Heap × (Nat → Bool)) (J : Nat → Prop)
    (hev : ev G σ.f x = .w (.c (.d (.fn g caps)))) (hseq : SeqD P G g caps xs) (hlen : ∀ r ∈ xs, r.length = ps.length) (hent : Ent σ ⟨f1, (st 0).1, (st 0).2⟩) (hun : ∀ t ∈ ps ++ asg.writes ++ body.writes, f1 t = .undef) (h0 : J 0)
    (round : ∀ k r, xs[k]? = some r → J k → awp P G asg (rngA P G body (rngB f0 (rngJ st J) Q k)) ⟨parsL f1 ps r, (st k).1, (st k).2⟩)
    (done : J xs.length → Q .nrm ⟨f1, (st xs.length).1, (st xs.length).2⟩) : awp P G (.rangeF x ps asg body) Q σ := by
  subst hf
  refine ⟨g, caps, xs, f0, (st 0).1, (st 0).2, fun k h u => (h, u) = st k ∧ J k, hev, hseq, hlen, hent, hun, ⟨rfl, h0⟩, fun k r h u hr e => ?_, fun h u e => ?_⟩
  · obtain ⟨e, hJ⟩ := e
    have := round k r hr hJ
    rw [← e] at this
    have e1 : (fun (e : AX) (s : St) => match e with
        | .nrm => awp P G body (fun e s' => match e with
          | .nrm => ∃ h' u', Ent s' ⟨f0, h', u'⟩ ∧ ((h', u') = st (k + 1) ∧ J (k + 1))
          | e => ∃ h' u', Ent s' ⟨f0, h', u'⟩ ∧ Q e ⟨f0, h', u'⟩) s
        | _ => False) = rngA P G body (rngB f0 (rngJ st J) Q k) := by
      funext e s
      cases e with
      | nrm =>
        show awp P G body _ s = awp P G body _ s
        congr 1
      | _ => rfl
    rw [← e1] at this
    exact this
  · obtain ⟨e, hJ⟩ := e
    have := done hJ
    rw [← e] at this; exact this
theorem rng_nextJ {f0 : Nat → V} {f1 : Nat → V} (hf : f0 = f1) {st : Nat → Heap × (Nat → Bool)} {J : Nat → Prop} {Q : AX → St → Prop} {k : Nat} {s : St} (hJ : J (k + 1)) (h : Ent s ⟨f1, (st (k + 1)).1, (st (k + 1)).2⟩) : rngB f0 (rngJ st J) Q k .nrm s := ⟨_, _, hf ▸ h, rfl, hJ⟩
theorem rng_ret {f0 : Nat → V} {f1 : Nat → V} (hf : f0 = f1) {I : Nat → Heap → (Nat → Bool) → Prop} {Q : AX → St → Prop} {k : Nat} {s : St} (h' : Heap) (u' : Nat → Bool) (h : Ent s ⟨f1, h', u'⟩) (hQ : Q .ret ⟨f1, h', u'⟩) : rngB f0 I Q k .ret s := ⟨h', u', hf ▸ h, hf ▸ hQ⟩

/-! ### Windows -/
def spV (a b : Int) : D := .agg [.int .i64 a, .int .i64 b]
def wnV (f : Int) (l : List Lp) (i : Nat) : V := .tup [.c (.d (spV (frA (lpG l i)) (frB (lpG l i)))), .c (.d (spV (winA (lastO f l i) (lpG l i)) (winB (lpG l i))))]
theorem suc_subE (j : Nat) : (j : Int) + 1 - 1 = j := by omega
def sf_ewn : SFn := ⟨2, 49,
  .seq (.reg [⟨(some 2), .box .roBox (.t 0), none⟩,
    ⟨(some 4), .alloc [(.d (.int .i64 0)), (.d (.int .i64 0))], none⟩,
    ⟨(some 5), .alloc [(.d (.int .i64 0)), (.d (.int .i64 0))], none⟩])
  (.seq (.reg [⟨(some 10), .fieldAddr 1 (.t 2), none⟩,
    ⟨(some 11), .loadX .sc (.t 10) [], none⟩,
    ⟨(some 12), .mv (.t 1), none⟩,
    ⟨(some 13), .idxSl 2 (.t 11) (.t 12), none⟩,
    ⟨(some 14), .loadX (.ag 2) (.t 13) [], none⟩,
    ⟨(some 15), .fieldAddr 0 (.t 2), none⟩,
    ⟨(some 16), .loadX .sc (.t 15) [], none⟩,
    ⟨(some 6), .alloc [(.d (.int .i64 0)), (.d (.int .i64 0))], none⟩,
    ⟨none, .store (.ag 2) (.t 6) (.t 14), none⟩,
    ⟨(some 7), .mv (.t 16), none⟩])
  (.seq (.seq (.reg [⟨(some 17), .mv (.t 1), none⟩,
    ⟨(some 18), .bin .gtr (.t 17) (.k (.c (.d (.int .i64 0)))), none⟩])
  (.cond (.t 18) (.reg [⟨(some 19), .fieldAddr 1 (.t 2), none⟩,
     ⟨(some 20), .load .sc (.t 19), none⟩,
     ⟨(some 21), .mv (.t 1), none⟩,
     ⟨(some 22), .bin .sub (.t 21) (.k (.c (.d (.int .i64 1)))), none⟩,
     ⟨(some 23), .idxSl 2 (.t 20) (.t 22), none⟩,
     ⟨(some 24), .fieldAddr 1 (.t 23), none⟩,
     ⟨(some 25), .load .sc (.t 24), none⟩,
     ⟨(some 7), .mv (.t 25), none⟩])
   (.skip)))
  (.seq (.reg [⟨(some 26), .fieldAddr 0 (.t 6), none⟩,
    ⟨(some 27), .load .sc (.t 26), none⟩,
    ⟨(some 28), .bin .sub (.t 27) (.k (.c (.d (.int .i64 43200)))), none⟩,
    ⟨(some 29), .fieldAddr 0 (.t 6), none⟩,
    ⟨(some 30), .load .sc (.t 29), none⟩,
    ⟨(some 31), .bin .add (.t 30) (.k (.c (.d (.int .i64 43200)))), none⟩,
    ⟨(some 8), .mv (.t 28), none⟩,
    ⟨(some 9), .mv (.t 31), none⟩])
  (.seq (.reg [⟨(some 32), .mv (.t 8), none⟩,
    ⟨(some 33), .bin .shl (.t 32) (.k (.c (.d (.int .u64 20)))), none⟩,
    ⟨(some 34), .mv (.t 9), none⟩,
    ⟨(some 35), .bin .shl (.t 34) (.k (.c (.d (.int .u64 20)))), none⟩,
    ⟨(some 36), .build [(.d (.int .i64 0)), (.d (.int .i64 0))] [(0, 1, (.t 33)), (1, 1, (.t 35))], none⟩,
    ⟨none, .store (.ag 2) (.t 4) (.t 36), none⟩])
  (.seq (.reg [⟨(some 37), .mv (.t 8), none⟩,
    ⟨(some 38), .mv (.t 7), none⟩,
    ⟨(some 39), .bin .add (.t 37) (.t 38), none⟩,
    ⟨(some 40), .bin .shl (.t 39) (.k (.c (.d (.int .u64 20)))), none⟩,
    ⟨(some 41), .mv (.t 9), none⟩,
    ⟨(some 42), .fieldAddr 1 (.t 6), none⟩,
    ⟨(some 43), .load .sc (.t 42), none⟩,
    ⟨(some 44), .bin .add (.t 41) (.t 43), none⟩,
    ⟨(some 45), .bin .shl (.t 44) (.k (.c (.d (.int .u64 20)))), none⟩,
    ⟨(some 46), .build [(.d (.int .i64 0)), (.d (.int .i64 0))] [(0, 1, (.t 40)), (1, 1, (.t 45))], none⟩,
    ⟨none, .store (.ag 2) (.t 5) (.t 46), none⟩])
  (.seq (.reg [⟨(some 47), .loadX (.ag 2) (.t 4) [(.t 5)], none⟩,
    ⟨(some 48), .loadX (.ag 2) (.t 5) [(.t 4)], none⟩,
    ⟨none, .store (.ag 2) (.t 4) (.t 47), none⟩,
    ⟨none, .store (.ag 2) (.t 5) (.t 48), none⟩])
  (.ret))))))),
  [(4, (some (.ag 2))), (5, (some (.ag 2)))]⟩
theorem cf_ewn : compFn Try.prog { own := [], comp := [], frz := [], nils := [], lx := [(11, []), (14, []), (16, []), (47, [5]), (48, [4])] } Try.f87 = some sf_ewn := by kernel_rfl
theorem ewn_c (G : Glob) (f : Int) (l : List Lp) (i : Nat) (hl : l.length ≤ 9223372036854775807) (hi : i < l.length) (h : okB f l = true) : Den Try.prog G 87 [lpD f l, .int .i64 (i : Int)] (wnV f l i) := by
  refine den_walk Try.func87 cf_ewn rfl rfl ?_
  have g := lpG_get hi
  have b := ok_el h hi
  unfold lpD wnV spV frA frB winA winB
  rcases i with _ | j
  · have e2 : lastO f l 0 = f := rfl
    rw [e2] at b ⊢
    have p0 : ((0 : Int) > 0) = False := eq_false (by omega)
    generalize lpG l 0 = X at *
    obtain ⟨A, O⟩ := X
    simp only at b ⊢
    simp only [sf_ewn, putAll, wx, wy, wz, stV, seval, IntWalk.iteOmega, IntWalk.toNatUp, reduceCtorEq, get_map, g, spD, bI64, p0]
    exact ret_d2 (by simp only [wx, wy, wz, stV, seval, IntWalk.iteOmega, IntWalk.toNatUp, reduceCtorEq]) (by simp only [wx, wy, wz, stV, seval, IntWalk.iteOmega, IntWalk.toNatUp, reduceCtorEq])
  · have gp := lpG_get (l := l) (i := j) (by omega)
    have e2 : lastO f l (j + 1) = (lpG l j).2 := rfl
    have p0 : ((j : Int) + 1 > 0) = True := eq_true (by omega)
    rw [e2] at b ⊢
    generalize lpG l (j + 1) = X at *
    obtain ⟨A, O⟩ := X
    generalize lpG l j = Y at *
    obtain ⟨B, O'⟩ := Y
    simp only at b ⊢
    simp only [sf_ewn, putAll, wx, wy, wz, stV, seval, IntWalk.iteOmega, IntWalk.toNatUp, reduceCtorEq, get_map, g, gp, spD, bI64, p0, suc_subE]
    exact ret_d2 (by simp only [wx, wy, wz, stV, seval, IntWalk.iteOmega, IntWalk.toNatUp, reduceCtorEq]) (by simp only [wx, wy, wz, stV, seval, IntWalk.iteOmega, IntWalk.toNatUp, reduceCtorEq])
def sf_esec : SFn := ⟨1, 9,
  .seq (.reg [⟨(some 1), .box .roBox (.t 0), none⟩,
    ⟨(some 2), .mv (.k (.c (.d (.int .i64 0)))), none⟩])
  (.seq (.reg [⟨(some 3), .fieldAddr 1 (.t 1), none⟩,
    ⟨(some 4), .load .sc (.t 3), none⟩,
    ⟨(some 5), .fieldAddr 0 (.t 1), none⟩,
    ⟨(some 6), .load .sc (.t 5), none⟩,
    ⟨(some 7), .bin .sub (.t 4) (.t 6), none⟩,
    ⟨(some 8), .call 61 [(.t 7)] none, none⟩,
    ⟨(some 2), .mv (.t 8), none⟩])
  (.ret)),
  [(2, none)]⟩
theorem cf_esec : compFn Try.prog { own := [], comp := [], frz := [], nils := [] } Try.f89 = some sf_esec := by kernel_rfl
theorem esec_c (G : Glob) (a b : Int) (h1 : -1152921504606846976 ≤ a) (h2 : a ≤ 1152921504606846976) (h3 : -1152921504606846976 ≤ b) (h4 : b ≤ 1152921504606846976) : Den Try.prog G 89 [spV a b] (.w (.c (.d (.int .i64 ((b - a) / 1048576))))) := by
  refine den_walk Try.func89 cf_esec rfl rfl ?_
  unfold spV
  simp only [sf_esec, putAll, wx, wy, wz, stV, seval, IntWalk.iteOmega, IntWalk.toNatUp, reduceCtorEq]
  refine st_call (snd_c G (b - a)) rfl (.inl rfl) ?_
  simp only [wx, wy, wz, stV, seval, IntWalk.iteOmega, IntWalk.toNatUp, reduceCtorEq]
  exact ret_d1 (by simp only [wx, wy, wz, stV, seval, IntWalk.iteOmega, IntWalk.toNatUp, reduceCtorEq])
def sf_esca : SFn := ⟨4, 21,
  .seq (.reg [⟨(some 8), .mv (.k (.c (.d (.int .i64 0)))), none⟩])
  (.seq (.reg [⟨(some 12), .mv (.t 0), none⟩,
    ⟨(some 13), .mv (.t 1), none⟩,
    ⟨(some 14), .bin .mul (.t 12) (.t 13), none⟩,
    ⟨(some 15), .mv (.t 2), none⟩,
    ⟨(some 16), .mv (.t 3), none⟩,
    ⟨(some 17), .call 77 [(.t 14), (.t 15), (.t 16)] none, none⟩,
    ⟨(some 11), .mv (.t 17), none⟩,
    ⟨(some 18), .extract (.t 11) 0, none⟩,
    ⟨(some 19), .extract (.t 11) 1, none⟩,
    ⟨(some 9), .mv (.t 18), none⟩,
    ⟨(some 10), .mv (.t 19), none⟩])
  (.seq (.reg [⟨(some 20), .mv (.t 9), none⟩,
    ⟨(some 8), .mv (.t 20), none⟩])
  (.ret))),
  [(8, none)]⟩
theorem cf_esca : compFn Try.prog { own := [], comp := [], frz := [], nils := [] } Try.f88 = some sf_esca := by kernel_rfl
theorem esca_c (G : Glob) (n a b : Int) (up : Bool) (h1 : 0 ≤ n * a) (h2 : n * a ≤ 1152921504606846976) (hb : 1 ≤ b) : Den Try.prog G 88 [.int .i64 n, .int .i64 a, .int .i64 b, .bool up] (.w (.c (.d (.int .i64 (roundI (n * a) b up))))) := by
  refine den_walk Try.func88 cf_esca rfl rfl ?_
  have c1 := div_c G (n * a) b up (by omega) (by omega)
  have hv : ¬ (b < 1 ∨ valT (n * a) = false) := by
    rw [valT_t (by omega)]
    rintro (k | k)
    · omega
    · cases k
  unfold divV divE at c1
  rw [if_neg hv, if_neg hv] at c1
  simp only [sf_esca, putAll, wx, wy, wz, stV, seval, IntWalk.iteOmega, IntWalk.toNatUp, reduceCtorEq]
  refine st_call (c1) rfl (.inl rfl) ?_
  simp only [wx, wy, wz, stV, seval, IntWalk.iteOmega, IntWalk.toNatUp, reduceCtorEq]
  exact ret_d1 (by simp only [wx, wy, wz, stV, seval, IntWalk.iteOmega, IntWalk.toNatUp, reduceCtorEq])
def sf_esin : SFn := ⟨1, 6,
  .seq (.reg [⟨(some 2), .alloc [(.d (.int .i64 0)), (.d (.int .i64 0))], none⟩])
  (.seq (.reg [⟨(some 3), .mv (.t 0), none⟩,
    ⟨(some 4), .mv (.t 0), none⟩,
    ⟨(some 5), .build [(.d (.int .i64 0)), (.d (.int .i64 0))] [(0, 1, (.t 3)), (1, 1, (.t 4))], none⟩,
    ⟨none, .store (.ag 2) (.t 2) (.t 5), none⟩])
  (.ret)),
  [(2, (some (.ag 2)))]⟩
theorem cf_esin : compFn Try.prog { own := [], comp := [], frz := [], nils := [] } Try.f90 = some sf_esin := by kernel_rfl
theorem esin_c (G : Glob) (t : Int) : Den Try.prog G 90 [.int .i64 t] (.w (.c (.d (spV t t)))) := by
  refine den_walk Try.func90 cf_esin rfl rfl ?_
  unfold spV
  simp only [sf_esin, putAll, wx, wy, wz, stV, seval, IntWalk.iteOmega, IntWalk.toNatUp, reduceCtorEq]
  exact ret_d1 (by simp only [wx, wy, wz, stV, seval, IntWalk.iteOmega, IntWalk.toNatUp, reduceCtorEq])
def erfE (f : Int) (l : List Lp) (n a b : Int) : Int := if okB f l = true then (if a ≤ n ∧ n ≤ b then 0 else 4) else 3
def sf_eerr : SFn := ⟨4, 20,
  .seq (.reg [⟨(some 4), .box .roBox (.t 0), none⟩,
    ⟨(some 8), .mv (.k (.c (.d (.int .i64 0)))), none⟩])
  (.seq (.seq (.reg [⟨(some 9), .load (.ag 2) (.t 4), none⟩,
    ⟨(some 10), .call 59 [(.t 9)] none, none⟩,
    ⟨(some 11), .un .not (.t 10), none⟩])
  (.cond (.t 11) (.seq (.reg [⟨(some 8), .mv (.k (.c (.d (.int .i64 3)))), none⟩])
   (.ret))
   (.skip)))
  (.seq (.seq (.reg [⟨(some 12), .mv (.t 1), none⟩,
    ⟨(some 13), .mv (.t 2), none⟩,
    ⟨(some 14), .bin .lss (.t 12) (.t 13), none⟩,
    ⟨(some 15), .mv (.t 14), none⟩,
    ⟨(some 16), .mv (.t 1), (some (15, false))⟩,
    ⟨(some 17), .mv (.t 3), (some (15, false))⟩,
    ⟨(some 18), .bin .gtr (.t 16) (.t 17), (some (15, false))⟩,
    ⟨(some 19), .pick (.t 15) (.k (.c (.d (.bool true)))) (.t 18), none⟩])
  (.cond (.t 19) (.seq (.reg [⟨(some 8), .mv (.k (.c (.d (.int .i64 4)))), none⟩])
   (.ret))
   (.skip)))
  (.seq (.reg [⟨(some 8), .mv (.k (.c (.d (.int .i64 0)))), none⟩])
  (.ret)))),
  [(8, none)]⟩
theorem cf_eerr : compFn Try.prog { own := [], comp := [], frz := [], nils := [] } Try.f68 = some sf_eerr := by kernel_rfl
theorem eerr_c (G : Glob) (f : Int) (l : List Lp) (n a b : Int) (hl : l.length ≤ 9223372036854775807) : Den Try.prog G 68 [lpD f l, .int .i64 n, .int .i64 a, .int .i64 b] (.w (.c (.d (.int .i64 (erfE f l n a b))))) := by
  refine den_walk Try.func68 cf_eerr rfl rfl ?_
  have c1 := lvl_c G f l hl
  unfold erfE
  unfold lpD at c1 ⊢
  cases h1 : okB f l <;> rw [h1] at c1
  · simp only [sf_eerr, putAll, wx, wy, wz, stV, seval, IntWalk.iteOmega, IntWalk.toNatUp, reduceCtorEq]
    refine st_call (c1) rfl (.inl rfl) ?_
    simp only [wx, wy, wz, stV, seval, IntWalk.iteOmega, IntWalk.toNatUp, reduceCtorEq]
    exact ret_d1 (by simp only [wx, wy, wz, stV, seval, IntWalk.iteOmega, IntWalk.toNatUp, reduceCtorEq])
  · by_cases k1 : n < a
    · rw [if_neg (show ¬ (a ≤ n ∧ n ≤ b) by omega)]
      simp only [sf_eerr, putAll, wx, wy, wz, stV, seval, IntWalk.iteOmega, IntWalk.toNatUp, reduceCtorEq]
      refine st_call (c1) rfl (.inl rfl) ?_
      simp only [wx, wy, wz, stV, seval, IntWalk.iteOmega, IntWalk.toNatUp, reduceCtorEq]
      exact ret_d1 (by simp only [wx, wy, wz, stV, seval, IntWalk.iteOmega, IntWalk.toNatUp, reduceCtorEq])
    · by_cases k2 : n > b
      · rw [if_neg (show ¬ (a ≤ n ∧ n ≤ b) by omega)]
        simp only [sf_eerr, putAll, wx, wy, wz, stV, seval, IntWalk.iteOmega, IntWalk.toNatUp, reduceCtorEq]
        refine st_call (c1) rfl (.inl rfl) ?_
        simp only [eq_true k2, wx, wy, wz, stV, seval, IntWalk.iteOmega, IntWalk.toNatUp, reduceCtorEq]
        exact ret_d1 (by simp only [wx, wy, wz, stV, seval, IntWalk.iteOmega, IntWalk.toNatUp, reduceCtorEq])
      · rw [if_pos (show a ≤ n ∧ n ≤ b by omega)]
        simp only [sf_eerr, putAll, wx, wy, wz, stV, seval, IntWalk.iteOmega, IntWalk.toNatUp, reduceCtorEq]
        refine st_call (c1) rfl (.inl rfl) ?_
        simp only [eq_false k2, wx, wy, wz, stV, seval, IntWalk.iteOmega, IntWalk.toNatUp, reduceCtorEq]
        exact ret_d1 (by simp only [wx, wy, wz, stV, seval, IntWalk.iteOmega, IntWalk.toNatUp, reduceCtorEq])
end Go.Proofs.Ytjebhdadegfbdaa
set_option linter.unusedVariables false
set_option linter.unusedSimpArgs false
namespace Go.Proofs.Ytjebhdadegfbdaa
open Go.RowKit

theorem ofL_unE {l : List (Nat × V)} {ts : List Nat} (h : ts.all (fun t => !(l.map (·.1)).contains t) = true) : ∀ t ∈ ts, ofL l t = .undef := by
  intro t ht
  have h1 := List.all_eq_true.1 h t ht
  have h2 : t ∉ l.map (·.1) := by simpa using h1
  clear h h1 ht
  induction l with
  | nil => rfl
  | cons p l ih =>
    simp only [List.map_cons, List.mem_cons, not_or] at h2
    show upd (ofL l) p.1 p.2 t = _
    unfold upd
    rw [if_neg h2.1]
    exact ih h2.2
theorem round_false (a b : Int) : roundI a b false = a / b := by unfold roundI; rw [if_neg (by intro k; cases k.1)]
/-- A window's numbers. -/
theorem win_nums {f : Int} {l : List Lp} (h : okB f l = true) {i : Nat} (hi : i < l.length) :
    winA (lastO f l i) (lpG l i) = frA (lpG l i) + lastO f l i * 1048576 ∧ winB (lpG l i) = frB (lpG l i) + (lpG l i).2 * 1048576 ∧ frB (lpG l i) = frA (lpG l i) + 90596966400 ∧
    45298483200 ≤ frA (lpG l i) ∧ frA (lpG l i) ≤ 144115188075855872 ∧ -64 ≤ lastO f l i ∧ lastO f l i ≤ 164 ∧ ((lpG l i).2 = lastO f l i + 1 ∨ (lpG l i).2 = lastO f l i - 1) := by
  have b := ok_el h hi
  have c := (okE_e ((okB_iff.1 h).2 i hi)).2.2.2.2
  unfold winA winB frA frB
  omega
/-- Behind k elements from the last one on: the instant is ahead of the window of the last one of these. -/
def shJ (f : Int) (l : List Lp) (t : Int) (k : Nat) : Prop := ∀ j, j + k = l.length → 0 < k → t < winA (lastO f l j) (lpG l j)
def shL (f : Int) (l : List Lp) (t : Int) : List (Nat × V) := [(2, .w (.c (.rp [.int .i64 f, .sl (l.map spD)]))), (3, .w (.c (.rp [.int .i64 t]))), (4, .w (.c (.ptr 1 1 0 0)))]
def shF (f : Int) (l : List Lp) (t : Int) : Nat → V := ofL (shL f l t)
def shH (_ : Nat) : Heap × (Nat → Bool) := (hL [(1, .box [.d (.int .i64 0)])], uL [1])
theorem bkL_in {l : List Lp} {k : Nat} {r : List D} (h : (bkL l)[k]? = some r) : ∃ I, I + 1 + k = l.length ∧ r = [.int .i64 (I : Int), spD (lpG l I)] := by
  have hk : k < l.length := by
    rcases Nat.lt_or_ge k l.length with h' | h'
    · exact h'
    · rw [List.getElem?_eq_none (by rw [bkL_len]; exact h')] at h; cases h
  rw [bkL_get hk] at h
  refine ⟨l.length - 1 - k, by omega, (Option.some.inj h).symm⟩
theorem bkL_two {l : List Lp} {r : List D} (h : r ∈ bkL l) : r.length = 2 := by
  unfold bkL at h
  obtain ⟨k, _, rfl⟩ := List.mem_map.1 h
  rfl
def lp_eshw_0 : SCode :=
  .seq (.reg [⟨(some 5), .mv (.t 12), none⟩])
  (.reg [⟨(some 6), .alloc [(.d (.int .i64 0)), (.d (.int .i64 0))], none⟩,
    ⟨none, .store (.ag 2) (.t 6) (.t 13), none⟩])
def lp_eshw_1 : SCode :=
  .block 1 (.seq (.reg [⟨(some 15), .load (.ag 2) (.t 2), none⟩,
     ⟨(some 16), .mv (.t 5), none⟩,
     ⟨(some 17), .call 87 [(.t 15), (.t 16)] none, none⟩,
     ⟨(some 14), .mv (.t 17), none⟩,
     ⟨(some 18), .extract (.t 14) 0, none⟩,
     ⟨(some 19), .extract (.t 14) 1, none⟩,
     ⟨(some 7), .alloc [(.d (.int .i64 0)), (.d (.int .i64 0))], none⟩,
     ⟨(some 8), .alloc [(.d (.int .i64 0)), (.d (.int .i64 0))], none⟩,
     ⟨none, .store (.ag 2) (.t 7) (.t 18), none⟩,
     ⟨none, .store (.ag 2) (.t 8) (.t 19), none⟩])
   (.block 2 (.seq (.reg [⟨(some 21), .load .sc (.t 3), none⟩,
      ⟨(some 22), .fieldAddr 1 (.t 8), none⟩,
      ⟨(some 23), .load .sc (.t 22), none⟩,
      ⟨(some 24), .bin .geq (.t 21) (.t 23), none⟩,
      ⟨(some 20), .mv (.t 24), none⟩])
    (.cond (.t 20) (.seq (.reg [⟨(some 25), .load .sc (.t 3), none⟩,
       ⟨(some 26), .fieldAddr 1 (.t 6), none⟩,
       ⟨(some 27), .load .sc (.t 26), none⟩,
       ⟨(some 28), .bin .shl (.t 27) (.k (.c (.d (.int .u64 20)))), none⟩,
       ⟨(some 29), .bin .sub (.t 25) (.t 28), none⟩,
       ⟨none, .store .sc (.t 4) (.t 29), none⟩])
     (.ret))
     (.seq (.reg [⟨(some 31), .load .sc (.t 3), none⟩,
       ⟨(some 32), .fieldAddr 0 (.t 8), none⟩,
       ⟨(some 33), .load .sc (.t 32), none⟩,
       ⟨(some 34), .bin .geq (.t 31) (.t 33), none⟩,
       ⟨(some 30), .mv (.t 34), none⟩])
     (.cond (.t 30) (.seq (.reg [⟨(some 35), .fieldAddr 0 (.t 7), none⟩,
        ⟨(some 36), .load .sc (.t 35), none⟩,
        ⟨(some 37), .load .sc (.t 3), none⟩,
        ⟨(some 38), .fieldAddr 0 (.t 8), none⟩,
        ⟨(some 39), .load .sc (.t 38), none⟩,
        ⟨(some 40), .bin .sub (.t 37) (.t 39), none⟩,
        ⟨(some 41), .load (.ag 2) (.t 8), none⟩,
        ⟨(some 42), .call 89 [(.t 41)] none, none⟩,
        ⟨(some 43), .call 88 [(.t 40), (.k (.c (.d (.int .i64 86400)))), (.t 42), (.k (.c (.d (.bool false))))] none, none⟩,
        ⟨(some 44), .bin .add (.t 36) (.t 43), none⟩,
        ⟨none, .store .sc (.t 4) (.t 44), none⟩])
      (.ret))
      (.skip)))))))
def sf_eshw : SFn := ⟨2, 50,
  .seq (.reg [⟨(some 2), .box .roBox (.t 0), none⟩,
    ⟨(some 3), .box .roBox (.t 1), none⟩,
    ⟨(some 4), .alloc [(.d (.int .i64 0))], none⟩])
  (.seq (.seq (.reg [⟨(some 9), .fieldAddr 1 (.t 2), none⟩,
    ⟨(some 10), .load .sc (.t 9), none⟩,
    ⟨(some 11), .call 86 [(.t 10)] none, none⟩])
  (.block 0 (.rangeF (.t 11) [12, 13] lp_eshw_0 lp_eshw_1)))
  (.seq (.reg [⟨(some 45), .load .sc (.t 3), none⟩,
    ⟨(some 46), .fieldAddr 0 (.t 2), none⟩,
    ⟨(some 47), .load .sc (.t 46), none⟩,
    ⟨(some 48), .bin .shl (.t 47) (.k (.c (.d (.int .u64 20)))), none⟩,
    ⟨(some 49), .bin .sub (.t 45) (.t 48), none⟩,
    ⟨none, .store .sc (.t 4) (.t 49), none⟩])
  (.ret))),
  [(4, (some .sc))]⟩
theorem cf_eshw : compFn Try.prog { own := [], comp := [], frz := [], nils := [] } Try.f69 = some sf_eshw := by kernel_rfl
set_option maxHeartbeats 1600000 in
theorem eshw_c (G : Glob) (f : Int) (l : List Lp) (t : Int) (hl : l.length ≤ 9223372036854775807) (h : okB f l = true) (h1 : -1152921504606846976 ≤ t) (h2 : t ≤ 1152921504606846976) : Den Try.prog G 69 [lpD f l, .int .i64 t] (.w (.c (.d (.int .i64 (smN f l t))))) := by
  refine den_walk Try.func69 cf_eshw rfl rfl ?_
  have hlen := (okB_iff.1 h).1
  unfold lpD
  simp only [sf_eshw, putAll, wx, wy, wz, stV, seval, IntWalk.iteOmega, IntWalk.toNatUp, reduceCtorEq]
  refine st_call (bkw_c G l) rfl (.inl rfl) ?_
  simp only [wx, wy, wz, stV, seval, IntWalk.iteOmega, IntWalk.toNatUp, reduceCtorEq]
  refine range_sj (shF f l t) (f1 := ofL (shL f l t)) rfl shH (shJ f l t) rfl (bki_seq G l (by omega)) (fun r hr => bkL_two hr) ?_ ?_ ?_ ?_ ?_
  · refine ent_l (fun i => if i = 1 then 32 else i) ?_ ?_ rfl rfl <;> simp only [shL, wx, wex, wez, stV, seval, IntWalk.iteOmega, IntWalk.toNatUp, reduceCtorEq]
  · exact ofL_unE (by rfl)
  · intro j _ h0; omega
  · intro k r hr hJ
    obtain ⟨I, hI, rfl⟩ := bkL_in hr
    have hi : I < l.length := by omega
    obtain ⟨n1, n2, n3, n4, n5, n6, n7, n8⟩ := win_nums h hi
    have w1 := sm_at1 (okB_leap h) (t := t) hi
    have w2 := sm_at2 (okB_leap h) (t := t) hi
    have hn : I + 1 < l.length → t < winA (lpG l I).2 (lpG l (I + 1)) := fun hlt => hJ (I + 1) (by omega) (by omega)
    have cw := ewn_c G f l I hl hi h
    have nx : t < winA (lastO f l I) (lpG l I) → shJ f l t (k + 1) := fun hlt j hj _ => by
      obtain rfl : j = I := by omega
      exact hlt
    have ez : spD (lpG l I) = .agg [.int .i64 (lpG l I).1, .int .i64 (lpG l I).2] := rfl
    rw [ez]
    unfold lpD wnV spV at cw
    generalize smN f l t = R at *
    generalize frA (lpG l I) = a at *
    generalize frB (lpG l I) = b at *
    generalize winA (lastO f l I) (lpG l I) = A at *
    generalize winB (lpG l I) = B at *
    generalize lastO f l I = o at *
    generalize lpG l I = X at *
    obtain ⟨p, q⟩ := X
    simp only at n1 n2 n3 n4 n5 n6 n7 n8 w1 w2 hn
    by_cases c1 : t ≥ B
    · rw [w1 c1 hn]
      simp only [lp_eshw_0, lp_eshw_1, shH, shL, parsL, wx, wy, wz, stV, seval, IntWalk.iteOmega, IntWalk.toNatUp, reduceCtorEq]
      refine st_call (cw) rfl (.inl rfl) ?_
      simp only [eq_true c1, bI64, wx, wy, wz, stV, seval, IntWalk.iteOmega, IntWalk.toNatUp, reduceCtorEq]
      refine rng_ret (f1 := ofL (shL f l t)) rfl (hL [(1, .box [.d (.int .i64 (t - q * 1048576))])]) (uL [1]) ?_ ?_
      · refine ent_l (fun i => i) ?_ ?_ rfl rfl <;> simp only [shL, wx, wex, wez, stV, seval, IntWalk.iteOmega, IntWalk.toNatUp, reduceCtorEq]
      · simp only [shL, wx, wy, wz, stV, seval, IntWalk.iteOmega, IntWalk.toNatUp, reduceCtorEq]
        exact ret_d1 (by simp only [wx, wy, wz, stV, seval, IntWalk.iteOmega, IntWalk.toNatUp, reduceCtorEq])
    · by_cases c2 : t ≥ A
      · have cs := esec_c G A B (by omega) (by omega) (by omega) (by omega)
        have es : (B - A) / 1048576 = 86400 + q - o := by omega
        have cc := esca_c G (t - A) 86400 (86400 + q - o) false (by omega) (by omega) (by omega)
        rw [round_false] at cc
        unfold spV at cs
        rw [es] at cs
        have wr := w2 c2 (by omega)
        have wb : 0 ≤ (t - A) * 86400 / (86400 + q - o) ∧ (t - A) * 86400 / (86400 + q - o) ≤ 90596966400 := by
          rcases n8 with e | e <;> subst e
          · rw [show 86400 + (o + 1) - o = 86401 by omega]; omega
          · rw [show 86400 + (o - 1) - o = 86399 by omega]; omega
        rw [wr]
        generalize (t - A) * 86400 / (86400 + q - o) = Z at *
        simp only [lp_eshw_0, lp_eshw_1, shH, shL, parsL, wx, wy, wz, stV, seval, IntWalk.iteOmega, IntWalk.toNatUp, reduceCtorEq]
        refine st_call (cw) rfl (.inl rfl) ?_
        simp only [eq_false c1, eq_true c2, bI64, wx, wy, wz, stV, seval, IntWalk.iteOmega, IntWalk.toNatUp, reduceCtorEq]
        refine st_call (cs) rfl (.inl rfl) ?_
        simp only [wx, wy, wz, stV, seval, IntWalk.iteOmega, IntWalk.toNatUp, reduceCtorEq]
        refine st_call (cc) rfl (.inl rfl) ?_
        simp only [wx, wy, wz, stV, seval, IntWalk.iteOmega, IntWalk.toNatUp, reduceCtorEq]
        refine rng_ret (f1 := ofL (shL f l t)) rfl (hL [(1, .box [.d (.int .i64 (a + Z))])]) (uL [1]) ?_ ?_
        · refine ent_l (fun i => i) ?_ ?_ rfl rfl <;> simp only [shL, wx, wex, wez, stV, seval, IntWalk.iteOmega, IntWalk.toNatUp, reduceCtorEq]
        · simp only [shL, wx, wy, wz, stV, seval, IntWalk.iteOmega, IntWalk.toNatUp, reduceCtorEq]
          exact ret_d1 (by simp only [wx, wy, wz, stV, seval, IntWalk.iteOmega, IntWalk.toNatUp, reduceCtorEq])
      · simp only [lp_eshw_0, lp_eshw_1, shH, shL, parsL, wx, wy, wz, stV, seval, IntWalk.iteOmega, IntWalk.toNatUp, reduceCtorEq]
        refine st_call (cw) rfl (.inl rfl) ?_
        simp only [eq_false c1, eq_false c2, bI64, wx, wy, wz, stV, seval, IntWalk.iteOmega, IntWalk.toNatUp, reduceCtorEq]
        refine rng_nextJ (f1 := ofL (shL f l t)) rfl (nx (by omega)) ?_
        refine ent_l (fun i => i) ?_ ?_ rfl rfl <;> simp only [shL, wx, wex, wez, stV, seval, IntWalk.iteOmega, IntWalk.toNatUp, reduceCtorEq]
  · intro hJ
    have e := sm_at3 (l := l) (f := f) (t := t) fun h0 => hJ 0 (by rw [bkL_len]; omega) (by rw [bkL_len]; omega)
    rw [e]
    simp only [shH, shL, wx, wy, wz, stV, seval, IntWalk.iteOmega, IntWalk.toNatUp, reduceCtorEq, bI64]
    exact ret_d1 (by simp only [wx, wy, wz, stV, seval, IntWalk.iteOmega, IntWalk.toNatUp, reduceCtorEq])
/-! ### When the clock shows so much -/
def isJ (l : List Lp) (s : Int) (k : Nat) : Prop := ∀ j, j + k = l.length → 0 < k → s < frA (lpG l j)
def isH (_ : Nat) : Heap × (Nat → Bool) := (hL [(1, .box [.d (.int .i64 0), .d (.int .i64 0)])], uL [1])
theorem up_in {a : Int} (h : 0 ≤ a) : 0 ≤ roundI a 86400 true ∧ roundI a 86400 true ≤ a + 1 := by
  have k := round_enclose a (b := 86400) (by decide)
  rw [round_false] at k
  omega
def lp_eist_0 : SCode :=
  .seq (.reg [⟨(some 5), .mv (.t 14), none⟩])
  (.reg [⟨(some 6), .alloc [(.d (.int .i64 0)), (.d (.int .i64 0))], none⟩,
    ⟨none, .store (.ag 2) (.t 6) (.t 15), none⟩])
def lp_eist_1 : SCode :=
  .block 1 (.seq (.reg [⟨(some 17), .load (.ag 2) (.t 2), none⟩,
     ⟨(some 18), .mv (.t 5), none⟩,
     ⟨(some 19), .call 87 [(.t 17), (.t 18)] none, none⟩,
     ⟨(some 16), .mv (.t 19), none⟩,
     ⟨(some 20), .extract (.t 16) 0, none⟩,
     ⟨(some 21), .extract (.t 16) 1, none⟩,
     ⟨(some 7), .alloc [(.d (.int .i64 0)), (.d (.int .i64 0))], none⟩,
     ⟨(some 8), .alloc [(.d (.int .i64 0)), (.d (.int .i64 0))], none⟩,
     ⟨none, .store (.ag 2) (.t 7) (.t 20), none⟩,
     ⟨none, .store (.ag 2) (.t 8) (.t 21), none⟩])
   (.block 2 (.seq (.reg [⟨(some 23), .load .sc (.t 3), none⟩,
      ⟨(some 24), .fieldAddr 1 (.t 7), none⟩,
      ⟨(some 25), .load .sc (.t 24), none⟩,
      ⟨(some 26), .bin .geq (.t 23) (.t 25), none⟩,
      ⟨(some 22), .mv (.t 26), none⟩])
    (.cond (.t 22) (.seq (.reg [⟨(some 27), .load .sc (.t 3), none⟩,
       ⟨(some 28), .fieldAddr 1 (.t 6), none⟩,
       ⟨(some 29), .load .sc (.t 28), none⟩,
       ⟨(some 30), .bin .shl (.t 29) (.k (.c (.d (.int .u64 20)))), none⟩,
       ⟨(some 31), .bin .add (.t 27) (.t 30), none⟩,
       ⟨(some 32), .call 90 [(.t 31)] none, none⟩,
       ⟨none, .store (.ag 2) (.t 4) (.t 32), none⟩])
     (.ret))
     (.seq (.reg [⟨(some 34), .load .sc (.t 3), none⟩,
       ⟨(some 35), .fieldAddr 0 (.t 7), none⟩,
       ⟨(some 36), .load .sc (.t 35), none⟩,
       ⟨(some 37), .bin .geq (.t 34) (.t 36), none⟩,
       ⟨(some 33), .mv (.t 37), none⟩])
     (.cond (.t 33) (.seq (.reg [⟨(some 38), .load .sc (.t 3), none⟩,
        ⟨(some 39), .fieldAddr 0 (.t 7), none⟩,
        ⟨(some 40), .load .sc (.t 39), none⟩,
        ⟨(some 41), .bin .sub (.t 38) (.t 40), none⟩,
        ⟨(some 42), .load (.ag 2) (.t 8), none⟩,
        ⟨(some 43), .call 89 [(.t 42)] none, none⟩,
        ⟨(some 9), .mv (.t 41), none⟩,
        ⟨(some 10), .mv (.t 43), none⟩])
      (.seq (.reg [⟨(some 44), .fieldAddr 0 (.t 8), none⟩,
        ⟨(some 45), .load .sc (.t 44), none⟩,
        ⟨(some 46), .mv (.t 9), none⟩,
        ⟨(some 47), .mv (.t 10), none⟩,
        ⟨(some 48), .call 88 [(.t 46), (.t 47), (.k (.c (.d (.int .i64 86400)))), (.k (.c (.d (.bool true))))] none, none⟩,
        ⟨(some 49), .bin .add (.t 45) (.t 48), none⟩,
        ⟨(some 50), .fieldAddr 0 (.t 8), none⟩,
        ⟨(some 51), .load .sc (.t 50), none⟩,
        ⟨(some 52), .mv (.t 9), none⟩,
        ⟨(some 53), .bin .add (.t 52) (.k (.c (.d (.int .i64 1)))), none⟩,
        ⟨(some 54), .mv (.t 10), none⟩,
        ⟨(some 55), .call 88 [(.t 53), (.t 54), (.k (.c (.d (.int .i64 86400)))), (.k (.c (.d (.bool true))))] none, none⟩,
        ⟨(some 56), .bin .add (.t 51) (.t 55), none⟩,
        ⟨(some 57), .bin .sub (.t 56) (.k (.c (.d (.int .i64 1)))), none⟩,
        ⟨(some 58), .build [(.d (.int .i64 0)), (.d (.int .i64 0))] [(0, 1, (.t 49)), (1, 1, (.t 57))], none⟩,
        ⟨none, .store (.ag 2) (.t 4) (.t 58), none⟩])
      (.ret)))
      (.skip)))))))
def sf_eist : SFn := ⟨2, 65,
  .seq (.reg [⟨(some 2), .box .roBox (.t 0), none⟩,
    ⟨(some 3), .box .roBox (.t 1), none⟩,
    ⟨(some 4), .alloc [(.d (.int .i64 0)), (.d (.int .i64 0))], none⟩])
  (.seq (.seq (.reg [⟨(some 11), .fieldAddr 1 (.t 2), none⟩,
    ⟨(some 12), .load .sc (.t 11), none⟩,
    ⟨(some 13), .call 86 [(.t 12)] none, none⟩])
  (.block 0 (.rangeF (.t 13) [14, 15] lp_eist_0 lp_eist_1)))
  (.seq (.reg [⟨(some 59), .load .sc (.t 3), none⟩,
    ⟨(some 60), .fieldAddr 0 (.t 2), none⟩,
    ⟨(some 61), .load .sc (.t 60), none⟩,
    ⟨(some 62), .bin .shl (.t 61) (.k (.c (.d (.int .u64 20)))), none⟩,
    ⟨(some 63), .bin .add (.t 59) (.t 62), none⟩,
    ⟨(some 64), .call 90 [(.t 63)] none, none⟩,
    ⟨none, .store (.ag 2) (.t 4) (.t 64), none⟩])
  (.ret))),
  [(4, (some (.ag 2)))]⟩
theorem cf_eist : compFn Try.prog { own := [], comp := [], frz := [], nils := [] } Try.f70 = some sf_eist := by kernel_rfl
set_option maxHeartbeats 1600000 in
theorem eist_c (G : Glob) (f : Int) (l : List Lp) (s : Int) (hl : l.length ≤ 9223372036854775807) (h : okB f l = true) (h1 : -576460752303423488 ≤ s) (h2 : s ≤ 576460752303423488) : Den Try.prog G 70 [lpD f l, .int .i64 s] (.w (.c (.d (spV (lsN f l s) (lsN f l (s + 1) - 1))))) := by
  refine den_walk Try.func70 cf_eist rfl rfl ?_
  have hlen := (okB_iff.1 h).1
  unfold lpD
  simp only [sf_eist, putAll, wx, wy, wz, stV, seval, IntWalk.iteOmega, IntWalk.toNatUp, reduceCtorEq]
  refine st_call (bkw_c G l) rfl (.inl rfl) ?_
  simp only [wx, wy, wz, stV, seval, IntWalk.iteOmega, IntWalk.toNatUp, reduceCtorEq]
  refine range_sj (shF f l s) (f1 := ofL (shL f l s)) rfl isH (isJ l s) rfl (bki_seq G l (by omega)) (fun r hr => bkL_two hr) ?_ ?_ ?_ ?_ ?_
  · refine ent_l (fun i => if i = 1 then 32 else i) ?_ ?_ rfl rfl <;> simp only [shL, wx, wex, wez, stV, seval, IntWalk.iteOmega, IntWalk.toNatUp, reduceCtorEq]
  · exact ofL_unE (by rfl)
  · intro j _ h0; omega
  · intro k r hr hJ
    obtain ⟨I, hI, rfl⟩ := bkL_in hr
    have hi : I < l.length := by omega
    obtain ⟨n1, n2, n3, n4, n5, n6, n7, n8⟩ := win_nums h hi
    have w1 := fun s' => ls_at1 (okB_leap h) (s := s') hi
    have w2 := fun s' => ls_at2 (okB_leap h) (s := s') hi
    have hn : I + 1 < l.length → s < frA (lpG l (I + 1)) := fun hlt => hJ (I + 1) (by omega) (by omega)
    have cw := ewn_c G f l I hl hi h
    have nx : s < frA (lpG l I) → isJ l s (k + 1) := fun hlt j hj _ => by
      obtain rfl : j = I := by omega
      exact hlt
    have ez : spD (lpG l I) = .agg [.int .i64 (lpG l I).1, .int .i64 (lpG l I).2] := rfl
    rw [ez]
    unfold lpD wnV spV at cw
    have w1' := w1 s
    have w1'' := w1 (s + 1)
    have w2' := w2 s
    have w2'' := w2 (s + 1)
    clear w1 w2
    unfold spV
    generalize lsN f l s = R at *
    generalize lsN f l (s + 1) = R' at *
    generalize frA (lpG l I) = a at *
    generalize frB (lpG l I) = b at *
    generalize winA (lastO f l I) (lpG l I) = A at *
    generalize winB (lpG l I) = B at *
    generalize lastO f l I = o at *
    generalize lpG l I = X at *
    obtain ⟨p, q⟩ := X
    simp only at n1 n2 n3 n4 n5 n6 n7 n8 w1' w1'' w2' w2'' hn
    by_cases c1 : s ≥ b
    · have e1 := w1' c1 (fun hlt => by have := hn hlt; omega)
      have e2 := w1'' (by omega) (fun hlt => by have := hn hlt; omega)
      have e3 : R' - 1 = s + q * 1048576 := by omega
      have cs := esin_c G (s + q * 1048576)
      unfold spV at cs
      rw [e1, e3]
      simp only [lp_eist_0, lp_eist_1, isH, shL, parsL, wx, wy, wz, stV, seval, IntWalk.iteOmega, IntWalk.toNatUp, reduceCtorEq]
      refine st_call (cw) rfl (.inl rfl) ?_
      simp only [eq_true c1, bI64, wx, wy, wz, stV, seval, IntWalk.iteOmega, IntWalk.toNatUp, reduceCtorEq]
      refine st_call (cs) rfl (.inl rfl) ?_
      simp only [wx, wy, wz, stV, seval, IntWalk.iteOmega, IntWalk.toNatUp, reduceCtorEq]
      refine rng_ret (f1 := ofL (shL f l s)) rfl (hL [(1, .box [.d (.int .i64 (s + q * 1048576)), .d (.int .i64 (s + q * 1048576))])]) (uL [1]) ?_ ?_
      · refine ent_l (fun i => i) ?_ ?_ rfl rfl <;> simp only [shL, wx, wex, wez, stV, seval, IntWalk.iteOmega, IntWalk.toNatUp, reduceCtorEq]
      · simp only [shL, wx, wy, wz, stV, seval, IntWalk.iteOmega, IntWalk.toNatUp, reduceCtorEq]
        exact ret_d1 (by simp only [wx, wy, wz, stV, seval, IntWalk.iteOmega, IntWalk.toNatUp, reduceCtorEq])
    · by_cases c2 : s ≥ a
      · have cs := esec_c G A B (by omega) (by omega) (by omega) (by omega)
        have es : (B - A) / 1048576 = 86400 + q - o := by omega
        unfold spV at cs
        rw [es] at cs
        have e1 := w2' (by omega) (by omega)
        have e2 := w2'' (by omega) (by omega)
        have m1 : 0 ≤ (s - a) * (86400 + q - o) ∧ (s - a) * (86400 + q - o) ≤ 7827668493926400 := by
          rcases n8 with e | e <;> subst e
          · rw [show 86400 + (o + 1) - o = 86401 by omega]; omega
          · rw [show 86400 + (o - 1) - o = 86399 by omega]; omega
        have m2 : 0 ≤ (s - a + 1) * (86400 + q - o) ∧ (s - a + 1) * (86400 + q - o) ≤ 7827668494012801 := by
          rcases n8 with e | e <;> subst e
          · rw [show 86400 + (o + 1) - o = 86401 by omega]; omega
          · rw [show 86400 + (o - 1) - o = 86399 by omega]; omega
        rw [show s + 1 - a = s - a + 1 by omega] at e2
        have cc := esca_c G (s - a) (86400 + q - o) 86400 true (by omega) (by omega) (by omega)
        have cd := esca_c G (s - a + 1) (86400 + q - o) 86400 true (by omega) (by omega) (by omega)
        have u1 := up_in m1.1
        have u2 := up_in m2.1
        rw [e1, e2]
        generalize hY : roundI ((s - a) * (86400 + q - o)) 86400 true = Y at *
        generalize hZ : roundI ((s - a + 1) * (86400 + q - o)) 86400 true = Z at *
        generalize hM1 : (s - a) * (86400 + q - o) = M1 at *
        generalize hM2 : (s - a + 1) * (86400 + q - o) = M2 at *
        generalize 86400 + q - o = L at *
        simp only [lp_eist_0, lp_eist_1, isH, shL, parsL, wx, wy, wz, stV, seval, IntWalk.iteOmega, IntWalk.toNatUp, reduceCtorEq]
        refine st_call (cw) rfl (.inl rfl) ?_
        simp only [eq_false c1, eq_true c2, bI64, wx, wy, wz, stV, seval, IntWalk.iteOmega, IntWalk.toNatUp, reduceCtorEq]
        refine st_call (cs) rfl (.inl rfl) ?_
        simp only [wx, wy, wz, stV, seval, IntWalk.iteOmega, IntWalk.toNatUp, reduceCtorEq]
        refine st_call (cc) rfl (.inl rfl) ?_
        simp only [wx, wy, wz, stV, seval, IntWalk.iteOmega, IntWalk.toNatUp, reduceCtorEq]
        refine st_call (cd) rfl (.inl rfl) ?_
        simp only [wx, wy, wz, stV, seval, IntWalk.iteOmega, IntWalk.toNatUp, reduceCtorEq]
        refine rng_ret (f1 := ofL (shL f l s)) rfl (hL [(1, .box [.d (.int .i64 (A + Y)), .d (.int .i64 (A + Z - 1))])]) (uL [1]) ?_ ?_
        · refine ent_l (fun i => i) ?_ ?_ rfl rfl <;> simp only [shL, wx, wex, wez, stV, seval, IntWalk.iteOmega, IntWalk.toNatUp, reduceCtorEq]
        · simp only [shL, wx, wy, wz, stV, seval, IntWalk.iteOmega, IntWalk.toNatUp, reduceCtorEq]
          exact ret_d1 (by simp only [wx, wy, wz, stV, seval, IntWalk.iteOmega, IntWalk.toNatUp, reduceCtorEq])
      · simp only [lp_eist_0, lp_eist_1, isH, shL, parsL, wx, wy, wz, stV, seval, IntWalk.iteOmega, IntWalk.toNatUp, reduceCtorEq]
        refine st_call (cw) rfl (.inl rfl) ?_
        simp only [eq_false c1, eq_false c2, bI64, wx, wy, wz, stV, seval, IntWalk.iteOmega, IntWalk.toNatUp, reduceCtorEq]
        refine rng_nextJ (f1 := ofL (shL f l s)) rfl (nx (by omega)) ?_
        refine ent_l (fun i => i) ?_ ?_ rfl rfl <;> simp only [shL, wx, wex, wez, stV, seval, IntWalk.iteOmega, IntWalk.toNatUp, reduceCtorEq]
  · intro hJ
    have hj : 0 < l.length → s < frA (lpG l 0) := fun h0 => hJ 0 (by rw [bkL_len]; omega) (by rw [bkL_len]; omega)
    have e1 := ls_at3 (okB_leap h) (s := s) fun h0 => by have := hj h0; omega
    have e2 := ls_at3 (okB_leap h) (s := s + 1) fun h0 => by have := hj h0; omega
    have e3 : lsN f l (s + 1) - 1 = s + f * 1048576 := by omega
    have cs := esin_c G (s + f * 1048576)
    unfold spV at cs ⊢
    rw [e1, e3]
    simp only [isH, shL, wx, wy, wz, stV, seval, IntWalk.iteOmega, IntWalk.toNatUp, reduceCtorEq, bI64]
    refine st_call (cs) rfl (.inl rfl) ?_
    simp only [wx, wy, wz, stV, seval, IntWalk.iteOmega, IntWalk.toNatUp, reduceCtorEq]
    exact ret_d1 (by simp only [wx, wy, wz, stV, seval, IntWalk.iteOmega, IntWalk.toNatUp, reduceCtorEq])
/-! ### Smear, Clear, Error, Window -/
theorem smv_e {f : Int} {l : List Lp} {t : Int} : erfE f l t 134217728 288230376151711744 = smvE f l t := rfl
def sf_esme : SFn := ⟨2, 16,
  .seq (.reg [⟨(some 2), .box .roBox (.t 0), none⟩,
    ⟨(some 4), .mv (.k (.c (.d (.int .i64 0)))), none⟩,
    ⟨(some 5), .mv (.k (.c (.d (.int .i64 0)))), none⟩])
  (.seq (.seq (.reg [⟨(some 7), .load (.ag 2) (.t 2), none⟩,
    ⟨(some 8), .mv (.t 1), none⟩,
    ⟨(some 9), .call 68 [(.t 7), (.t 8), (.k (.c (.d (.int .i64 134217728)))), (.k (.c (.d (.int .i64 288230376151711744))))] none, none⟩,
    ⟨(some 6), .mv (.t 9), none⟩])
  (.seq (.reg [⟨(some 10), .mv (.t 6), none⟩,
    ⟨(some 11), .bin .neq (.t 10) (.k (.c (.d (.int .i64 0)))), none⟩])
  (.cond (.t 11) (.seq (.reg [⟨(some 12), .mv (.t 6), none⟩,
     ⟨(some 4), .mv (.k (.c (.d (.int .i64 0)))), none⟩,
     ⟨(some 5), .mv (.t 12), none⟩])
   (.ret))
   (.skip))))
  (.seq (.reg [⟨(some 13), .load (.ag 2) (.t 2), none⟩,
    ⟨(some 14), .mv (.t 1), none⟩,
    ⟨(some 15), .call 69 [(.t 13), (.t 14)] none, none⟩,
    ⟨(some 4), .mv (.t 15), none⟩,
    ⟨(some 5), .mv (.k (.c (.d (.int .i64 0)))), none⟩])
  (.ret))),
  [(4, none), (5, none)]⟩
theorem cf_esme : compFn Try.prog { own := [], comp := [], frz := [], nils := [] } Try.f34 = some sf_esme := by kernel_rfl
theorem esme_c (G : Glob) (f : Int) (l : List Lp) (t : Int) (hl : l.length ≤ 9223372036854775807) : Den Try.prog G 34 [lpD f l, .int .i64 t] (.tup [.c (.d (.int .i64 (smvV f l t))), .c (.d (.int .i64 (smvE f l t)))]) := by
  refine den_walk Try.func34 cf_esme rfl rfl ?_
  have c1 := eerr_c G f l t 134217728 288230376151711744 hl
  unfold erfE at c1
  unfold smvV smvB smvE
  unfold lpD at c1 ⊢
  cases h1 : okB f l
  · rw [h1] at c1
    simp only [Bool.false_eq_true, if_false] at c1
    simp only [sf_esme, putAll, wx, wy, wz, stV, seval, IntWalk.iteOmega, IntWalk.toNatUp, reduceCtorEq]
    refine st_call (c1) rfl (.inl rfl) ?_
    simp only [wx, wy, wz, stV, seval, IntWalk.iteOmega, IntWalk.toNatUp, reduceCtorEq]
    exact ret_d2 (by simp only [wx, wy, wz, stV, seval, IntWalk.iteOmega, IntWalk.toNatUp, reduceCtorEq]) (by simp only [wx, wy, wz, stV, seval, IntWalk.iteOmega, IntWalk.toNatUp, reduceCtorEq])
  · rw [h1] at c1
    by_cases k : 134217728 ≤ t ∧ t ≤ 288230376151711744
    · have c2 := eshw_c G f l t hl h1 (by omega) (by omega)
      unfold lpD at c2
      rw [if_pos rfl, if_pos k] at c1
      rw [decide_eq_true k, if_pos k]
      generalize smN f l t = R at *
      simp only [sf_esme, putAll, wx, wy, wz, stV, seval, IntWalk.iteOmega, IntWalk.toNatUp, reduceCtorEq]
      refine st_call (c1) rfl (.inl rfl) ?_
      simp only [wx, wy, wz, stV, seval, IntWalk.iteOmega, IntWalk.toNatUp, reduceCtorEq]
      refine st_call (c2) rfl (.inl rfl) ?_
      simp only [wx, wy, wz, stV, seval, IntWalk.iteOmega, IntWalk.toNatUp, reduceCtorEq]
      exact ret_d2 (by simp only [wx, wy, wz, stV, seval, IntWalk.iteOmega, IntWalk.toNatUp, reduceCtorEq]) (by simp only [wx, wy, wz, stV, seval, IntWalk.iteOmega, IntWalk.toNatUp, reduceCtorEq])
    · rw [if_pos rfl, if_neg k] at c1
      rw [decide_eq_false k, if_neg k]
      simp only [sf_esme, putAll, wx, wy, wz, stV, seval, IntWalk.iteOmega, IntWalk.toNatUp, reduceCtorEq]
      refine st_call (c1) rfl (.inl rfl) ?_
      simp only [wx, wy, wz, stV, seval, IntWalk.iteOmega, IntWalk.toNatUp, reduceCtorEq]
      exact ret_d2 (by simp only [wx, wy, wz, stV, seval, IntWalk.iteOmega, IntWalk.toNatUp, reduceCtorEq]) (by simp only [wx, wy, wz, stV, seval, IntWalk.iteOmega, IntWalk.toNatUp, reduceCtorEq])
theorem clr_eq {f : Int} {l : List Lp} (h : okB f l = true) (s : Int) : lsN f l s ≤ lsN f l (s + 1) := ls_mono (okB_leap h) (by omega)
def sf_eclr : SFn := ⟨2, 25,
  .seq (.reg [⟨(some 2), .box .roBox (.t 0), none⟩,
    ⟨(some 4), .alloc [(.d (.int .i64 0)), (.d (.int .i64 0))], none⟩,
    ⟨(some 5), .mv (.k (.c (.d (.int .i64 0)))), none⟩])
  (.seq (.seq (.reg [⟨(some 8), .load (.ag 2) (.t 2), none⟩,
    ⟨(some 9), .mv (.t 1), none⟩,
    ⟨(some 10), .call 68 [(.t 8), (.t 9), (.k (.c (.d (.int .i64 268435456)))), (.k (.c (.d (.int .i64 144115188075855872))))] none, none⟩,
    ⟨(some 6), .mv (.t 10), none⟩])
  (.seq (.reg [⟨(some 11), .mv (.t 6), none⟩,
    ⟨(some 12), .bin .neq (.t 11) (.k (.c (.d (.int .i64 0)))), none⟩])
  (.cond (.t 12) (.seq (.reg [⟨(some 13), .build [(.d (.int .i64 0)), (.d (.int .i64 0))] [], none⟩,
     ⟨(some 14), .mv (.t 6), none⟩,
     ⟨none, .store (.ag 2) (.t 4) (.t 13), none⟩,
     ⟨(some 5), .mv (.t 14), none⟩])
   (.ret))
   (.skip))))
  (.seq (.reg [⟨(some 15), .load (.ag 2) (.t 2), none⟩,
    ⟨(some 16), .mv (.t 1), none⟩,
    ⟨(some 17), .call 70 [(.t 15), (.t 16)] none, none⟩,
    ⟨(some 7), .alloc [(.d (.int .i64 0)), (.d (.int .i64 0))], none⟩,
    ⟨none, .store (.ag 2) (.t 7) (.t 17), none⟩])
  (.seq (.seq (.reg [⟨(some 18), .fieldAddr 0 (.t 7), none⟩,
    ⟨(some 19), .load .sc (.t 18), none⟩,
    ⟨(some 20), .fieldAddr 1 (.t 7), none⟩,
    ⟨(some 21), .load .sc (.t 20), none⟩,
    ⟨(some 22), .bin .gtr (.t 19) (.t 21), none⟩])
  (.cond (.t 22) (.seq (.reg [⟨(some 23), .build [(.d (.int .i64 0)), (.d (.int .i64 0))] [], none⟩,
     ⟨none, .store (.ag 2) (.t 4) (.t 23), none⟩,
     ⟨(some 5), .mv (.k (.c (.d (.int .i64 10)))), none⟩])
   (.ret))
   (.skip)))
  (.seq (.reg [⟨(some 24), .load (.ag 2) (.t 7), none⟩,
    ⟨none, .store (.ag 2) (.t 4) (.t 24), none⟩,
    ⟨(some 5), .mv (.k (.c (.d (.int .i64 0)))), none⟩])
  (.ret))))),
  [(4, (some (.ag 2))), (5, none)]⟩
theorem cf_eclr : compFn Try.prog { own := [], comp := [], frz := [], nils := [] } Try.f35 = some sf_eclr := by kernel_rfl
theorem eclr_c (G : Glob) (f : Int) (l : List Lp) (s : Int) (hl : l.length ≤ 9223372036854775807) : Den Try.prog G 35 [lpD f l, .int .i64 s] (.tup [.c (.d (spV (clrLo f l s) (clrHi f l s))), .c (.d (.int .i64 (clrE f l s)))]) := by
  refine den_walk Try.func35 cf_eclr rfl rfl ?_
  have c1 := eerr_c G f l s 268435456 144115188075855872 hl
  unfold erfE at c1
  unfold spV clrLo clrHi clrB clrR clrE
  unfold lpD at c1 ⊢
  cases h1 : okB f l
  · rw [h1] at c1
    simp only [Bool.false_eq_true, if_false] at c1
    simp only [sf_eclr, putAll, wx, wy, wz, stV, seval, IntWalk.iteOmega, IntWalk.toNatUp, reduceCtorEq]
    refine st_call (c1) rfl (.inl rfl) ?_
    simp only [wx, wy, wz, stV, seval, IntWalk.iteOmega, IntWalk.toNatUp, reduceCtorEq]
    exact ret_d2 (by simp only [wx, wy, wz, stV, seval, IntWalk.iteOmega, IntWalk.toNatUp, reduceCtorEq]) (by simp only [wx, wy, wz, stV, seval, IntWalk.iteOmega, IntWalk.toNatUp, reduceCtorEq])
  · rw [h1] at c1
    by_cases k : 268435456 ≤ s ∧ s ≤ 144115188075855872
    · have c2 := eist_c G f l s hl h1 (by omega) (by omega)
      have hm := clr_eq h1 s
      have r1 := ls_range h1 s
      have r2 := ls_range h1 (s + 1)
      unfold lpD spV at c2
      rw [if_pos rfl, if_pos k] at c1
      rw [decide_eq_true k, if_pos k]
      unfold clrN
      generalize lsN f l s = R at *
      generalize lsN f l (s + 1) = R' at *
      by_cases he : R = R'
      · rw [decide_eq_true he]
        have hg : (R > R' - 1) = True := eq_true (by omega)
        simp only [sf_eclr, putAll, wx, wy, wz, stV, seval, IntWalk.iteOmega, IntWalk.toNatUp, reduceCtorEq]
        refine st_call (c1) rfl (.inl rfl) ?_
        simp only [wx, wy, wz, stV, seval, IntWalk.iteOmega, IntWalk.toNatUp, reduceCtorEq]
        refine st_call (c2) rfl (.inl rfl) ?_
        simp only [hg, wx, wy, wz, stV, seval, IntWalk.iteOmega, IntWalk.toNatUp, reduceCtorEq]
        exact ret_d2 (by simp only [wx, wy, wz, stV, seval, IntWalk.iteOmega, IntWalk.toNatUp, reduceCtorEq]) (by simp only [wx, wy, wz, stV, seval, IntWalk.iteOmega, IntWalk.toNatUp, reduceCtorEq])
      · rw [decide_eq_false he]
        have hg : (R > R' - 1) = False := eq_false (by omega)
        simp only [sf_eclr, putAll, wx, wy, wz, stV, seval, IntWalk.iteOmega, IntWalk.toNatUp, reduceCtorEq]
        refine st_call (c1) rfl (.inl rfl) ?_
        simp only [wx, wy, wz, stV, seval, IntWalk.iteOmega, IntWalk.toNatUp, reduceCtorEq]
        refine st_call (c2) rfl (.inl rfl) ?_
        simp only [hg, wx, wy, wz, stV, seval, IntWalk.iteOmega, IntWalk.toNatUp, reduceCtorEq]
        exact ret_d2 (by simp only [wx, wy, wz, stV, seval, IntWalk.iteOmega, IntWalk.toNatUp, reduceCtorEq]) (by simp only [wx, wy, wz, stV, seval, IntWalk.iteOmega, IntWalk.toNatUp, reduceCtorEq])
    · rw [if_pos rfl, if_neg k] at c1
      rw [decide_eq_false k, if_neg k]
      simp only [sf_eclr, putAll, wx, wy, wz, stV, seval, IntWalk.iteOmega, IntWalk.toNatUp, reduceCtorEq]
      refine st_call (c1) rfl (.inl rfl) ?_
      simp only [wx, wy, wz, stV, seval, IntWalk.iteOmega, IntWalk.toNatUp, reduceCtorEq]
      exact ret_d2 (by simp only [wx, wy, wz, stV, seval, IntWalk.iteOmega, IntWalk.toNatUp, reduceCtorEq]) (by simp only [wx, wy, wz, stV, seval, IntWalk.iteOmega, IntWalk.toNatUp, reduceCtorEq])
/-- What UTC shows, on the scale of ticks. -/
theorem utc_b {f : Int} {l : List Lp} {t : Int} (h : okB f l = true) : utcE f l t = if utcB f l t = true then 0 else 9 := by
  unfold utcE utcB
  rw [h, if_pos rfl, Bool.true_and]
end Go.Proofs.Ytjebhdadegfbdaa
set_option linter.unusedVariables false
set_option linter.unusedSimpArgs false
namespace Go.Proofs.Ytjebhdadegfbdaa
open Go.RowKit

/-! ### What the clock shows, from the first element on -/
/-- The offset of the last window that has ended. -/
def woN (f : Int) (l : List Lp) (t : Int) : Nat → Int
  | 0 => f
  | i + 1 => if winB (lpG l i) ≤ t then (lpG l i).2 else woN f l t i
theorem woN_s (f : Int) (l : List Lp) (t : Int) (i : Nat) : woN f l t (i + 1) = if winB (lpG l i) ≤ t then (lpG l i).2 else woN f l t i := rfl
theorem woN_in {f : Int} {l : List Lp} (h : okB f l = true) (t : Int) : ∀ i, i ≤ l.length → -64 ≤ woN f l t i ∧ woN f l t i ≤ 164
  | 0, _ => by have := (okB_iff.1 h).1; show -64 ≤ f ∧ f ≤ 164; omega
  | i + 1, hi => by
    have ih := woN_in h t i (by omega)
    have b := ok_el h (i := i) (by omega)
    rw [woN_s]; split <;> omega
def rsI (f : Int) (l : List Lp) (t : Int) (i : Nat) : Prop :=
  (woN f l t i = lastO f l i ∧ ∀ j, j + 1 = i → winB (lpG l j) ≤ t) ∨ (smN f l t = t - woN f l t i * 1048576 ∧ (i < l.length → t < winA (lastO f l i) (lpG l i)))
theorem rsI_0 (f : Int) (l : List Lp) (t : Int) : rsI f l t 0 := .inl ⟨rfl, fun j hj => by omega⟩
theorem rsI_s {f : Int} {l : List Lp} (h : okB f l = true) {t : Int} {i : Nat} (hi : i < l.length) (hI : rsI f l t i) (hn : ¬ (winA (lastO f l i) (lpG l i) ≤ t ∧ t < winB (lpG l i))) : rsI f l t (i + 1) := by
  have wi := win_nums h hi
  have nx : i + 1 < l.length → t < winA (lastO f l i) (lpG l i) → t < winA (lastO f l (i + 1)) (lpG l (i + 1)) := fun hlt ht => by
    have := win_next (okB_leap h) hlt
    show t < winA (lpG l i).2 (lpG l (i + 1))
    omega
  by_cases c : winB (lpG l i) ≤ t
  · left
    refine ⟨?_, fun j hj => ?_⟩
    · rw [woN_s, if_pos c]; rfl
    · obtain rfl : j = i := by omega
      exact c
  · have ht : t < winA (lastO f l i) (lpG l i) := by omega
    right
    rw [woN_s, if_neg c]
    refine ⟨?_, fun hlt => nx hlt ht⟩
    rcases hI with ⟨h1, h2⟩ | ⟨h1, h2⟩
    · rw [h1]
      rcases i with _ | m
      · exact sm_at3 fun _ => ht
      · exact sm_at1 (okB_leap h) (i := m) (by omega) (h2 m rfl) fun _ => ht
    · exact h1
theorem rsI_end {f : Int} {l : List Lp} (h : okB f l = true) {t : Int} {i : Nat} (hi : i = l.length) (hI : rsI f l t i) : smN f l t = t - woN f l t i * 1048576 := by
  rcases hI with ⟨h1, h2⟩ | ⟨h1, h2⟩
  · rw [h1]
    rcases i with _ | m
    · exact sm_at3 fun h0 => by omega
    · exact sm_at1 (okB_leap h) (i := m) (by omega) (h2 m rfl) fun h0 => by omega
  · exact h1
def rsSt (f : Int) (l : List Lp) (t : Int) (i : Nat) : St := ⟨ofL [(1, .w (.c (.d (.int .i64 t)))), (2, .w (.c (.rp [.int .i64 f, .sl (l.map spD)]))), (5, .w (.c (.d (.int .i64 (woN f l t i))))), (6, .w (.c (.d (.int .i64 (i : Int)))))], hL [], uL []⟩
/-! ### Search by halving -/
def lsP (f : Int) (l : List Lp) (s : Int) (m : Int) : Bool := decide (s ≤ smN f l m)
theorem ls_bis {f : Int} {l : List Lp} (h : okB f l = true) {s : Int} (h1 : 268435456 ≤ s) (h2 : s ≤ 144115188075855873) : bisV (lsP f l s) 134217728 288230376151711745 = lsN f l s := by
  have hb := bis_ok (P := lsP f l s) (lo := 134217728) (hi := 288230376151711745) (by decide) (fun a b _ hab _ ha => by
    have ha := of_decide_eq_true ha
    have := sm_mono (okB_leap h) hab
    exact decide_eq_true (by omega))
  obtain ⟨⟨b1, b2, b3, b4⟩, _⟩ := hb
  have r := ls_range h s
  refine least_uniq (P := lsP f l s) (lo := 134217728) (hi := 288230376151711745) b1 b2 b3 b4 (by omega) (by omega) (fun t _ ht => decide_eq_false fun k => ?_) fun _ => decide_eq_true ((ls_gal (okB_leap h) s _).2 (Int.le_refl _))
  have := (ls_gal (okB_leap h) s t).1 k
  omega
def leSt (f : Int) (l : List Lp) (s : Int) (k : Nat) : St := ⟨ofL [(1, .w (.c (.d (.int .i64 s)))), (2, .w (.c (.rp [.int .i64 f, .sl (l.map spD)]))), (5, .w (.c (.d (.int .i64 (bisK (lsP f l s) 134217728 288230376151711745 k).1)))), (6, .w (.c (.d (.int .i64 (bisK (lsP f l s) 134217728 288230376151711745 k).2))))], hL [], uL []⟩
end Go.Proofs.Ytjebhdadegfbdaa
set_option linter.unusedVariables false
set_option linter.unusedSimpArgs false
namespace Go.Proofs.Ytjebhdadegfbdaa
open Go.RowKit

/-! ### Within the range of what the functions take -/
theorem smv_at {f : Int} {l : List Lp} (h : okB f l = true) {t : Int} (h1 : 134217728 ≤ t) (h2 : t ≤ 288230376151711744) : smvV f l t = smN f l t ∧ smvE f l t = 0 := by
  have hb : smvB f l t = true := by unfold smvB; rw [h, decide_eq_true ⟨h1, h2⟩]; rfl
  refine ⟨if_pos hb, ?_⟩
  unfold smvE
  rw [if_pos h, if_pos ⟨h1, h2⟩]
theorem clr_at {f : Int} {l : List Lp} (h : okB f l = true) {t : Int} (h1 : 536870912 ≤ t) (h2 : t ≤ 144115187807420416) :
    clrLo f l (smN f l t) = lsN f l (smN f l t) ∧ clrHi f l (smN f l t) = lsN f l (smN f l t + 1) - 1 ∧ clrE f l (smN f l t) = 0 ∧ lsN f l (smN f l t) ≤ t ∧ t ≤ lsN f l (smN f l t + 1) - 1 ∧ lsN f l (smN f l t + 1) - 1 ≤ lsN f l (smN f l t) + 1 ∧ 268435456 ≤ smN f l t ∧ smN f l t ≤ 144115188075855872 := by
  have r := sm_range h t
  have g1 := (ls_gal (okB_leap h) (smN f l t) t).1 (Int.le_refl _)
  have g2 : t < lsN f l (smN f l t + 1) := by
    rcases Int.lt_or_le t (lsN f l (smN f l t + 1)) with k | k
    · exact k
    · have := (ls_gal (okB_leap h) _ _).2 k; omega
  have g3 := ls_two (okB_leap h) (smN f l t)
  have hn : clrN f l (smN f l t) = false := decide_eq_false (by omega)
  have hr : clrR f l (smN f l t) = true := by unfold clrR; rw [h, decide_eq_true (by omega)]; rfl
  have hb : clrB f l (smN f l t) = true := by unfold clrB; rw [hr, hn]; rfl
  refine ⟨if_pos hb, if_pos hb, ?_, g1, by omega, by omega, by omega, by omega⟩
  unfold clrE
  rw [if_pos h, if_pos (by omega), hn]; rfl
theorem er_at {f : Int} {l : List Lp} (h : okB f l = true) {t : Int} (h1 : 536870912 ≤ t) (h2 : t ≤ 144115187807420416) : errV f l t = smN f l t - utN f l t ∧ errE f l t = 0 := by
  obtain ⟨s, b, r1, r2, r3⟩ := rd_ex h (T := t / 1048576) (by omega) (by omega)
  have e := shw_is h r1
  have eu : utcB f l t = true := by unfold utcB; rw [h, e]; exact r1.sec
  have eb : smvB f l t = true := by unfold smvB; rw [h, decide_eq_true (by omega)]; rfl
  have ee := (smv_at h (t := t) (by omega) (by omega)).2
  have at1 := isR_at h r1
  have eo := u_off (okB_leap h) at1.1 at1.2
  have tt := r1.tai
  unfold taiS taiN at tt
  constructor
  · unfold errV errB
    rw [eb, eu, Bool.true_and, if_pos rfl, e, eo]
    simp only
    omega
  · unfold errE
    rw [if_pos ee, eu]; rfl
end Go.Proofs.Ytjebhdadegfbdaa
set_option linter.unusedVariables false
set_option linter.unusedSimpArgs false
namespace Go.Proofs.Ytjebhdadegfbdaa
open Go.RowKit

theorem fl_spB (p : Spn) (b : Bool) : V.flat (.tup [.c (.d (spD p)), .c (.d (.bool b))]) = true := rfl
theorem com_one {A B C : Spn} {t : Int} (hA : okP A = true) (hB : okP B = true) (hC : okP (t, t) = true) (hc : C = (t, t)) (h1 : inS t A) (h2 : inS t B) : comL [A, B, C] = some (t, t) := by
  subst hc
  refine com_is (by simp) (fun q hq => ?_) (Int.le_refl _) (fun s => ⟨fun hs q hq => ?_, fun hs => hs (t, t) (by simp)⟩)
  · rcases List.mem_cons.1 hq with rfl | hq
    · exact hA
    · rcases List.mem_cons.1 hq with rfl | hq
      · exact hB
      · rcases List.mem_cons.1 hq with rfl | hq
        · exact hC
        · cases hq
  · have hst : s = t := by unfold inS at hs; simp only at hs; omega
    subst hst
    rcases List.mem_cons.1 hq with rfl | hq
    · exact h1
    · rcases List.mem_cons.1 hq with rfl | hq
      · exact h2
      · rcases List.mem_cons.1 hq with rfl | hq
        · exact hs
        · cases hq
def sf_ksca15 : SFn := ⟨4, 132,
  .seq (.reg [⟨(some 8), .mv (.k (.c (.d (.bool false)))), none⟩])
  (.seq (.reg [⟨(some 25), .mv (.t 0), none⟩,
    ⟨(some 26), .call 30 [(.t 25)] none, none⟩,
    ⟨(some 9), .alloc [(.d (.int .i64 0)), .nil], none⟩,
    ⟨none, .store (.ag 2) (.t 9) (.t 26), none⟩])
  (.seq (.reg [⟨(some 27), .load (.ag 2) (.t 9), none⟩,
    ⟨(some 28), .mv (.t 1), none⟩,
    ⟨(some 29), .call 31 [(.t 27), (.t 28)] none, none⟩,
    ⟨(some 10), .mv (.t 29), none⟩])
  (.seq (.reg [⟨(some 31), .load (.ag 2) (.t 9), none⟩,
    ⟨(some 32), .mv (.t 10), none⟩,
    ⟨(some 33), .call 32 [(.t 31), (.t 32)] none, none⟩,
    ⟨(some 30), .mv (.t 33), none⟩,
    ⟨(some 34), .extract (.t 30) 0, none⟩,
    ⟨(some 35), .extract (.t 30) 1, none⟩,
    ⟨(some 11), .alloc [(.d (.int .i64 0)), (.d (.bool false)), (.d (.int .i64 0))], none⟩,
    ⟨none, .store (.ag 3) (.t 11) (.t 34), none⟩,
    ⟨(some 12), .mv (.t 35), none⟩])
  (.seq (.reg [⟨(some 37), .load (.ag 2) (.t 9), none⟩,
    ⟨(some 38), .fieldAddr 0 (.t 11), none⟩,
    ⟨(some 39), .load .sc (.t 38), none⟩,
    ⟨(some 40), .fieldAddr 2 (.t 11), none⟩,
    ⟨(some 41), .load .sc (.t 40), none⟩,
    ⟨(some 42), .call 33 [(.t 37), (.t 39), (.t 41)] none, none⟩,
    ⟨(some 36), .mv (.t 42), none⟩,
    ⟨(some 43), .extract (.t 36) 0, none⟩,
    ⟨(some 44), .extract (.t 36) 1, none⟩,
    ⟨(some 13), .alloc [(.d (.int .i64 0)), (.d (.int .i64 0))], none⟩,
    ⟨none, .store (.ag 2) (.t 13) (.t 43), none⟩,
    ⟨(some 14), .mv (.t 44), none⟩])
  (.seq (.reg [⟨(some 46), .load (.ag 2) (.t 9), none⟩,
    ⟨(some 47), .mv (.t 10), none⟩,
    ⟨(some 48), .call 34 [(.t 46), (.t 47)] none, none⟩,
    ⟨(some 45), .mv (.t 48), none⟩,
    ⟨(some 49), .extract (.t 45) 0, none⟩,
    ⟨(some 50), .extract (.t 45) 1, none⟩,
    ⟨(some 15), .mv (.t 49), none⟩,
    ⟨(some 16), .mv (.t 50), none⟩])
  (.seq (.reg [⟨(some 52), .load (.ag 2) (.t 9), none⟩,
    ⟨(some 53), .mv (.t 15), none⟩,
    ⟨(some 54), .call 35 [(.t 52), (.t 53)] none, none⟩,
    ⟨(some 51), .mv (.t 54), none⟩,
    ⟨(some 55), .extract (.t 51) 0, none⟩,
    ⟨(some 56), .extract (.t 51) 1, none⟩,
    ⟨(some 17), .alloc [(.d (.int .i64 0)), (.d (.int .i64 0))], none⟩,
    ⟨none, .store (.ag 2) (.t 17) (.t 55), none⟩,
    ⟨(some 18), .mv (.t 56), none⟩])
  (.seq (.reg [⟨(some 58), .mv (.t 10), none⟩,
    ⟨(some 59), .call 36 [(.t 58)] none, none⟩,
    ⟨(some 57), .mv (.t 59), none⟩,
    ⟨(some 60), .extract (.t 57) 0, none⟩,
    ⟨(some 61), .extract (.t 57) 1, none⟩,
    ⟨(some 19), .mv (.t 60), none⟩,
    ⟨(some 20), .mv (.t 61), none⟩])
  (.seq (.reg [⟨(some 63), .mv (.t 10), none⟩,
    ⟨(some 64), .mv (.t 2), none⟩,
    ⟨(some 65), .call 25 [(.t 64), (.k (.c (.d (.int .i64 2251799813685246))))] none, none⟩,
    ⟨(some 66), .bin .sub (.t 63) (.t 65), none⟩,
    ⟨(some 67), .mv (.t 10), none⟩,
    ⟨(some 68), .mv (.t 3), none⟩,
    ⟨(some 69), .call 25 [(.t 68), (.k (.c (.d (.int .i64 2251799813685246))))] none, none⟩,
    ⟨(some 70), .bin .add (.t 67) (.t 69), none⟩,
    ⟨(some 71), .build [(.d (.int .i64 0)), (.d (.int .i64 0))] [(0, 1, (.t 66)), (1, 1, (.t 70))], none⟩,
    ⟨(some 72), .mv (.t 19), none⟩,
    ⟨(some 73), .call 37 [(.t 71), (.t 72)] none, none⟩,
    ⟨(some 62), .mv (.t 73), none⟩,
    ⟨(some 74), .extract (.t 62) 0, none⟩,
    ⟨(some 75), .extract (.t 62) 1, none⟩,
    ⟨(some 21), .alloc [(.d (.int .i64 0)), (.d (.int .i64 0))], none⟩,
    ⟨none, .store (.ag 2) (.t 21) (.t 74), none⟩,
    ⟨(some 22), .mv (.t 75), none⟩])
  (.seq (.seq (.reg [⟨(some 76), .mv (.t 12), none⟩,
    ⟨(some 77), .bin .neq (.t 76) (.k (.c (.d (.int .i64 0)))), none⟩,
    ⟨(some 78), .mv (.t 77), none⟩,
    ⟨(some 79), .mv (.t 14), (some (78, false))⟩,
    ⟨(some 80), .bin .neq (.t 79) (.k (.c (.d (.int .i64 0)))), (some (78, false))⟩,
    ⟨(some 81), .pick (.t 78) (.k (.c (.d (.bool true)))) (.t 80), none⟩,
    ⟨(some 82), .mv (.t 81), none⟩,
    ⟨(some 83), .mv (.t 16), (some (82, false))⟩,
    ⟨(some 84), .bin .neq (.t 83) (.k (.c (.d (.int .i64 0)))), (some (82, false))⟩,
    ⟨(some 85), .pick (.t 82) (.k (.c (.d (.bool true)))) (.t 84), none⟩,
    ⟨(some 86), .mv (.t 85), none⟩,
    ⟨(some 87), .mv (.t 18), (some (86, false))⟩,
    ⟨(some 88), .bin .neq (.t 87) (.k (.c (.d (.int .i64 0)))), (some (86, false))⟩,
    ⟨(some 89), .pick (.t 86) (.k (.c (.d (.bool true)))) (.t 88), none⟩,
    ⟨(some 90), .mv (.t 89), none⟩,
    ⟨(some 91), .mv (.t 20), (some (90, false))⟩,
    ⟨(some 92), .bin .neq (.t 91) (.k (.c (.d (.int .i64 0)))), (some (90, false))⟩,
    ⟨(some 93), .pick (.t 90) (.k (.c (.d (.bool true)))) (.t 92), none⟩,
    ⟨(some 94), .mv (.t 93), none⟩,
    ⟨(some 95), .mv (.t 22), (some (94, false))⟩,
    ⟨(some 96), .bin .neq (.t 95) (.k (.c (.d (.int .i64 0)))), (some (94, false))⟩,
    ⟨(some 97), .pick (.t 94) (.k (.c (.d (.bool true)))) (.t 96), none⟩])
  (.cond (.t 97) (.seq (.reg [⟨(some 8), .mv (.k (.c (.d (.bool false)))), none⟩])
   (.ret))
   (.skip)))
  (.seq (.reg [⟨(some 99), .load (.ag 2) (.t 13), none⟩,
    ⟨(some 100), .load (.ag 2) (.t 17), none⟩,
    ⟨(some 101), .load (.ag 2) (.t 21), none⟩,
    ⟨(some 102), .bldSl false 3 2 (.agg [(.int .i64 0), (.int .i64 0)]) [(0, (.t 99)), (1, (.t 100)), (2, (.t 101))], none⟩,
    ⟨(some 103), .call 38 [(.t 102)] none, none⟩,
    ⟨(some 98), .mv (.t 103), none⟩,
    ⟨(some 104), .extract (.t 98) 0, none⟩,
    ⟨(some 105), .extract (.t 98) 1, none⟩,
    ⟨(some 23), .alloc [(.d (.int .i64 0)), (.d (.int .i64 0))], none⟩,
    ⟨none, .store (.ag 2) (.t 23) (.t 104), none⟩,
    ⟨(some 24), .mv (.t 105), none⟩])
  (.seq (.reg [⟨(some 106), .call 39 [] none, none⟩,
    ⟨(some 107), .mv (.t 106), none⟩,
    ⟨(some 108), .load (.ag 2) (.t 13), (some (107, true))⟩,
    ⟨(some 109), .mv (.t 10), (some (107, true))⟩,
    ⟨(some 110), .call 28 [(.t 108), (.t 109)] none, (some (107, true))⟩,
    ⟨(some 111), .pick (.t 107) (.t 110) (.k (.c (.d (.bool false)))), none⟩,
    ⟨(some 112), .mv (.t 111), none⟩,
    ⟨(some 113), .load (.ag 2) (.t 17), (some (112, true))⟩,
    ⟨(some 114), .mv (.t 10), (some (112, true))⟩,
    ⟨(some 115), .call 28 [(.t 113), (.t 114)] none, (some (112, true))⟩,
    ⟨(some 116), .pick (.t 112) (.t 115) (.k (.c (.d (.bool false)))), none⟩,
    ⟨(some 117), .mv (.t 116), none⟩,
    ⟨(some 118), .load (.ag 2) (.t 21), (some (117, true))⟩,
    ⟨(some 119), .mv (.t 10), (some (117, true))⟩,
    ⟨(some 120), .call 28 [(.t 118), (.t 119)] none, (some (117, true))⟩,
    ⟨(some 121), .pick (.t 117) (.t 120) (.k (.c (.d (.bool false)))), none⟩,
    ⟨(some 122), .mv (.t 121), none⟩,
    ⟨(some 123), .mv (.t 24), (some (122, true))⟩,
    ⟨(some 124), .pick (.t 122) (.t 123) (.k (.c (.d (.bool false)))), none⟩,
    ⟨(some 125), .mv (.t 124), none⟩,
    ⟨(some 126), .load (.ag 2) (.t 23), (some (125, true))⟩,
    ⟨(some 127), .mv (.t 10), (some (125, true))⟩,
    ⟨(some 128), .mv (.t 10), (some (125, true))⟩,
    ⟨(some 129), .build [(.d (.int .i64 0)), (.d (.int .i64 0))] [(0, 1, (.t 127)), (1, 1, (.t 128))], (some (125, true))⟩,
    ⟨(some 130), .eqA false [0, 0] (.t 126) (.t 129), (some (125, true))⟩,
    ⟨(some 131), .pick (.t 125) (.t 130) (.k (.c (.d (.bool false)))), none⟩,
    ⟨(some 8), .mv (.t 131), none⟩])
  (.ret)))))))))))),
  [(8, none)]⟩
theorem cf_ksca15 : compFn Try.prog { own := [], comp := [], frz := [], nils := [] } Try.f9 = some sf_ksca15 := by kernel_rfl
set_option maxHeartbeats 1600000 in
theorem ksca15_c (G : Glob) (table : List Int) (htable1 : table.length ≤ maxLen) (htable2 : ∀ n ∈ table, fitI n) (v : Int) (hv1 : -9223372036854775808 ≤ v) (hv2 : v ≤ 9223372036854775807) (before : Int) (hbefore1 : -9223372036854775808 ≤ before) (hbefore2 : before ≤ 9223372036854775807) (behind : Int) (hbehind1 : -9223372036854775808 ≤ behind) (hbehind2 : behind ≤ 9223372036854775807)  : Den Try.prog G 9 [.sl (table.map zD), .int .i64 v, .int .i64 before, .int .i64 behind] (.w (.c (.d (.bool true)))) := by
  refine den_walk Try.func9 cf_ksca15 rfl rfl ?_
  have hm : maxLen ≤ 9223372036854775807 := by decide
  have len := wl_len table
  have ok := wlT_ok table
  have eb := wl_el table
  have cw := wleap_c G table (by omega)
  have cn := wnear_c G 10 (wlT table) v (by omega) eb hv1 hv2
  have nb := nlN_in eb v
  generalize nlN (wlT table) v = t at *
  generalize wlT table = L at *
  have hL : L.length ≤ 9223372036854775807 := by omega
  have lk := okB_leap ok
  have b1 := withinN_range before 2251799813685246 (by decide)
  have b2 := withinN_range behind 2251799813685246 (by decide)
  have k1 := within_c G before 2251799813685246 (by decide)
  have k2 := within_c G behind 2251799813685246 (by decide)
  generalize withinN before 2251799813685246 = V1 at *
  generalize withinN behind 2251799813685246 = V2 at *
  have c1 := lutc_c G 10 L t hL (by omega) (by omega)
  obtain ⟨s, b, r1, r2, r3⟩ := rd_ex ok (T := t / 1048576) (by omega) (by omega)
  obtain ⟨e1, e2, e3, e4⟩ := utc_of ok r1
  rw [e1, e2, e3, e4] at c1
  have tk : tikIn (t % 1048576) = true := decide_eq_true (by omega)
  obtain ⟨n1, n2⟩ := none_ff r1.some
  have nf : noneB 10 L s false = false := none_f (fun h => nomatch h) n2
  have tb : taiB 10 L s false (t % 1048576) = true := by unfold taiB; rw [ok, r1.sec, tk, nf]; rfl
  have te : taiE 10 L s false (t % 1048576) = 0 := by unfold taiE; rw [ok, r1.sec, tk, nf]; rfl
  have c2 := lnum_c G 10 L s (t % 1048576) hL
  have tv : taiV 10 L s false (t % 1048576) = taiN 10 L s * 1048576 + t % 1048576 := by unfold taiV taiS bI; rw [tb]; simp
  have th : numHi 10 L s (t % 1048576) = (taiN 10 L s + (if stpN 10 L s = 1 then 1 else 0)) * 1048576 + t % 1048576 := by unfold numHi; rw [tb]; rfl
  rw [te, tv, th] at c2
  have hT := r1.tai
  unfold taiS at hT
  have hlo : taiN 10 L s * 1048576 + t % 1048576 ≤ t ∧ t - 1048576 ≤ taiN 10 L s * 1048576 + t % 1048576 := by
    cases b
    · rw [show bI false = 0 from rfl] at hT; omega
    · rw [show bI true = 1 from rfl] at hT; omega
  have hhi : t ≤ (taiN 10 L s + (if stpN 10 L s = 1 then 1 else 0)) * 1048576 + t % 1048576 ∧ (taiN 10 L s + (if stpN 10 L s = 1 then 1 else 0)) * 1048576 + t % 1048576 ≤ t + 1048576 := by
    cases b
    · rw [show bI false = 0 from rfl] at hT; split <;> omega
    · rw [show bI true = 1 from rfl] at hT; rw [if_pos (n1 rfl)]; omega
  generalize (taiN 10 L s + (if stpN 10 L s = 1 then 1 else 0)) * 1048576 + t % 1048576 = HI at *
  generalize taiN 10 L s * 1048576 + t % 1048576 = LO at *
  have c3 := esme_c G 10 L t hL
  obtain ⟨v1, v2⟩ := smv_at ok (t := t) (by omega) (by omega)
  obtain ⟨m1, m2, m3, m4, m5, m6, m7, m8⟩ := clr_at ok (t := t) (by omega) (by omega)
  rw [v1, v2] at c3
  have c4 := eclr_c G 10 L (smN 10 L t) hL
  rw [m1, m2, m3] at c4
  clear v1 v2 m1 m2 m3
  generalize lsN 10 L (smN 10 L t) = A at *
  generalize lsN 10 L (smN 10 L t + 1) - 1 = B at *
  generalize smN 10 L t = S at *
  have c5 := wir_c G t (by omega) (by omega)
  obtain ⟨w1, w2⟩ := wir_at (t := t) (by omega)
  rw [w1, w2] at c5
  have c6 := gonl_c G (t - V1) (t + V2) (t % 4503599627370496 * 4096) (by omega) (by omega)
  rw [wir_dn, wir_up] at c6
  obtain ⟨o1, o2, o3⟩ := onl_at (t := t) (lo := t - V1) (hi := t + V2) (by omega) (by omega) (by omega) (by omega) (by omega)
  have o4 : onlB (t % 4503599627370496) (t % 4503599627370496) (t - V1) (t + V2) = true := by unfold onlB; rw [o1, o2]; rfl
  have o5 : onlE (t % 4503599627370496) (t % 4503599627370496) (t - V1) (t + V2) = 0 := by unfold onlE; rw [o1, o2]; rfl
  rw [o3, o4, o5, spA_t] at c6
  clear o1 o2 o3 o4 o5 w1 w2
  generalize t % 4503599627370496 * 4096 = W at *
  have hok1 : okP (LO, HI) = true := okP_d ⟨by omega, by omega, by omega⟩
  have hok2 : okP (A, B) = true := okP_d ⟨by omega, by omega, by omega⟩
  have hok3 : okP (t, t) = true := okP_d ⟨by omega, by omega, by omega⟩
  have c7 := icom_c G [(LO, HI), (A, B), (t, t)] (by simp)
  rw [com_one hok1 hok2 hok3 rfl ⟨hlo.1, hhi.1⟩ ⟨m4, m5⟩] at c7
  simp only [List.map_cons, List.map_nil, cmV, Option.getD_some, Option.isSome_some] at c7
  have c8 := rhld_c G LO HI t
  rw [hld_t hok1 hlo.1 hhi.1] at c8
  have c9 := rhld_c G A B t
  rw [hld_t hok2 m4 m5] at c9
  have c10 := rhld_c G t t t
  rw [hld_t hok3 (Int.le_refl _) (Int.le_refl _)] at c10
  unfold lpD at cw cn c1 c2 c3 c4
  unfold spV at c4
  clear e1 e2 e3 e4 n1 n2 nf tb te tv th r1 tk hT
  generalize t % 1048576 = K at *
  simp only [sf_ksca15, putAll, wx, wy, wz, stV, seval, IntWalk.iteOmega, IntWalk.toNatUp, reduceCtorEq]
  refine st_call (cw) rfl (.inl rfl) ?_
  simp only [wx, wy, wz, stV, seval, IntWalk.iteOmega, IntWalk.toNatUp, reduceCtorEq]
  refine st_call (cn) rfl (.inl rfl) ?_
  simp only [wx, wy, wz, stV, seval, IntWalk.iteOmega, IntWalk.toNatUp, reduceCtorEq]
  refine st_call (c1) rfl (.inl rfl) ?_
  simp only [wx, wy, wz, stV, seval, IntWalk.iteOmega, IntWalk.toNatUp, reduceCtorEq]
  refine st_call (c2) rfl (.inl rfl) ?_
  simp only [wx, wy, wz, stV, seval, IntWalk.iteOmega, IntWalk.toNatUp, reduceCtorEq]
  refine st_call (c3) rfl (.inl rfl) ?_
  simp only [wx, wy, wz, stV, seval, IntWalk.iteOmega, IntWalk.toNatUp, reduceCtorEq]
  refine st_call (c4) rfl (.inl rfl) ?_
  simp only [wx, wy, wz, stV, seval, IntWalk.iteOmega, IntWalk.toNatUp, reduceCtorEq]
  refine st_call (c5) rfl (.inl rfl) ?_
  simp only [wx, wy, wz, stV, seval, IntWalk.iteOmega, IntWalk.toNatUp, reduceCtorEq]
  refine st_call (k1) rfl (.inl rfl) ?_
  simp only [wx, wy, wz, stV, seval, IntWalk.iteOmega, IntWalk.toNatUp, reduceCtorEq]
  refine st_call (k2) rfl (.inl rfl) ?_
  simp only [wx, wy, wz, stV, seval, IntWalk.iteOmega, IntWalk.toNatUp, reduceCtorEq]
  refine st_call (c6) rfl (.inl rfl) ?_
  simp only [wx, wy, wz, stV, seval, IntWalk.iteOmega, IntWalk.toNatUp, reduceCtorEq]
  refine st_call c7 (by simp only [wx, wy, wz, stV, seval, IntWalk.iteOmega, IntWalk.toNatUp, reduceCtorEq, spD]) (.inr (fl_spB _ _)) ?_
  simp only [wx, wy, wz, stV, seval, IntWalk.iteOmega, IntWalk.toNatUp, reduceCtorEq, spD]
  refine st_call (roused15_c G) rfl (.inl rfl) ?_
  simp only [wx, wy, wz, stV, seval, IntWalk.iteOmega, IntWalk.toNatUp, reduceCtorEq]
  refine st_call (c8) rfl (.inl rfl) ?_
  simp only [wx, wy, wz, stV, seval, IntWalk.iteOmega, IntWalk.toNatUp, reduceCtorEq]
  refine st_call (c9) rfl (.inl rfl) ?_
  simp only [wx, wy, wz, stV, seval, IntWalk.iteOmega, IntWalk.toNatUp, reduceCtorEq]
  refine st_call (c10) rfl (.inl rfl) ?_
  simp only [wx, wy, wz, stV, seval, IntWalk.iteOmega, IntWalk.toNatUp, reduceCtorEq]
  exact ret_d1 (by simp only [wx, wy, wz, stV, seval, IntWalk.iteOmega, IntWalk.toNatUp, reduceCtorEq])
def sf_ksms15 : SFn := ⟨3, 87,
  .seq (.reg [⟨(some 6), .mv (.k (.c (.d (.bool false)))), none⟩])
  (.seq (.reg [⟨(some 19), .mv (.t 0), none⟩,
    ⟨(some 20), .call 30 [(.t 19)] none, none⟩,
    ⟨(some 7), .alloc [(.d (.int .i64 0)), .nil], none⟩,
    ⟨none, .store (.ag 2) (.t 7) (.t 20), none⟩])
  (.seq (.reg [⟨(some 21), .load (.ag 2) (.t 7), none⟩,
    ⟨(some 22), .mv (.t 1), none⟩,
    ⟨(some 23), .call 31 [(.t 21), (.t 22)] none, none⟩,
    ⟨(some 8), .mv (.t 23), none⟩])
  (.seq (.reg [⟨(some 24), .mv (.t 2), none⟩,
    ⟨(some 25), .call 25 [(.t 24), (.k (.c (.d (.int .i64 104857600))))] none, none⟩,
    ⟨(some 2), .mv (.t 25), none⟩])
  (.seq (.reg [⟨(some 27), .load (.ag 2) (.t 7), none⟩,
    ⟨(some 28), .mv (.t 8), none⟩,
    ⟨(some 29), .call 34 [(.t 27), (.t 28)] none, none⟩,
    ⟨(some 26), .mv (.t 29), none⟩,
    ⟨(some 30), .extract (.t 26) 0, none⟩,
    ⟨(some 31), .extract (.t 26) 1, none⟩,
    ⟨(some 9), .mv (.t 30), none⟩,
    ⟨(some 10), .mv (.t 31), none⟩])
  (.seq (.reg [⟨(some 33), .load (.ag 2) (.t 7), none⟩,
    ⟨(some 34), .mv (.t 8), none⟩,
    ⟨(some 35), .mv (.t 2), none⟩,
    ⟨(some 36), .bin .add (.t 34) (.t 35), none⟩,
    ⟨(some 37), .call 34 [(.t 33), (.t 36)] none, none⟩,
    ⟨(some 32), .mv (.t 37), none⟩,
    ⟨(some 38), .extract (.t 32) 0, none⟩,
    ⟨(some 39), .extract (.t 32) 1, none⟩,
    ⟨(some 11), .mv (.t 38), none⟩,
    ⟨(some 12), .mv (.t 39), none⟩])
  (.seq (.reg [⟨(some 41), .load (.ag 2) (.t 7), none⟩,
    ⟨(some 42), .mv (.t 9), none⟩,
    ⟨(some 43), .call 35 [(.t 41), (.t 42)] none, none⟩,
    ⟨(some 40), .mv (.t 43), none⟩,
    ⟨(some 44), .extract (.t 40) 0, none⟩,
    ⟨(some 45), .extract (.t 40) 1, none⟩,
    ⟨(some 13), .alloc [(.d (.int .i64 0)), (.d (.int .i64 0))], none⟩,
    ⟨none, .store (.ag 2) (.t 13) (.t 44), none⟩,
    ⟨(some 14), .mv (.t 45), none⟩])
  (.seq (.reg [⟨(some 47), .load (.ag 2) (.t 7), none⟩,
    ⟨(some 48), .mv (.t 11), none⟩,
    ⟨(some 49), .call 35 [(.t 47), (.t 48)] none, none⟩,
    ⟨(some 46), .mv (.t 49), none⟩,
    ⟨(some 50), .extract (.t 46) 0, none⟩,
    ⟨(some 51), .extract (.t 46) 1, none⟩,
    ⟨(some 15), .alloc [(.d (.int .i64 0)), (.d (.int .i64 0))], none⟩,
    ⟨none, .store (.ag 2) (.t 15) (.t 50), none⟩,
    ⟨(some 16), .mv (.t 51), none⟩])
  (.seq (.seq (.reg [⟨(some 52), .mv (.t 10), none⟩,
    ⟨(some 53), .bin .neq (.t 52) (.k (.c (.d (.int .i64 0)))), none⟩,
    ⟨(some 54), .mv (.t 53), none⟩,
    ⟨(some 55), .mv (.t 12), (some (54, false))⟩,
    ⟨(some 56), .bin .neq (.t 55) (.k (.c (.d (.int .i64 0)))), (some (54, false))⟩,
    ⟨(some 57), .pick (.t 54) (.k (.c (.d (.bool true)))) (.t 56), none⟩,
    ⟨(some 58), .mv (.t 57), none⟩,
    ⟨(some 59), .mv (.t 14), (some (58, false))⟩,
    ⟨(some 60), .bin .neq (.t 59) (.k (.c (.d (.int .i64 0)))), (some (58, false))⟩,
    ⟨(some 61), .pick (.t 58) (.k (.c (.d (.bool true)))) (.t 60), none⟩,
    ⟨(some 62), .mv (.t 61), none⟩,
    ⟨(some 63), .mv (.t 16), (some (62, false))⟩,
    ⟨(some 64), .bin .neq (.t 63) (.k (.c (.d (.int .i64 0)))), (some (62, false))⟩,
    ⟨(some 65), .pick (.t 62) (.k (.c (.d (.bool true)))) (.t 64), none⟩])
  (.cond (.t 65) (.seq (.reg [⟨(some 6), .mv (.k (.c (.d (.bool false)))), none⟩])
   (.ret))
   (.skip)))
  (.seq (.reg [⟨(some 67), .load (.ag 2) (.t 15), none⟩,
    ⟨(some 68), .load (.ag 2) (.t 13), none⟩,
    ⟨(some 69), .call 40 [(.t 67), (.t 68)] none, none⟩,
    ⟨(some 66), .mv (.t 69), none⟩,
    ⟨(some 70), .extract (.t 66) 0, none⟩,
    ⟨(some 71), .extract (.t 66) 1, none⟩,
    ⟨(some 17), .alloc [(.d (.int .i64 0)), (.d (.int .i64 0))], none⟩,
    ⟨none, .store (.ag 2) (.t 17) (.t 70), none⟩,
    ⟨(some 18), .mv (.t 71), none⟩])
  (.seq (.reg [⟨(some 72), .call 39 [] none, none⟩,
    ⟨(some 73), .mv (.t 72), none⟩,
    ⟨(some 74), .mv (.t 18), (some (73, true))⟩,
    ⟨(some 75), .bin .eql (.t 74) (.k (.c (.d (.int .i64 0)))), (some (73, true))⟩,
    ⟨(some 76), .pick (.t 73) (.t 75) (.k (.c (.d (.bool false)))), none⟩,
    ⟨(some 77), .mv (.t 76), none⟩,
    ⟨(some 78), .load (.ag 2) (.t 17), (some (77, true))⟩,
    ⟨(some 79), .mv (.t 2), (some (77, true))⟩,
    ⟨(some 80), .call 41 [(.t 78), (.t 79)] none, (some (77, true))⟩,
    ⟨(some 81), .pick (.t 77) (.t 80) (.k (.c (.d (.bool false)))), none⟩,
    ⟨(some 82), .mv (.t 81), none⟩,
    ⟨(some 83), .load (.ag 2) (.t 17), (some (82, true))⟩,
    ⟨(some 84), .call 42 [(.t 83)] none, (some (82, true))⟩,
    ⟨(some 85), .bin .leq (.t 84) (.k (.c (.d (.int .i64 2)))), (some (82, true))⟩,
    ⟨(some 86), .pick (.t 82) (.t 85) (.k (.c (.d (.bool false)))), none⟩,
    ⟨(some 6), .mv (.t 86), none⟩])
  (.ret))))))))))),
  [(6, none)]⟩
theorem cf_ksms15 : compFn Try.prog { own := [], comp := [], frz := [], nils := [] } Try.f10 = some sf_ksms15 := by kernel_rfl
set_option maxHeartbeats 1600000 in
theorem ksms15_c (G : Glob) (table : List Int) (htable1 : table.length ≤ maxLen) (htable2 : ∀ n ∈ table, fitI n) (v : Int) (hv1 : -9223372036854775808 ≤ v) (hv2 : v ≤ 9223372036854775807) (wait : Int) (hwait1 : -9223372036854775808 ≤ wait) (hwait2 : wait ≤ 9223372036854775807)  : Den Try.prog G 10 [.sl (table.map zD), .int .i64 v, .int .i64 wait] (.w (.c (.d (.bool true)))) := by
  refine den_walk Try.func10 cf_ksms15 rfl rfl ?_
  have hm : maxLen ≤ 9223372036854775807 := by decide
  have len := wl_len table
  have ok := wlT_ok table
  have eb := wl_el table
  have cw := wleap_c G table (by omega)
  have cn := wnear_c G 10 (wlT table) v (by omega) eb hv1 hv2
  have nb := nlN_in eb v
  generalize nlN (wlT table) v = t at *
  generalize wlT table = L at *
  have hL : L.length ≤ 9223372036854775807 := by omega
  have lk := okB_leap ok
  have b1 := withinN_range wait 104857600 (by decide)
  have k1 := within_c G wait 104857600 (by decide)
  generalize withinN wait 104857600 = V1 at *
  have c1 := esme_c G 10 L t hL
  obtain ⟨v1, v2⟩ := smv_at ok (t := t) (by omega) (by omega)
  obtain ⟨m1, m2, m3, m4, m5, m6, m7, m8⟩ := clr_at ok (t := t) (by omega) (by omega)
  rw [v1, v2] at c1
  have c2 := esme_c G 10 L (t + V1) hL
  obtain ⟨u1, u2⟩ := smv_at ok (t := t + V1) (by omega) (by omega)
  obtain ⟨p1, p2, p3, p4, p5, p6, p7, p8⟩ := clr_at ok (t := t + V1) (by omega) (by omega)
  rw [u1, u2] at c2
  have c3 := eclr_c G 10 L (smN 10 L t) hL
  rw [m1, m2, m3] at c3
  have c4 := eclr_c G 10 L (smN 10 L (t + V1)) hL
  rw [p1, p2, p3] at c4
  clear v1 v2 u1 u2 m1 m2 m3 p1 p2 p3
  generalize lsN 10 L (smN 10 L t) = A at *
  generalize lsN 10 L (smN 10 L t + 1) - 1 = B at *
  generalize smN 10 L t = S at *
  generalize lsN 10 L (smN 10 L (t + V1)) = A2 at *
  generalize lsN 10 L (smN 10 L (t + V1) + 1) - 1 = B2 at *
  generalize smN 10 L (t + V1) = S2 at *
  have hok1 : okP (A, B) = true := okP_d ⟨by omega, by omega, by omega⟩
  have hok2 : okP (A2, B2) = true := okP_d ⟨by omega, by omega, by omega⟩
  have hok3 : okP (A2 - B, B2 - A) = true := okP_d ⟨by omega, by omega, by omega⟩
  have c5 := isbs_c G A2 B2 A B
  rw [show smsB A2 B2 A B (A2 - B) (B2 - A) = true by unfold smsB; rw [hok1, hok2, hok3]; rfl, show sumE A2 B2 A B (A2 - B) (B2 - A) = 0 by unfold sumE; rw [hok1, hok2, hok3]; rfl, spA_t] at c5
  have c6 := ihld_c G (A2 - B) (B2 - A) V1
  rw [hld_t hok3 (by omega) (by omega)] at c6
  have c7 := iwid_c G (A2 - B) (B2 - A)
  rw [show widV (A2 - B) (B2 - A) = B2 - A - (A2 - B) from if_pos hok3] at c7
  have g1 : B2 - A - (A2 - B) ≤ 2 := by omega
  unfold lpD at cw cn c1 c2 c3 c4
  unfold spV at c3 c4
  generalize hx : A2 - B = x at *
  generalize hy : B2 - A = y at *
  simp only [sf_ksms15, putAll, wx, wy, wz, stV, seval, IntWalk.iteOmega, IntWalk.toNatUp, reduceCtorEq]
  refine st_call (cw) rfl (.inl rfl) ?_
  simp only [wx, wy, wz, stV, seval, IntWalk.iteOmega, IntWalk.toNatUp, reduceCtorEq]
  refine st_call (cn) rfl (.inl rfl) ?_
  simp only [wx, wy, wz, stV, seval, IntWalk.iteOmega, IntWalk.toNatUp, reduceCtorEq]
  refine st_call (k1) rfl (.inl rfl) ?_
  simp only [wx, wy, wz, stV, seval, IntWalk.iteOmega, IntWalk.toNatUp, reduceCtorEq]
  refine st_call (c1) rfl (.inl rfl) ?_
  simp only [wx, wy, wz, stV, seval, IntWalk.iteOmega, IntWalk.toNatUp, reduceCtorEq]
  refine st_call (c2) rfl (.inl rfl) ?_
  simp only [wx, wy, wz, stV, seval, IntWalk.iteOmega, IntWalk.toNatUp, reduceCtorEq]
  refine st_call (c3) rfl (.inl rfl) ?_
  simp only [wx, wy, wz, stV, seval, IntWalk.iteOmega, IntWalk.toNatUp, reduceCtorEq]
  refine st_call (c4) rfl (.inl rfl) ?_
  simp only [wx, wy, wz, stV, seval, IntWalk.iteOmega, IntWalk.toNatUp, reduceCtorEq]
  refine st_call (c5) rfl (.inl rfl) ?_
  simp only [wx, wy, wz, stV, seval, IntWalk.iteOmega, IntWalk.toNatUp, reduceCtorEq]
  refine st_call (roused15_c G) rfl (.inl rfl) ?_
  simp only [wx, wy, wz, stV, seval, IntWalk.iteOmega, IntWalk.toNatUp, reduceCtorEq]
  refine st_call (c6) rfl (.inl rfl) ?_
  simp only [wx, wy, wz, stV, seval, IntWalk.iteOmega, IntWalk.toNatUp, reduceCtorEq]
  refine st_call (c7) rfl (.inl rfl) ?_
  simp only [g1, wx, wy, wz, stV, seval, IntWalk.iteOmega, IntWalk.toNatUp, reduceCtorEq]
  exact ret_d1 (by simp only [wx, wy, wz, stV, seval, IntWalk.iteOmega, IntWalk.toNatUp, reduceCtorEq])
end Go.Proofs.Ytjebhdadegfbdaa
