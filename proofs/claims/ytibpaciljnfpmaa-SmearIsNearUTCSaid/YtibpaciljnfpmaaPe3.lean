/- Layer 13 on data: the program: windows; what the clock shows; when it does. Own work. -/
import Derived.Test.YtibpaciljnfpmaaPe1
import Derived.Test.YtibpaciljnfpmaaPe2
import Derived.Test.YtibpaciljnfpmaaPl4
set_option linter.unusedVariables false
set_option linter.unusedSimpArgs false
namespace Go.Proofs.Ytibpaciljnfpmaa
open Go.RowKit

/-! ### A range over a function, with what is known behind so many rounds -/
def rngJ (st : Nat → Heap × (Nat → Bool)) (J : Nat → Prop) (k : Nat) (h : Heap) (u : Nat → Bool) : Prop := (h, u) = st k ∧ J k
theorem range_sj {P : Program} {G : Glob} {Q : AX → St → Prop} {σ : St} {x : SX} {ps : List Nat} {asg body : SCode} {g : Nat} {caps : List D} {xs : List (List D)} (f0 : Nat → V) {f1 : Nat → V} (hf : f0 = f1) (st : Nat → Heap × (Nat → Bool)) (J : Nat → Prop)
    (hev : ev G σ.f x = .w (.c (.d (.fn g caps)))) (hseq : SeqD P G g caps xs) (hlen : ∀ r ∈ xs, r.length = ps.length) (hent : Ent σ ⟨f1, (st 0).1, (st 0).2⟩) (hun : ∀ t ∈ ps ++ asg.writes ++ body.writes, f1 t = .undef) (h0 : J 0)
    (round : ∀ k r, xs[k]? = some r → J k → awp P G asg (rngA P G body (rngB f0 (rngJ st J) Q k)) ⟨parsL f1 ps r, (st k).1, (st k).2⟩)
    (done : J xs.length → Q .nrm ⟨f1, (st xs.length).1, (st xs.length).2⟩) : awp P G (.rangeF x ps asg body) Q σ := by
  subst hf
  refine ⟨g, caps, xs, f0, (st 0).1, (st 0).2, fun k h u => (h, u) = st k ∧ J k, hev, hseq, hlen, hent, hun, ⟨rfl, h0⟩, fun k r h u hr e => ?_, fun h u e => ?_⟩
  · obtain ⟨e, hJ⟩ := e
    have := round k r hr hJ
    rw [← e] at this
    have e1 : (fun (e : AX) (s : St) => match e with
        | .nrm => awp P G body (fun e s' => match e with
          | .nrm => ∃ h' u', Ent s' ⟨f0, h', u'⟩ ∧ ((h', u') = st (k + 1) ∧ J (k + 1))
          | e => ∃ h' u', Ent s' ⟨f0, h', u'⟩ ∧ Q e ⟨f0, h', u'⟩) s
        | _ => False) = rngA P G body (rngB f0 (rngJ st J) Q k) := by
      funext e s
      cases e with
      | nrm =>
        show awp P G body _ s = awp P G body _ s
        congr 1
      | _ => rfl
    rw [← e1] at this
    exact this
  · obtain ⟨e, hJ⟩ := e
    have := done hJ
    rw [← e] at this; exact this
theorem rng_nextJ {f0 : Nat → V} {f1 : Nat → V} (hf : f0 = f1) {st : Nat → Heap × (Nat → Bool)} {J : Nat → Prop} {Q : AX → St → Prop} {k : Nat} {s : St} (hJ : J (k + 1)) (h : Ent s ⟨f1, (st (k + 1)).1, (st (k + 1)).2⟩) : rngB f0 (rngJ st J) Q k .nrm s := ⟨_, _, hf ▸ h, rfl, hJ⟩
theorem rng_ret {f0 : Nat → V} {f1 : Nat → V} (hf : f0 = f1) {I : Nat → Heap → (Nat → Bool) → Prop} {Q : AX → St → Prop} {k : Nat} {s : St} (h' : Heap) (u' : Nat → Bool) (h : Ent s ⟨f1, h', u'⟩) (hQ : Q .ret ⟨f1, h', u'⟩) : rngB f0 I Q k .ret s := ⟨h', u', hf ▸ h, hf ▸ hQ⟩

/-! ### Windows -/
def spV (a b : Int) : D := .agg [.int .i64 a, .int .i64 b]
def wnV (f : Int) (l : List Lp) (i : Nat) : V := .tup [.c (.d (spV (frA (lpG l i)) (frB (lpG l i)))), .c (.d (spV (winA (lastO f l i) (lpG l i)) (winB (lpG l i))))]
theorem suc_subE (j : Nat) : (j : Int) + 1 - 1 = j := by omega
def sf_ewn : SFn := ⟨2, 49,
  .seq (.reg [⟨(some 2), .box .roBox (.t 0), none⟩,
    ⟨(some 4), .alloc [(.d (.int .i64 0)), (.d (.int .i64 0))], none⟩,
    ⟨(some 5), .alloc [(.d (.int .i64 0)), (.d (.int .i64 0))], none⟩])
  (.seq (.reg [⟨(some 10), .fieldAddr 1 (.t 2), none⟩,
    ⟨(some 11), .loadX .sc (.t 10) [], none⟩,
    ⟨(some 12), .mv (.t 1), none⟩,
    ⟨(some 13), .idxSl 2 (.t 11) (.t 12), none⟩,
    ⟨(some 14), .loadX (.ag 2) (.t 13) [], none⟩,
    ⟨(some 15), .fieldAddr 0 (.t 2), none⟩,
    ⟨(some 16), .loadX .sc (.t 15) [], none⟩,
    ⟨(some 6), .alloc [(.d (.int .i64 0)), (.d (.int .i64 0))], none⟩,
    ⟨none, .store (.ag 2) (.t 6) (.t 14), none⟩,
    ⟨(some 7), .mv (.t 16), none⟩])
  (.seq (.seq (.reg [⟨(some 17), .mv (.t 1), none⟩,
    ⟨(some 18), .bin .gtr (.t 17) (.k (.c (.d (.int .i64 0)))), none⟩])
  (.cond (.t 18) (.reg [⟨(some 19), .fieldAddr 1 (.t 2), none⟩,
     ⟨(some 20), .load .sc (.t 19), none⟩,
     ⟨(some 21), .mv (.t 1), none⟩,
     ⟨(some 22), .bin .sub (.t 21) (.k (.c (.d (.int .i64 1)))), none⟩,
     ⟨(some 23), .idxSl 2 (.t 20) (.t 22), none⟩,
     ⟨(some 24), .fieldAddr 1 (.t 23), none⟩,
     ⟨(some 25), .load .sc (.t 24), none⟩,
     ⟨(some 7), .mv (.t 25), none⟩])
   (.skip)))
  (.seq (.reg [⟨(some 26), .fieldAddr 0 (.t 6), none⟩,
    ⟨(some 27), .load .sc (.t 26), none⟩,
    ⟨(some 28), .bin .sub (.t 27) (.k (.c (.d (.int .i64 43200)))), none⟩,
    ⟨(some 29), .fieldAddr 0 (.t 6), none⟩,
    ⟨(some 30), .load .sc (.t 29), none⟩,
    ⟨(some 31), .bin .add (.t 30) (.k (.c (.d (.int .i64 43200)))), none⟩,
    ⟨(some 8), .mv (.t 28), none⟩,
    ⟨(some 9), .mv (.t 31), none⟩])
  (.seq (.reg [⟨(some 32), .mv (.t 8), none⟩,
    ⟨(some 33), .bin .shl (.t 32) (.k (.c (.d (.int .u64 20)))), none⟩,
    ⟨(some 34), .mv (.t 9), none⟩,
    ⟨(some 35), .bin .shl (.t 34) (.k (.c (.d (.int .u64 20)))), none⟩,
    ⟨(some 36), .build [(.d (.int .i64 0)), (.d (.int .i64 0))] [(0, 1, (.t 33)), (1, 1, (.t 35))], none⟩,
    ⟨none, .store (.ag 2) (.t 4) (.t 36), none⟩])
  (.seq (.reg [⟨(some 37), .mv (.t 8), none⟩,
    ⟨(some 38), .mv (.t 7), none⟩,
    ⟨(some 39), .bin .add (.t 37) (.t 38), none⟩,
    ⟨(some 40), .bin .shl (.t 39) (.k (.c (.d (.int .u64 20)))), none⟩,
    ⟨(some 41), .mv (.t 9), none⟩,
    ⟨(some 42), .fieldAddr 1 (.t 6), none⟩,
    ⟨(some 43), .load .sc (.t 42), none⟩,
    ⟨(some 44), .bin .add (.t 41) (.t 43), none⟩,
    ⟨(some 45), .bin .shl (.t 44) (.k (.c (.d (.int .u64 20)))), none⟩,
    ⟨(some 46), .build [(.d (.int .i64 0)), (.d (.int .i64 0))] [(0, 1, (.t 40)), (1, 1, (.t 45))], none⟩,
    ⟨none, .store (.ag 2) (.t 5) (.t 46), none⟩])
  (.seq (.reg [⟨(some 47), .loadX (.ag 2) (.t 4) [(.t 5)], none⟩,
    ⟨(some 48), .loadX (.ag 2) (.t 5) [(.t 4)], none⟩,
    ⟨none, .store (.ag 2) (.t 4) (.t 47), none⟩,
    ⟨none, .store (.ag 2) (.t 5) (.t 48), none⟩])
  (.ret))))))),
  [(4, (some (.ag 2))), (5, (some (.ag 2)))]⟩
theorem cf_ewn : compFn Try.prog { own := [], comp := [], frz := [], nils := [], lx := [(11, []), (14, []), (16, []), (47, [5]), (48, [4])] } Try.f23 = some sf_ewn := by kernel_rfl
theorem ewn_c (G : Glob) (f : Int) (l : List Lp) (i : Nat) (hl : l.length ≤ 9223372036854775807) (hi : i < l.length) (h : okB f l = true) : Den Try.prog G 23 [lpD f l, .int .i64 (i : Int)] (wnV f l i) := by
  refine den_walk Try.func23 cf_ewn rfl rfl ?_
  have g := lpG_get hi
  have b := ok_el h hi
  unfold lpD wnV spV frA frB winA winB
  rcases i with _ | j
  · have e2 : lastO f l 0 = f := rfl
    rw [e2] at b ⊢
    have p0 : ((0 : Int) > 0) = False := eq_false (by omega)
    generalize lpG l 0 = X at *
    obtain ⟨A, O⟩ := X
    simp only at b ⊢
    simp only [sf_ewn, putAll, wx, wy, wz, stV, seval, IntWalk.iteOmega, IntWalk.toNatUp, reduceCtorEq, get_map, g, spD, bI64, p0]
    exact ret_d2 (by simp only [wx, wy, wz, stV, seval, IntWalk.iteOmega, IntWalk.toNatUp, reduceCtorEq]) (by simp only [wx, wy, wz, stV, seval, IntWalk.iteOmega, IntWalk.toNatUp, reduceCtorEq])
  · have gp := lpG_get (l := l) (i := j) (by omega)
    have e2 : lastO f l (j + 1) = (lpG l j).2 := rfl
    have p0 : ((j : Int) + 1 > 0) = True := eq_true (by omega)
    rw [e2] at b ⊢
    generalize lpG l (j + 1) = X at *
    obtain ⟨A, O⟩ := X
    generalize lpG l j = Y at *
    obtain ⟨B, O'⟩ := Y
    simp only at b ⊢
    simp only [sf_ewn, putAll, wx, wy, wz, stV, seval, IntWalk.iteOmega, IntWalk.toNatUp, reduceCtorEq, get_map, g, gp, spD, bI64, p0, suc_subE]
    exact ret_d2 (by simp only [wx, wy, wz, stV, seval, IntWalk.iteOmega, IntWalk.toNatUp, reduceCtorEq]) (by simp only [wx, wy, wz, stV, seval, IntWalk.iteOmega, IntWalk.toNatUp, reduceCtorEq])
def sf_esec : SFn := ⟨1, 9,
  .seq (.reg [⟨(some 1), .box .roBox (.t 0), none⟩,
    ⟨(some 2), .mv (.k (.c (.d (.int .i64 0)))), none⟩])
  (.seq (.reg [⟨(some 3), .fieldAddr 1 (.t 1), none⟩,
    ⟨(some 4), .load .sc (.t 3), none⟩,
    ⟨(some 5), .fieldAddr 0 (.t 1), none⟩,
    ⟨(some 6), .load .sc (.t 5), none⟩,
    ⟨(some 7), .bin .sub (.t 4) (.t 6), none⟩,
    ⟨(some 8), .call 32 [(.t 7)] none, none⟩,
    ⟨(some 2), .mv (.t 8), none⟩])
  (.ret)),
  [(2, none)]⟩
theorem cf_esec : compFn Try.prog { own := [], comp := [], frz := [], nils := [] } Try.f38 = some sf_esec := by kernel_rfl
theorem esec_c (G : Glob) (a b : Int) (h1 : -1152921504606846976 ≤ a) (h2 : a ≤ 1152921504606846976) (h3 : -1152921504606846976 ≤ b) (h4 : b ≤ 1152921504606846976) : Den Try.prog G 38 [spV a b] (.w (.c (.d (.int .i64 ((b - a) / 1048576))))) := by
  refine den_walk Try.func38 cf_esec rfl rfl ?_
  unfold spV
  simp only [sf_esec, putAll, wx, wy, wz, stV, seval, IntWalk.iteOmega, IntWalk.toNatUp, reduceCtorEq]
  refine st_call (snd_c G (b - a)) rfl (.inl rfl) ?_
  simp only [wx, wy, wz, stV, seval, IntWalk.iteOmega, IntWalk.toNatUp, reduceCtorEq]
  exact ret_d1 (by simp only [wx, wy, wz, stV, seval, IntWalk.iteOmega, IntWalk.toNatUp, reduceCtorEq])
def sf_esca : SFn := ⟨4, 21,
  .seq (.reg [⟨(some 8), .mv (.k (.c (.d (.int .i64 0)))), none⟩])
  (.seq (.reg [⟨(some 12), .mv (.t 0), none⟩,
    ⟨(some 13), .mv (.t 1), none⟩,
    ⟨(some 14), .bin .mul (.t 12) (.t 13), none⟩,
    ⟨(some 15), .mv (.t 2), none⟩,
    ⟨(some 16), .mv (.t 3), none⟩,
    ⟨(some 17), .call 46 [(.t 14), (.t 15), (.t 16)] none, none⟩,
    ⟨(some 11), .mv (.t 17), none⟩,
    ⟨(some 18), .extract (.t 11) 0, none⟩,
    ⟨(some 19), .extract (.t 11) 1, none⟩,
    ⟨(some 9), .mv (.t 18), none⟩,
    ⟨(some 10), .mv (.t 19), none⟩])
  (.seq (.reg [⟨(some 20), .mv (.t 9), none⟩,
    ⟨(some 8), .mv (.t 20), none⟩])
  (.ret))),
  [(8, none)]⟩
theorem cf_esca : compFn Try.prog { own := [], comp := [], frz := [], nils := [] } Try.f37 = some sf_esca := by kernel_rfl
theorem esca_c (G : Glob) (n a b : Int) (up : Bool) (h1 : 0 ≤ n * a) (h2 : n * a ≤ 1152921504606846976) (hb : 1 ≤ b) : Den Try.prog G 37 [.int .i64 n, .int .i64 a, .int .i64 b, .bool up] (.w (.c (.d (.int .i64 (roundI (n * a) b up))))) := by
  refine den_walk Try.func37 cf_esca rfl rfl ?_
  have c1 := div_c G (n * a) b up (by omega) (by omega)
  have hv : ¬ (b < 1 ∨ valT (n * a) = false) := by
    rw [valT_t (by omega)]
    rintro (k | k)
    · omega
    · cases k
  unfold divV divE at c1
  rw [if_neg hv, if_neg hv] at c1
  simp only [sf_esca, putAll, wx, wy, wz, stV, seval, IntWalk.iteOmega, IntWalk.toNatUp, reduceCtorEq]
  refine st_call (c1) rfl (.inl rfl) ?_
  simp only [wx, wy, wz, stV, seval, IntWalk.iteOmega, IntWalk.toNatUp, reduceCtorEq]
  exact ret_d1 (by simp only [wx, wy, wz, stV, seval, IntWalk.iteOmega, IntWalk.toNatUp, reduceCtorEq])
def sf_esin : SFn := ⟨1, 6,
  .seq (.reg [⟨(some 2), .alloc [(.d (.int .i64 0)), (.d (.int .i64 0))], none⟩])
  (.seq (.reg [⟨(some 3), .mv (.t 0), none⟩,
    ⟨(some 4), .mv (.t 0), none⟩,
    ⟨(some 5), .build [(.d (.int .i64 0)), (.d (.int .i64 0))] [(0, 1, (.t 3)), (1, 1, (.t 4))], none⟩,
    ⟨none, .store (.ag 2) (.t 2) (.t 5), none⟩])
  (.ret)),
  [(2, (some (.ag 2)))]⟩
theorem cf_esin : compFn Try.prog { own := [], comp := [], frz := [], nils := [] } Try.f40 = some sf_esin := by kernel_rfl
theorem esin_c (G : Glob) (t : Int) : Den Try.prog G 40 [.int .i64 t] (.w (.c (.d (spV t t)))) := by
  refine den_walk Try.func40 cf_esin rfl rfl ?_
  unfold spV
  simp only [sf_esin, putAll, wx, wy, wz, stV, seval, IntWalk.iteOmega, IntWalk.toNatUp, reduceCtorEq]
  exact ret_d1 (by simp only [wx, wy, wz, stV, seval, IntWalk.iteOmega, IntWalk.toNatUp, reduceCtorEq])
def erfE (f : Int) (l : List Lp) (n a b : Int) : Int := if okB f l = true then (if a ≤ n ∧ n ≤ b then 0 else 4) else 3
def sf_eerr : SFn := ⟨4, 20,
  .seq (.reg [⟨(some 4), .box .roBox (.t 0), none⟩,
    ⟨(some 8), .mv (.k (.c (.d (.int .i64 0)))), none⟩])
  (.seq (.seq (.reg [⟨(some 9), .load (.ag 2) (.t 4), none⟩,
    ⟨(some 10), .call 30 [(.t 9)] none, none⟩,
    ⟨(some 11), .un .not (.t 10), none⟩])
  (.cond (.t 11) (.seq (.reg [⟨(some 8), .mv (.k (.c (.d (.int .i64 3)))), none⟩])
   (.ret))
   (.skip)))
  (.seq (.seq (.reg [⟨(some 12), .mv (.t 1), none⟩,
    ⟨(some 13), .mv (.t 2), none⟩,
    ⟨(some 14), .bin .lss (.t 12) (.t 13), none⟩,
    ⟨(some 15), .mv (.t 14), none⟩,
    ⟨(some 16), .mv (.t 1), (some (15, false))⟩,
    ⟨(some 17), .mv (.t 3), (some (15, false))⟩,
    ⟨(some 18), .bin .gtr (.t 16) (.t 17), (some (15, false))⟩,
    ⟨(some 19), .pick (.t 15) (.k (.c (.d (.bool true)))) (.t 18), none⟩])
  (.cond (.t 19) (.seq (.reg [⟨(some 8), .mv (.k (.c (.d (.int .i64 4)))), none⟩])
   (.ret))
   (.skip)))
  (.seq (.reg [⟨(some 8), .mv (.k (.c (.d (.int .i64 0)))), none⟩])
  (.ret)))),
  [(8, none)]⟩
theorem cf_eerr : compFn Try.prog { own := [], comp := [], frz := [], nils := [] } Try.f22 = some sf_eerr := by kernel_rfl
theorem eerr_c (G : Glob) (f : Int) (l : List Lp) (n a b : Int) (hl : l.length ≤ 9223372036854775807) : Den Try.prog G 22 [lpD f l, .int .i64 n, .int .i64 a, .int .i64 b] (.w (.c (.d (.int .i64 (erfE f l n a b))))) := by
  refine den_walk Try.func22 cf_eerr rfl rfl ?_
  have c1 := lvl_c G f l hl
  unfold erfE
  unfold lpD at c1 ⊢
  cases h1 : okB f l <;> rw [h1] at c1
  · simp only [sf_eerr, putAll, wx, wy, wz, stV, seval, IntWalk.iteOmega, IntWalk.toNatUp, reduceCtorEq]
    refine st_call (c1) rfl (.inl rfl) ?_
    simp only [wx, wy, wz, stV, seval, IntWalk.iteOmega, IntWalk.toNatUp, reduceCtorEq]
    exact ret_d1 (by simp only [wx, wy, wz, stV, seval, IntWalk.iteOmega, IntWalk.toNatUp, reduceCtorEq])
  · by_cases k1 : n < a
    · rw [if_neg (show ¬ (a ≤ n ∧ n ≤ b) by omega)]
      simp only [sf_eerr, putAll, wx, wy, wz, stV, seval, IntWalk.iteOmega, IntWalk.toNatUp, reduceCtorEq]
      refine st_call (c1) rfl (.inl rfl) ?_
      simp only [wx, wy, wz, stV, seval, IntWalk.iteOmega, IntWalk.toNatUp, reduceCtorEq]
      exact ret_d1 (by simp only [wx, wy, wz, stV, seval, IntWalk.iteOmega, IntWalk.toNatUp, reduceCtorEq])
    · by_cases k2 : n > b
      · rw [if_neg (show ¬ (a ≤ n ∧ n ≤ b) by omega)]
        simp only [sf_eerr, putAll, wx, wy, wz, stV, seval, IntWalk.iteOmega, IntWalk.toNatUp, reduceCtorEq]
        refine st_call (c1) rfl (.inl rfl) ?_
        simp only [eq_true k2, wx, wy, wz, stV, seval, IntWalk.iteOmega, IntWalk.toNatUp, reduceCtorEq]
        exact ret_d1 (by simp only [wx, wy, wz, stV, seval, IntWalk.iteOmega, IntWalk.toNatUp, reduceCtorEq])
      · rw [if_pos (show a ≤ n ∧ n ≤ b by omega)]
        simp only [sf_eerr, putAll, wx, wy, wz, stV, seval, IntWalk.iteOmega, IntWalk.toNatUp, reduceCtorEq]
        refine st_call (c1) rfl (.inl rfl) ?_
        simp only [eq_false k2, wx, wy, wz, stV, seval, IntWalk.iteOmega, IntWalk.toNatUp, reduceCtorEq]
        exact ret_d1 (by simp only [wx, wy, wz, stV, seval, IntWalk.iteOmega, IntWalk.toNatUp, reduceCtorEq])
end Go.Proofs.Ytibpaciljnfpmaa
