/- The plain logic (20): words of 32 bits. Own work. -/
import Derived.Test.YtldcgjhfaledfaaAlS
import Derived.Laws.BitsLemmas
import Derived.Laws.Bits64
import Derived.Laws.BitsAllLaws
set_option linter.unusedVariables false
set_option linter.unusedSimpArgs false
namespace Go.Proofs.Ytldcgjhfaledfaa
open Go.RowKit

/-! ### The operations on words, each behind a name of its own (so that no simp opens it) -/
def xorW (x y : UInt32) : UInt32 := x ^^^ y
def andW (x y : UInt32) : UInt32 := x &&& y
def orW (x y : UInt32) : UInt32 := x ||| y
def addW (x y : UInt32) : UInt32 := x + y
def notW (x : UInt32) : UInt32 := UInt32.ofNat (4294967295 - x.toNat)
def shrW (x : UInt32) (n : Nat) : UInt32 := UInt32.ofNat (x.toNat / 2 ^ n)
def shlW (x : UInt32) (n : Nat) : UInt32 := UInt32.ofNat (x.toNat * 2 ^ n)
def rotW (x : UInt32) (n : Nat) : UInt32 := orW (shrW x n) (shlW x (32 - n))
def byteW (b : UInt8) : UInt32 := UInt32.ofNat b.toNat

theorem word_lt (x : UInt32) : x.toNat < 4294967296 := x.toNat_lt
theorem xorW_bits (x y : UInt32) : bits .xor .u32 (x.toNat : Int) (y.toNat : Int) = ((xorW x y).toNat : Int) := by
  rw [u32_xor_nat _ _ (word_lt x) (word_lt y)]; simp [xorW]
theorem andW_bits (x y : UInt32) : bits .and .u32 (x.toNat : Int) (y.toNat : Int) = ((andW x y).toNat : Int) := by
  rw [u32_and_nat _ _ (word_lt x) (word_lt y)]; simp [andW]
theorem orW_bits (x y : UInt32) : bits .or .u32 (x.toNat : Int) (y.toNat : Int) = ((orW x y).toNat : Int) := by
  rw [u32_or_nat _ _ (word_lt x) (word_lt y)]; simp [orW]
theorem addW_wrap (x y : UInt32) : IntKind.u32.wrap ((x.toNat : Int) + (y.toNat : Int)) = ((addW x y).toNat : Int) := by
  rw [IntKind.wrap_u32]; simp [addW]
theorem shrW_div (x : UInt32) (n : Nat) : (x.toNat : Int) / 2 ^ n = ((shrW x n).toNat : Int) := by
  have h : x.toNat / 2 ^ n < 4294967296 := Nat.lt_of_le_of_lt (Nat.div_le_self _ _) (word_lt x)
  unfold shrW
  rw [UInt32.toNat_ofNat_of_lt' (by simpa [UInt32.size] using h)]
  simp
theorem shlW_mul (x : UInt32) (n : Nat) : (x.toNat : Int) * 2 ^ n % 4294967296 = ((shlW x n).toNat : Int) := by
  unfold shlW
  simp
theorem notW_sub (x : UInt32) : (4294967295 : Int) - (x.toNat : Int) = ((notW x).toNat : Int) := by
  have h := word_lt x
  unfold notW
  rw [UInt32.toNat_ofNat_of_lt' (by simp [UInt32.size]; omega)]
  omega
theorem byteW_nat (b : UInt8) : (b.toNat : Int) = ((byteW b).toNat : Int) := by
  have h := b.toNat_lt
  unfold byteW
  rw [UInt32.toNat_ofNat_of_lt' (by simp [UInt32.size]; omega)]


/-! ### The walk's rules on words -/
theorem binV_xorW (x y : UInt32) : binV .xor (.w (.c (.d (wD x)))) (.w (.c (.d (wD y)))) = some (wD (xorW x y)) := by
  show binI .xor .u32 (x.toNat : Int) .u32 (y.toNat : Int) = _
  rw [binI_xor, xorW_bits]; rfl
theorem binV_andW (x y : UInt32) : binV .and (.w (.c (.d (wD x)))) (.w (.c (.d (wD y)))) = some (wD (andW x y)) := by
  show binI .and .u32 (x.toNat : Int) .u32 (y.toNat : Int) = _
  rw [binI_and, andW_bits]; rfl
theorem binV_orW (x y : UInt32) : binV .or (.w (.c (.d (wD x)))) (.w (.c (.d (wD y)))) = some (wD (orW x y)) := by
  show binI .or .u32 (x.toNat : Int) .u32 (y.toNat : Int) = _
  rw [binI_or, orW_bits]; rfl
theorem binV_addW (x y : UInt32) : binV .add (.w (.c (.d (wD x)))) (.w (.c (.d (wD y)))) = some (wD (addW x y)) := by
  show binI .add .u32 (x.toNat : Int) .u32 (y.toNat : Int) = _
  rw [binI_add, addW_wrap]; rfl
theorem binV_shlW (x : UInt32) (k : IntKind) (n : Int) (h : 0 ≤ n) : binV .shl (.w (.c (.d (wD x)))) (.w (.c (.d (.int k n)))) = some (wD (shlW x (min n.toNat 32))) := by
  show binI .shl .u32 (x.toNat : Int) k n = _
  rw [binI_shl _ _ _ _ h, IntKind.wrap_u32]
  show some (D.int .u32 ((x.toNat : Int) * 2 ^ min n.toNat 32 % 4294967296)) = _
  rw [shlW_mul]; rfl
theorem binV_shrW (x : UInt32) (k : IntKind) (n : Int) (h : 0 ≤ n) : binV .shr (.w (.c (.d (wD x)))) (.w (.c (.d (.int k n)))) = some (wD (shrW x (min n.toNat 32))) := by
  show binI .shr .u32 (x.toNat : Int) k n = _
  rw [binI_shr _ _ _ _ h]
  show some (D.int .u32 ((x.toNat : Int) / 2 ^ min n.toNat 32)) = _
  rw [shrW_div]; rfl
theorem unV_notW (x : UInt32) : unV .xor (.w (.c (.d (wD x)))) = some (wD (notW x)) := by
  have : bits .xor .u32 4294967295 (x.toNat : Int) = (4294967295 : Int) - (x.toNat : Int) := by
    have h := x.toNat_lt
    have h2 : 4294967295 ^^^ x.toNat = 4294967295 - x.toNat := by
      have e := congrArg BitVec.toNat (BitVec.allOnes_xor (x := BitVec.ofNat 32 x.toNat))
      rw [BitVec.toNat_xor, BitVec.toNat_not, BitVec.toNat_allOnes, BitVec.toNat_ofNat, Nat.mod_eq_of_lt (by omega)] at e
      omega
    have h3 := u32_xor_nat 4294967295 x.toNat (by decide) h
    rw [h2] at h3
    have h4 : ((4294967295 : Nat) : Int) = 4294967295 := rfl
    rw [h4] at h3
    omega
  show some (D.int .u32 (bits .xor .u32 4294967295 (x.toNat : Int))) = _
  rw [this, notW_sub]; rfl
theorem binV_eqlW (x y : UInt32) : binV .eql (.w (.c (.d (wD x)))) (.w (.c (.d (wD y)))) = some (.bool (x == y)) := by
  show binI .eql .u32 (x.toNat : Int) .u32 (y.toNat : Int) = _
  rw [binI_eql]
  by_cases h : x = y
  · subst h; simp
  · have : ¬ ((x.toNat : Int) = (y.toNat : Int)) := fun e => h (UInt32.toNat_inj.1 (by omega))
    simp [this, h]
theorem binV_neqW (x y : UInt32) : binV .neq (.w (.c (.d (wD x)))) (.w (.c (.d (wD y)))) = some (.bool (x != y)) := by
  show binI .neq .u32 (x.toNat : Int) .u32 (y.toNat : Int) = _
  rw [binI_neq]
  by_cases h : x = y
  · subst h; simp
  · have : ¬ ((x.toNat : Int) = (y.toNat : Int)) := fun e => h (UInt32.toNat_inj.1 (by omega))
    simp [this, h]
theorem byteW_wD (b : UInt8) : D.int .u32 (IntKind.u32.wrap (b.toNat : Int)) = wD (byteW b) := by
  have h := b.toNat_lt
  rw [IntWalk.u32_in _ (by omega), byteW_nat]; rfl
/-! ### Bytes, in the same way -/
def xorB (x y : UInt8) : UInt8 := x ^^^ y
def andB (x y : UInt8) : UInt8 := x &&& y
def orB (x y : UInt8) : UInt8 := x ||| y
def shlB (x : UInt8) (n : Nat) : UInt8 := UInt8.ofNat (x.toNat * 2 ^ n)
def shrB (x : UInt8) (n : Nat) : UInt8 := UInt8.ofNat (x.toNat / 2 ^ n)
theorem byte_lt (x : UInt8) : x.toNat < 256 := x.toNat_lt
theorem binV_xorB (x y : UInt8) : binV .xor (.w (.c (.d (bD x)))) (.w (.c (.d (bD y)))) = some (bD (xorB x y)) := by
  show binI .xor .u8 (x.toNat : Int) .u8 (y.toNat : Int) = _
  rw [binI_xor, u8_xor_nat _ _ (byte_lt x) (byte_lt y)]; simp [xorB, bD]
theorem binV_andB (x y : UInt8) : binV .and (.w (.c (.d (bD x)))) (.w (.c (.d (bD y)))) = some (bD (andB x y)) := by
  show binI .and .u8 (x.toNat : Int) .u8 (y.toNat : Int) = _
  rw [binI_and, u8_and_nat _ _ (byte_lt x) (byte_lt y)]; simp [andB, bD]
theorem binV_orB (x y : UInt8) : binV .or (.w (.c (.d (bD x)))) (.w (.c (.d (bD y)))) = some (bD (orB x y)) := by
  show binI .or .u8 (x.toNat : Int) .u8 (y.toNat : Int) = _
  rw [binI_or, u8_or_nat _ _ (byte_lt x) (byte_lt y)]; simp [orB, bD]
theorem binV_shlB (x : UInt8) (k : IntKind) (n : Int) (h : 0 ≤ n) : binV .shl (.w (.c (.d (bD x)))) (.w (.c (.d (.int k n)))) = some (bD (shlB x (min n.toNat 8))) := by
  show binI .shl .u8 (x.toNat : Int) k n = _
  rw [binI_shl _ _ _ _ h, IntKind.wrap_u8]
  show some (D.int .u8 ((x.toNat : Int) * 2 ^ min n.toNat 8 % 256)) = _
  have : (x.toNat : Int) * 2 ^ min n.toNat 8 % 256 = ((shlB x (min n.toNat 8)).toNat : Int) := by unfold shlB; simp
  rw [this]; rfl
theorem binV_shrB (x : UInt8) (k : IntKind) (n : Int) (h : 0 ≤ n) : binV .shr (.w (.c (.d (bD x)))) (.w (.c (.d (.int k n)))) = some (bD (shrB x (min n.toNat 8))) := by
  show binI .shr .u8 (x.toNat : Int) k n = _
  rw [binI_shr _ _ _ _ h]
  show some (D.int .u8 ((x.toNat : Int) / 2 ^ min n.toNat 8)) = _
  have : (x.toNat : Int) / 2 ^ min n.toNat 8 = ((shrB x (min n.toNat 8)).toNat : Int) := by
    have h : x.toNat / 2 ^ min n.toNat 8 < 256 := Nat.lt_of_le_of_lt (Nat.div_le_self _ _) (byte_lt x)
    unfold shrB
    rw [UInt8.toNat_ofNat_of_lt' (by simpa [UInt8.size] using h)]
    simp
  rw [this]; rfl
theorem binV_eqlB (x y : UInt8) : binV .eql (.w (.c (.d (bD x)))) (.w (.c (.d (bD y)))) = some (.bool (x == y)) := by
  show binI .eql .u8 (x.toNat : Int) .u8 (y.toNat : Int) = _
  rw [binI_eql]
  by_cases h : x = y
  · subst h; simp
  · have : ¬ ((x.toNat : Int) = (y.toNat : Int)) := fun e => h (UInt8.toNat_inj.1 (by omega))
    simp [this, h]
theorem binV_neqB (x y : UInt8) : binV .neq (.w (.c (.d (bD x)))) (.w (.c (.d (bD y)))) = some (.bool (x != y)) := by
  show binI .neq .u8 (x.toNat : Int) .u8 (y.toNat : Int) = _
  rw [binI_neq]
  by_cases h : x = y
  · subst h; simp
  · have : ¬ ((x.toNat : Int) = (y.toNat : Int)) := fun e => h (UInt8.toNat_inj.1 (by omega))
    simp [this, h]
/-! ### Function literals -/
theorem ev_u (G : Glob) (f : Nat → V) : ev G f .u = .undef := rfl
def closK (P : Program) (G : Glob) (d : Option Nat) (r : List SOper) (K : St → Prop) (f : Nat → V) (h : Heap) (u : Nat → Bool) (F : Nat) (ds : List D) : Prop := aops P G r K ⟨updO f d (.w (.c (.d (.fn F ds)))), h, u⟩
theorem st_clos (P : Program) (G : Glob) (d : Option Nat) (r : List SOper) (K : St → Prop) (f : Nat → V) (h : Heap) (u : Nat → Bool) (F : Nat) (xs : List SX) : aops P G (⟨d, .clos F xs, none⟩ :: r) K ⟨f, h, u⟩ = optK (capVs (xs.map (ev G f))) (closK P G d r K f h u F) := by
  show (match (capVs (xs.map (ev G f))).map fun ds => ((.w (.c (.d (.fn F ds))), h, u) : R) with | some r => _ | none => False) = _
  cases capVs (xs.map (ev G f)) <;> rfl
theorem closK_do (P : Program) (G : Glob) (d : Option Nat) (r : List SOper) (K : St → Prop) (f : Nat → V) (h : Heap) (u : Nat → Bool) (F : Nat) (ds : List D) : closK P G d r K f h u F ds = aops P G r K ⟨updO f d (.w (.c (.d (.fn F ds)))), h, u⟩ := rfl
theorem capVs_nil : capVs [] = some [] := rfl
theorem capVs_rp (cs : List D) (r : List V) : capVs (.w (.c (.rp cs)) :: r) = (capVs r).map fun l => .ref cs :: l := by
  simp only [capVs, capV]; cases capVs r <;> rfl
theorem capVs_int (k : IntKind) (n : Int) (r : List V) : capVs (.w (.c (.d (.int k n))) :: r) = (capVs r).map fun l => .int k n :: l := by
  simp only [capVs, capV]; cases capVs r <;> rfl
theorem capVs_sl (es : List D) (r : List V) : capVs (.w (.c (.d (.sl es))) :: r) = (capVs r).map fun l => .sl es :: l := by
  simp only [capVs, capV]; cases capVs r <;> rfl

/-! ### A range over a function -/
/-- Behind the assignment of a round; behind its body. -/
def rngA (P : Program) (G : Glob) (body : SCode) (K : AX → St → Prop) (e : AX) (s : St) : Prop := match e with | .nrm => awp P G body K s | _ => False
def rngB (f0 : Nat → V) (I : Nat → Heap → (Nat → Bool) → Prop) (Q : AX → St → Prop) (k : Nat) (e : AX) (s : St) : Prop := match e with
  | .nrm => ∃ h' u', Ent s ⟨f0, h', u'⟩ ∧ I (k + 1) h' u'
  | e => ∃ h' u', Ent s ⟨f0, h', u'⟩ ∧ Q e ⟨f0, h', u'⟩
theorem rngA_nrm (P : Program) (G : Glob) (body : SCode) (K : AX → St → Prop) (s : St) : rngA P G body K .nrm s = awp P G body K s := rfl
theorem rngB_nrm (f0 : Nat → V) (I : Nat → Heap → (Nat → Bool) → Prop) (Q : AX → St → Prop) (k : Nat) (s : St) : rngB f0 I Q k .nrm s = ∃ h' u', Ent s ⟨f0, h', u'⟩ ∧ I (k + 1) h' u' := rfl
def rngI (st : Nat → Heap × (Nat → Bool)) (k : Nat) (h : Heap) (u : Nat → Bool) : Prop := (h, u) = st k
/-- What a round begins and ends with is a family st of states, whose slots are all the same. -/
theorem range_st {P : Program} {G : Glob} {Q : AX → St → Prop} {σ : St} {x : SX} {ps : List Nat} {asg body : SCode} {g : Nat} {caps : List D} {xs : List (List D)} (f0 : Nat → V) {f1 : Nat → V} (hf : f0 = f1) (st : Nat → Heap × (Nat → Bool))
    (hev : ev G σ.f x = .w (.c (.d (.fn g caps)))) (hseq : SeqD P G g caps xs) (hlen : ∀ r ∈ xs, r.length = ps.length) (hent : Ent σ ⟨f1, (st 0).1, (st 0).2⟩) (hun : ∀ t ∈ ps ++ asg.writes ++ body.writes, f1 t = .undef)
    (round : ∀ k r, xs[k]? = some r → awp P G asg (rngA P G body (rngB f0 (rngI st) Q k)) ⟨parsL f1 ps r, (st k).1, (st k).2⟩)
    (done : Q .nrm ⟨f1, (st xs.length).1, (st xs.length).2⟩) : awp P G (.rangeF x ps asg body) Q σ := by
  subst hf
  refine ⟨g, caps, xs, f0, (st 0).1, (st 0).2, fun k h u => (h, u) = st k, hev, hseq, hlen, hent, hun, rfl, fun k r h u hr e => ?_, fun h u e => ?_⟩
  · have := round k r hr
    rw [← e] at this
    have e1 : (fun (e : AX) (s : St) => match e with
        | .nrm => awp P G body (fun e s' => match e with
          | .nrm => ∃ h' u', Ent s' ⟨f0, h', u'⟩ ∧ (h', u') = st (k + 1)
          | e => ∃ h' u', Ent s' ⟨f0, h', u'⟩ ∧ Q e ⟨f0, h', u'⟩) s
        | _ => False) = rngA P G body (rngB f0 (rngI st) Q k) := by
      funext e s
      cases e with
      | nrm =>
        show awp P G body _ s = awp P G body _ s
        congr 1
      | _ => rfl
    rw [← e1] at this
    exact this
  · rw [← e] at done; exact done
theorem rng_next {f0 : Nat → V} {f1 : Nat → V} (hf : f0 = f1) {st : Nat → Heap × (Nat → Bool)} {Q : AX → St → Prop} {k : Nat} {s : St} (h : Ent s ⟨f1, (st (k + 1)).1, (st (k + 1)).2⟩) : rngB f0 (rngI st) Q k .nrm s := ⟨_, _, hf ▸ h, rfl⟩
/-- Cells of bytes. -/
def bC (x : UInt8) : C := .d (bD x)
theorem map_C (l : List UInt8) : (l.map bD).map C.d = l.map bC := by rw [List.map_map]; rfl
theorem allD_bs : ∀ l : List UInt8, allD (l.map bC) = some (l.map bD)
  | [] => rfl
  | x :: l => by
    have h := allD_bs l
    show allD (C.d (bD x) :: l.map bC) = _
    simp only [allD, h, List.map_cons, Option.map_some]
theorem mkAgg_bs (l : List UInt8) : mkAgg (l.map bC) = .c (.d (.agg (l.map bD))) := by unfold mkAgg; rw [allD_bs]
theorem setR_map {α β : Type} (f : α → β) (l cs : List α) (off : Nat) : setR (l.map f) off (cs.map f) = (setR l off cs).map f := by
  unfold setR; simp
theorem rep_bC (n : Nat) : List.replicate n (C.d (D.int .u8 0)) = (List.replicate n (0 : UInt8)).map bC := by rw [List.map_replicate]; rfl
theorem toC_b (x : UInt8) : C.d (bD x) = bC x := rfl
theorem stO_bC (l : List UInt8) (i o : Nat) (x : UInt8) : stO .sc (.c (.d (bD x))) i o (.box (l.map bC)) = if i + o < l.length then some (.box ((l.set (i + o) x).map bC)) else none := by
  unfold stO
  simp only [wc_b, List.length_cons, List.length_nil, Kd.size, List.length_map, Nat.zero_add, true_and]
  by_cases h : i + o < l.length
  · rw [if_pos (show i + o + 1 ≤ l.length by omega), if_pos h]
    have : [C.d (bD x)] = [x].map bC := rfl
    rw [this, setR_map]
    congr 3
    unfold setR
    rw [List.set_eq_take_append_cons_drop, if_pos h, List.append_assoc]; rfl
  · rw [if_neg (show ¬ i + o + 1 ≤ l.length by omega), if_neg h]
theorem ids_bC (l : List UInt8) : (l.map bC).flatMap C.ids = [] := by
  induction l with
  | nil => rfl
  | cons x l ih => rw [List.map_cons, List.flatMap_cons, ih]; rfl
theorem ren_bC (g : Nat → Nat) (l : List UInt8) : (l.map bC).map (C.ren g) = l.map bC := by rw [List.map_map]; rfl
/-! ### A byte and a literal -/
theorem bl_eql (x c : UInt8) (n : Int) (h : n = (c.toNat : Int)) : binV .eql (.w (.c (.d (bD x)))) (.w (.c (.d (.int .u8 n)))) = some (.bool (x == c)) := by subst h; exact binV_eqlB x c
theorem bl_neq (x c : UInt8) (n : Int) (h : n = (c.toNat : Int)) : binV .neq (.w (.c (.d (bD x)))) (.w (.c (.d (.int .u8 n)))) = some (.bool (x != c)) := by subst h; exact binV_neqB x c
theorem bl_xor (x c : UInt8) (n : Int) (h : n = (c.toNat : Int)) : binV .xor (.w (.c (.d (bD x)))) (.w (.c (.d (.int .u8 n)))) = some (bD (xorB x c)) := by subst h; exact binV_xorB x c
theorem bl_and (x c : UInt8) (n : Int) (h : n = (c.toNat : Int)) : binV .and (.w (.c (.d (bD x)))) (.w (.c (.d (.int .u8 n)))) = some (bD (andB x c)) := by subst h; exact binV_andB x c
theorem bl_or (x c : UInt8) (n : Int) (h : n = (c.toNat : Int)) : binV .or (.w (.c (.d (bD x)))) (.w (.c (.d (.int .u8 n)))) = some (bD (orB x c)) := by subst h; exact binV_orB x c
theorem bl_gtr0 (x : UInt8) : binV .gtr (.w (.c (.d (bD x)))) (.w (.c (.d (.int .u8 0)))) = some (.bool (x != 0)) := by
  show binI .gtr .u8 (x.toNat : Int) .u8 0 = _
  rw [binI_gtr]
  by_cases h : x = 0
  · subst h; rfl
  · have h2 : x.toNat ≠ 0 := fun e => h (UInt8.toNat_inj.1 e)
    have h3 : (x.toNat : Int) > 0 := by omega
    have h4 : (x != 0) = true := by simp [h]
    rw [h4, if_pos h3]
theorem bl_shr (x : UInt8) (k : IntKind) (j : Nat) (n : Int) (h : n = (j : Int)) (hj : j ≤ 8) : binV .shr (.w (.c (.d (bD x)))) (.w (.c (.d (.int k n)))) = some (bD (shrB x j)) := by
  subst h
  rw [binV_shrB _ _ _ (Int.natCast_nonneg j), Int.toNat_natCast, Nat.min_eq_left hj]
theorem bl_shl (x : UInt8) (k : IntKind) (j : Nat) (n : Int) (h : n = (j : Int)) (hj : j ≤ 8) : binV .shl (.w (.c (.d (bD x)))) (.w (.c (.d (.int k n)))) = some (bD (shlB x j)) := by
  subst h
  rw [binV_shlB _ _ _ (Int.natCast_nonneg j), Int.toNat_natCast, Nat.min_eq_left hj]
/-! ### Long lists of the same: a name that simp leaves alone -/
def repL {α : Type} (n : Nat) (x : α) : List α := List.replicate n x
theorem repL_len {α : Type} (n : Nat) (x : α) : (repL n x).length = n := List.length_replicate
theorem repL_get {α : Type} {n i : Nat} (x : α) (h : i < n) : (repL n x)[i]? = some x := by unfold repL; rw [List.getElem?_replicate, if_pos h]
theorem repL_bD (n : Nat) : repL n (D.int .u8 0) = (repL n (0 : UInt8)).map bD := by unfold repL; rw [List.map_replicate]; rfl
theorem repL_bC (n : Nat) : repL n (C.d (D.int .u8 0)) = (repL n (0 : UInt8)).map bC := by unfold repL; rw [List.map_replicate]; rfl
end Go.Proofs.Ytldcgjhfaledfaa
