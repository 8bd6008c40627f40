/- Texts of one's own, merged: from: The plain logic (20): words of 32 bits. Own work. -/
import Derived.Laws.BitsLemmas
import Derived.Laws.Bits64
import Derived.Laws.BitsAllLaws
import Derived.Test.YtjebhdadegfbdaaMg6
import Derived.Test.YtjebhdadegfbdaaMg10
set_option linter.unusedVariables false
set_option linter.unusedSimpArgs false
namespace Go.Proofs.Ytjebhdadegfbdaa
open Go.RowKit

/-! ### The operations on words, each behind a name of its own (so that no simp opens it) -/
def xorW (x y : UInt32) : UInt32 := x ^^^ y
def andW (x y : UInt32) : UInt32 := x &&& y
def orW (x y : UInt32) : UInt32 := x ||| y
def addW (x y : UInt32) : UInt32 := x + y
def notW (x : UInt32) : UInt32 := UInt32.ofNat (4294967295 - x.toNat)
def shrW (x : UInt32) (n : Nat) : UInt32 := UInt32.ofNat (x.toNat / 2 ^ n)
def shlW (x : UInt32) (n : Nat) : UInt32 := UInt32.ofNat (x.toNat * 2 ^ n)
def rotW (x : UInt32) (n : Nat) : UInt32 := orW (shrW x n) (shlW x (32 - n))
def byteW (b : UInt8) : UInt32 := UInt32.ofNat b.toNat

theorem word_lt (x : UInt32) : x.toNat < 4294967296 := x.toNat_lt
theorem xorW_bits (x y : UInt32) : bits .xor .u32 (x.toNat : Int) (y.toNat : Int) = ((xorW x y).toNat : Int) := by
  rw [u32_xor_nat _ _ (word_lt x) (word_lt y)]; simp [xorW]
theorem andW_bits (x y : UInt32) : bits .and .u32 (x.toNat : Int) (y.toNat : Int) = ((andW x y).toNat : Int) := by
  rw [u32_and_nat _ _ (word_lt x) (word_lt y)]; simp [andW]
theorem orW_bits (x y : UInt32) : bits .or .u32 (x.toNat : Int) (y.toNat : Int) = ((orW x y).toNat : Int) := by
  rw [u32_or_nat _ _ (word_lt x) (word_lt y)]; simp [orW]
theorem addW_wrap (x y : UInt32) : IntKind.u32.wrap ((x.toNat : Int) + (y.toNat : Int)) = ((addW x y).toNat : Int) := by
  rw [IntKind.wrap_u32]; simp [addW]
theorem shrW_div (x : UInt32) (n : Nat) : (x.toNat : Int) / 2 ^ n = ((shrW x n).toNat : Int) := by
  have h : x.toNat / 2 ^ n < 4294967296 := Nat.lt_of_le_of_lt (Nat.div_le_self _ _) (word_lt x)
  unfold shrW
  rw [UInt32.toNat_ofNat_of_lt' (by simpa [UInt32.size] using h)]
  simp
theorem shlW_mul (x : UInt32) (n : Nat) : (x.toNat : Int) * 2 ^ n % 4294967296 = ((shlW x n).toNat : Int) := by
  unfold shlW
  simp
theorem notW_sub (x : UInt32) : (4294967295 : Int) - (x.toNat : Int) = ((notW x).toNat : Int) := by
  have h := word_lt x
  unfold notW
  rw [UInt32.toNat_ofNat_of_lt' (by simp [UInt32.size]; omega)]
  omega
theorem byteW_nat (b : UInt8) : (b.toNat : Int) = ((byteW b).toNat : Int) := by
  have h := b.toNat_lt
  unfold byteW
  rw [UInt32.toNat_ofNat_of_lt' (by simp [UInt32.size]; omega)]


/-! ### The walk's rules on words -/
theorem binV_xorW (x y : UInt32) : binV .xor (.w (.c (.d (wD x)))) (.w (.c (.d (wD y)))) = some (wD (xorW x y)) := by
  show binI .xor .u32 (x.toNat : Int) .u32 (y.toNat : Int) = _
  rw [binI_xor, xorW_bits]; rfl
theorem binV_andW (x y : UInt32) : binV .and (.w (.c (.d (wD x)))) (.w (.c (.d (wD y)))) = some (wD (andW x y)) := by
  show binI .and .u32 (x.toNat : Int) .u32 (y.toNat : Int) = _
  rw [binI_and, andW_bits]; rfl
theorem binV_orW (x y : UInt32) : binV .or (.w (.c (.d (wD x)))) (.w (.c (.d (wD y)))) = some (wD (orW x y)) := by
  show binI .or .u32 (x.toNat : Int) .u32 (y.toNat : Int) = _
  rw [binI_or, orW_bits]; rfl
theorem binV_addW (x y : UInt32) : binV .add (.w (.c (.d (wD x)))) (.w (.c (.d (wD y)))) = some (wD (addW x y)) := by
  show binI .add .u32 (x.toNat : Int) .u32 (y.toNat : Int) = _
  rw [binI_add, addW_wrap]; rfl
theorem binV_shlW (x : UInt32) (k : IntKind) (n : Int) (h : 0 ≤ n) : binV .shl (.w (.c (.d (wD x)))) (.w (.c (.d (.int k n)))) = some (wD (shlW x (min n.toNat 32))) := by
  show binI .shl .u32 (x.toNat : Int) k n = _
  rw [binI_shl _ _ _ _ h, IntKind.wrap_u32]
  show some (D.int .u32 ((x.toNat : Int) * 2 ^ min n.toNat 32 % 4294967296)) = _
  rw [shlW_mul]; rfl
theorem binV_shrW (x : UInt32) (k : IntKind) (n : Int) (h : 0 ≤ n) : binV .shr (.w (.c (.d (wD x)))) (.w (.c (.d (.int k n)))) = some (wD (shrW x (min n.toNat 32))) := by
  show binI .shr .u32 (x.toNat : Int) k n = _
  rw [binI_shr _ _ _ _ h]
  show some (D.int .u32 ((x.toNat : Int) / 2 ^ min n.toNat 32)) = _
  rw [shrW_div]; rfl
theorem unV_notW (x : UInt32) : unV .xor (.w (.c (.d (wD x)))) = some (wD (notW x)) := by
  have : bits .xor .u32 4294967295 (x.toNat : Int) = (4294967295 : Int) - (x.toNat : Int) := by
    have h := x.toNat_lt
    have h2 : 4294967295 ^^^ x.toNat = 4294967295 - x.toNat := by
      have e := congrArg BitVec.toNat (BitVec.allOnes_xor (x := BitVec.ofNat 32 x.toNat))
      rw [BitVec.toNat_xor, BitVec.toNat_not, BitVec.toNat_allOnes, BitVec.toNat_ofNat, Nat.mod_eq_of_lt (by omega)] at e
      omega
    have h3 := u32_xor_nat 4294967295 x.toNat (by decide) h
    rw [h2] at h3
    have h4 : ((4294967295 : Nat) : Int) = 4294967295 := rfl
    rw [h4] at h3
    omega
  show some (D.int .u32 (bits .xor .u32 4294967295 (x.toNat : Int))) = _
  rw [this, notW_sub]; rfl
theorem binV_eqlW (x y : UInt32) : binV .eql (.w (.c (.d (wD x)))) (.w (.c (.d (wD y)))) = some (.bool (x == y)) := by
  show binI .eql .u32 (x.toNat : Int) .u32 (y.toNat : Int) = _
  rw [binI_eql]
  by_cases h : x = y
  · subst h; simp
  · have : ¬ ((x.toNat : Int) = (y.toNat : Int)) := fun e => h (UInt32.toNat_inj.1 (by omega))
    simp [this, h]
theorem binV_neqW (x y : UInt32) : binV .neq (.w (.c (.d (wD x)))) (.w (.c (.d (wD y)))) = some (.bool (x != y)) := by
  show binI .neq .u32 (x.toNat : Int) .u32 (y.toNat : Int) = _
  rw [binI_neq]
  by_cases h : x = y
  · subst h; simp
  · have : ¬ ((x.toNat : Int) = (y.toNat : Int)) := fun e => h (UInt32.toNat_inj.1 (by omega))
    simp [this, h]
theorem byteW_wD (b : UInt8) : D.int .u32 (IntKind.u32.wrap (b.toNat : Int)) = wD (byteW b) := by
  have h := b.toNat_lt
  rw [IntWalk.u32_in _ (by omega), byteW_nat]; rfl
/-! ### Bytes, in the same way -/
def xorB (x y : UInt8) : UInt8 := x ^^^ y
def andB (x y : UInt8) : UInt8 := x &&& y
def orB (x y : UInt8) : UInt8 := x ||| y
def shlB (x : UInt8) (n : Nat) : UInt8 := UInt8.ofNat (x.toNat * 2 ^ n)
def shrB (x : UInt8) (n : Nat) : UInt8 := UInt8.ofNat (x.toNat / 2 ^ n)
theorem byte_lt (x : UInt8) : x.toNat < 256 := x.toNat_lt
theorem binV_xorB (x y : UInt8) : binV .xor (.w (.c (.d (bD x)))) (.w (.c (.d (bD y)))) = some (bD (xorB x y)) := by
  show binI .xor .u8 (x.toNat : Int) .u8 (y.toNat : Int) = _
  rw [binI_xor, u8_xor_nat _ _ (byte_lt x) (byte_lt y)]; simp [xorB, bD]
theorem binV_andB (x y : UInt8) : binV .and (.w (.c (.d (bD x)))) (.w (.c (.d (bD y)))) = some (bD (andB x y)) := by
  show binI .and .u8 (x.toNat : Int) .u8 (y.toNat : Int) = _
  rw [binI_and, u8_and_nat _ _ (byte_lt x) (byte_lt y)]; simp [andB, bD]
theorem binV_orB (x y : UInt8) : binV .or (.w (.c (.d (bD x)))) (.w (.c (.d (bD y)))) = some (bD (orB x y)) := by
  show binI .or .u8 (x.toNat : Int) .u8 (y.toNat : Int) = _
  rw [binI_or, u8_or_nat _ _ (byte_lt x) (byte_lt y)]; simp [orB, bD]
theorem binV_shlB (x : UInt8) (k : IntKind) (n : Int) (h : 0 ≤ n) : binV .shl (.w (.c (.d (bD x)))) (.w (.c (.d (.int k n)))) = some (bD (shlB x (min n.toNat 8))) := by
  show binI .shl .u8 (x.toNat : Int) k n = _
  rw [binI_shl _ _ _ _ h, IntKind.wrap_u8]
  show some (D.int .u8 ((x.toNat : Int) * 2 ^ min n.toNat 8 % 256)) = _
  have : (x.toNat : Int) * 2 ^ min n.toNat 8 % 256 = ((shlB x (min n.toNat 8)).toNat : Int) := by unfold shlB; simp
  rw [this]; rfl
theorem binV_shrB (x : UInt8) (k : IntKind) (n : Int) (h : 0 ≤ n) : binV .shr (.w (.c (.d (bD x)))) (.w (.c (.d (.int k n)))) = some (bD (shrB x (min n.toNat 8))) := by
  show binI .shr .u8 (x.toNat : Int) k n = _
  rw [binI_shr _ _ _ _ h]
  show some (D.int .u8 ((x.toNat : Int) / 2 ^ min n.toNat 8)) = _
  have : (x.toNat : Int) / 2 ^ min n.toNat 8 = ((shrB x (min n.toNat 8)).toNat : Int) := by
    have h : x.toNat / 2 ^ min n.toNat 8 < 256 := Nat.lt_of_le_of_lt (Nat.div_le_self _ _) (byte_lt x)
    unfold shrB
    rw [UInt8.toNat_ofNat_of_lt' (by simpa [UInt8.size] using h)]
    simp
  rw [this]; rfl
theorem binV_eqlB (x y : UInt8) : binV .eql (.w (.c (.d (bD x)))) (.w (.c (.d (bD y)))) = some (.bool (x == y)) := by
  show binI .eql .u8 (x.toNat : Int) .u8 (y.toNat : Int) = _
  rw [binI_eql]
  by_cases h : x = y
  · subst h; simp
  · have : ¬ ((x.toNat : Int) = (y.toNat : Int)) := fun e => h (UInt8.toNat_inj.1 (by omega))
    simp [this, h]
theorem binV_neqB (x y : UInt8) : binV .neq (.w (.c (.d (bD x)))) (.w (.c (.d (bD y)))) = some (.bool (x != y)) := by
  show binI .neq .u8 (x.toNat : Int) .u8 (y.toNat : Int) = _
  rw [binI_neq]
  by_cases h : x = y
  · subst h; simp
  · have : ¬ ((x.toNat : Int) = (y.toNat : Int)) := fun e => h (UInt8.toNat_inj.1 (by omega))
    simp [this, h]
/-! ### Function literals -/
theorem ev_u (G : Glob) (f : Nat → V) : ev G f .u = .undef := rfl
def closK (P : Program) (G : Glob) (d : Option Nat) (r : List SOper) (K : St → Prop) (f : Nat → V) (h : Heap) (u : Nat → Bool) (F : Nat) (ds : List D) : Prop := aops P G r K ⟨updO f d (.w (.c (.d (.fn F ds)))), h, u⟩
theorem st_clos (P : Program) (G : Glob) (d : Option Nat) (r : List SOper) (K : St → Prop) (f : Nat → V) (h : Heap) (u : Nat → Bool) (F : Nat) (xs : List SX) : aops P G (⟨d, .clos F xs, none⟩ :: r) K ⟨f, h, u⟩ = optK (capVs (xs.map (ev G f))) (closK P G d r K f h u F) := by
  show (match (capVs (xs.map (ev G f))).map fun ds => ((.w (.c (.d (.fn F ds))), h, u) : R) with | some r => _ | none => False) = _
  cases capVs (xs.map (ev G f)) <;> rfl
theorem closK_do (P : Program) (G : Glob) (d : Option Nat) (r : List SOper) (K : St → Prop) (f : Nat → V) (h : Heap) (u : Nat → Bool) (F : Nat) (ds : List D) : closK P G d r K f h u F ds = aops P G r K ⟨updO f d (.w (.c (.d (.fn F ds)))), h, u⟩ := rfl
theorem capVs_nil : capVs [] = some [] := rfl
theorem capVs_rp (cs : List D) (r : List V) : capVs (.w (.c (.rp cs)) :: r) = (capVs r).map fun l => .ref cs :: l := by
  simp only [capVs, capV]; cases capVs r <;> rfl
theorem capVs_int (k : IntKind) (n : Int) (r : List V) : capVs (.w (.c (.d (.int k n))) :: r) = (capVs r).map fun l => .int k n :: l := by
  simp only [capVs, capV]; cases capVs r <;> rfl
theorem capVs_sl (es : List D) (r : List V) : capVs (.w (.c (.d (.sl es))) :: r) = (capVs r).map fun l => .sl es :: l := by
  simp only [capVs, capV]; cases capVs r <;> rfl

/-! ### A range over a function -/
/-- Behind the assignment of a round; behind its body. -/
def rngA (P : Program) (G : Glob) (body : SCode) (K : AX → St → Prop) (e : AX) (s : St) : Prop := match e with | .nrm => awp P G body K s | _ => False
def rngB (f0 : Nat → V) (I : Nat → Heap → (Nat → Bool) → Prop) (Q : AX → St → Prop) (k : Nat) (e : AX) (s : St) : Prop := match e with
  | .nrm => ∃ h' u', Ent s ⟨f0, h', u'⟩ ∧ I (k + 1) h' u'
  | e => ∃ h' u', Ent s ⟨f0, h', u'⟩ ∧ Q e ⟨f0, h', u'⟩
theorem rngA_nrm (P : Program) (G : Glob) (body : SCode) (K : AX → St → Prop) (s : St) : rngA P G body K .nrm s = awp P G body K s := rfl
theorem rngB_nrm (f0 : Nat → V) (I : Nat → Heap → (Nat → Bool) → Prop) (Q : AX → St → Prop) (k : Nat) (s : St) : rngB f0 I Q k .nrm s = ∃ h' u', Ent s ⟨f0, h', u'⟩ ∧ I (k + 1) h' u' := rfl
def rngI (st : Nat → Heap × (Nat → Bool)) (k : Nat) (h : Heap) (u : Nat → Bool) : Prop := (h, u) = st k
/-- What a round begins and ends with is a family st of states, whose slots are all the same. -/
theorem range_st {P : Program} {G : Glob} {Q : AX → St → Prop} {σ : St} {x : SX} {ps : List Nat} {asg body : SCode} {g : Nat} {caps : List D} {xs : List (List D)} (f0 : Nat → V) {f1 : Nat → V} (hf : f0 = f1) (st : Nat → Heap × (Nat → Bool))
    (hev : ev G σ.f x = .w (.c (.d (.fn g caps)))) (hseq : SeqD P G g caps xs) (hlen : ∀ r ∈ xs, r.length = ps.length) (hent : Ent σ ⟨f1, (st 0).1, (st 0).2⟩) (hun : ∀ t ∈ ps ++ asg.writes ++ body.writes, f1 t = .undef)
    (round : ∀ k r, xs[k]? = some r → awp P G asg (rngA P G body (rngB f0 (rngI st) Q k)) ⟨parsL f1 ps r, (st k).1, (st k).2⟩)
    (done : Q .nrm ⟨f1, (st xs.length).1, (st xs.length).2⟩) : awp P G (.rangeF x ps asg body) Q σ := by
  subst hf
  refine ⟨g, caps, xs, f0, (st 0).1, (st 0).2, fun k h u => (h, u) = st k, hev, hseq, hlen, hent, hun, rfl, fun k r h u hr e => ?_, fun h u e => ?_⟩
  · have := round k r hr
    rw [← e] at this
    have e1 : (fun (e : AX) (s : St) => match e with
        | .nrm => awp P G body (fun e s' => match e with
          | .nrm => ∃ h' u', Ent s' ⟨f0, h', u'⟩ ∧ (h', u') = st (k + 1)
          | e => ∃ h' u', Ent s' ⟨f0, h', u'⟩ ∧ Q e ⟨f0, h', u'⟩) s
        | _ => False) = rngA P G body (rngB f0 (rngI st) Q k) := by
      funext e s
      cases e with
      | nrm =>
        show awp P G body _ s = awp P G body _ s
        congr 1
      | _ => rfl
    rw [← e1] at this
    exact this
  · rw [← e] at done; exact done
theorem rng_next {f0 : Nat → V} {f1 : Nat → V} (hf : f0 = f1) {st : Nat → Heap × (Nat → Bool)} {Q : AX → St → Prop} {k : Nat} {s : St} (h : Ent s ⟨f1, (st (k + 1)).1, (st (k + 1)).2⟩) : rngB f0 (rngI st) Q k .nrm s := ⟨_, _, hf ▸ h, rfl⟩
/-- Cells of bytes. -/
def bC (x : UInt8) : C := .d (bD x)
theorem map_C (l : List UInt8) : (l.map bD).map C.d = l.map bC := by rw [List.map_map]; rfl
theorem allD_bs : ∀ l : List UInt8, allD (l.map bC) = some (l.map bD)
  | [] => rfl
  | x :: l => by
    have h := allD_bs l
    show allD (C.d (bD x) :: l.map bC) = _
    simp only [allD, h, List.map_cons, Option.map_some]
theorem mkAgg_bs (l : List UInt8) : mkAgg (l.map bC) = .c (.d (.agg (l.map bD))) := by unfold mkAgg; rw [allD_bs]
theorem setR_map {α β : Type} (f : α → β) (l cs : List α) (off : Nat) : setR (l.map f) off (cs.map f) = (setR l off cs).map f := by
  unfold setR; simp
theorem rep_bC (n : Nat) : List.replicate n (C.d (D.int .u8 0)) = (List.replicate n (0 : UInt8)).map bC := by rw [List.map_replicate]; rfl
theorem toC_b (x : UInt8) : C.d (bD x) = bC x := rfl
theorem stO_bC (l : List UInt8) (i o : Nat) (x : UInt8) : stO .sc (.c (.d (bD x))) i o (.box (l.map bC)) = if i + o < l.length then some (.box ((l.set (i + o) x).map bC)) else none := by
  unfold stO
  simp only [wc_b, List.length_cons, List.length_nil, Kd.size, List.length_map, Nat.zero_add, true_and]
  by_cases h : i + o < l.length
  · rw [if_pos (show i + o + 1 ≤ l.length by omega), if_pos h]
    have : [C.d (bD x)] = [x].map bC := rfl
    rw [this, setR_map]
    congr 3
    unfold setR
    rw [List.set_eq_take_append_cons_drop, if_pos h, List.append_assoc]; rfl
  · rw [if_neg (show ¬ i + o + 1 ≤ l.length by omega), if_neg h]
theorem ids_bC (l : List UInt8) : (l.map bC).flatMap C.ids = [] := by
  induction l with
  | nil => rfl
  | cons x l ih => rw [List.map_cons, List.flatMap_cons, ih]; rfl
theorem ren_bC (g : Nat → Nat) (l : List UInt8) : (l.map bC).map (C.ren g) = l.map bC := by rw [List.map_map]; rfl
/-! ### A byte and a literal -/
theorem bl_eql (x c : UInt8) (n : Int) (h : n = (c.toNat : Int)) : binV .eql (.w (.c (.d (bD x)))) (.w (.c (.d (.int .u8 n)))) = some (.bool (x == c)) := by subst h; exact binV_eqlB x c
theorem bl_neq (x c : UInt8) (n : Int) (h : n = (c.toNat : Int)) : binV .neq (.w (.c (.d (bD x)))) (.w (.c (.d (.int .u8 n)))) = some (.bool (x != c)) := by subst h; exact binV_neqB x c
theorem bl_xor (x c : UInt8) (n : Int) (h : n = (c.toNat : Int)) : binV .xor (.w (.c (.d (bD x)))) (.w (.c (.d (.int .u8 n)))) = some (bD (xorB x c)) := by subst h; exact binV_xorB x c
theorem bl_and (x c : UInt8) (n : Int) (h : n = (c.toNat : Int)) : binV .and (.w (.c (.d (bD x)))) (.w (.c (.d (.int .u8 n)))) = some (bD (andB x c)) := by subst h; exact binV_andB x c
theorem bl_or (x c : UInt8) (n : Int) (h : n = (c.toNat : Int)) : binV .or (.w (.c (.d (bD x)))) (.w (.c (.d (.int .u8 n)))) = some (bD (orB x c)) := by subst h; exact binV_orB x c
theorem bl_gtr0 (x : UInt8) : binV .gtr (.w (.c (.d (bD x)))) (.w (.c (.d (.int .u8 0)))) = some (.bool (x != 0)) := by
  show binI .gtr .u8 (x.toNat : Int) .u8 0 = _
  rw [binI_gtr]
  by_cases h : x = 0
  · subst h; rfl
  · have h2 : x.toNat ≠ 0 := fun e => h (UInt8.toNat_inj.1 e)
    have h3 : (x.toNat : Int) > 0 := by omega
    have h4 : (x != 0) = true := by simp [h]
    rw [h4, if_pos h3]
theorem bl_shr (x : UInt8) (k : IntKind) (j : Nat) (n : Int) (h : n = (j : Int)) (hj : j ≤ 8) : binV .shr (.w (.c (.d (bD x)))) (.w (.c (.d (.int k n)))) = some (bD (shrB x j)) := by
  subst h
  rw [binV_shrB _ _ _ (Int.natCast_nonneg j), Int.toNat_natCast, Nat.min_eq_left hj]
theorem bl_shl (x : UInt8) (k : IntKind) (j : Nat) (n : Int) (h : n = (j : Int)) (hj : j ≤ 8) : binV .shl (.w (.c (.d (bD x)))) (.w (.c (.d (.int k n)))) = some (bD (shlB x j)) := by
  subst h
  rw [binV_shlB _ _ _ (Int.natCast_nonneg j), Int.toNat_natCast, Nat.min_eq_left hj]
/-! ### Long lists of the same: a name that simp leaves alone -/
def repL {α : Type} (n : Nat) (x : α) : List α := List.replicate n x
theorem repL_len {α : Type} (n : Nat) (x : α) : (repL n x).length = n := List.length_replicate
theorem repL_get {α : Type} {n i : Nat} (x : α) (h : i < n) : (repL n x)[i]? = some x := by unfold repL; rw [List.getElem?_replicate, if_pos h]
theorem repL_bD (n : Nat) : repL n (D.int .u8 0) = (repL n (0 : UInt8)).map bD := by unfold repL; rw [List.map_replicate]; rfl
theorem repL_bC (n : Nat) : repL n (C.d (D.int .u8 0)) = (repL n (0 : UInt8)).map bC := by unfold repL; rw [List.map_replicate]; rfl
end Go.Proofs.Ytjebhdadegfbdaa
set_option maxRecDepth 100000
set_option linter.unusedVariables false
set_option linter.unusedSimpArgs false
namespace Go.Proofs.Ytjebhdadegfbdaa
open Go.RowKit
/-- Rules of the walk. -/
theorem wx : ProofOf (And.intro @sx (And.intro @eqV_do (And.intro @eqV2_do (And.intro @eqV3_t (And.intro @eqV3_f (And.intro @eqCs_n (And.intro @eqCs_c (And.intro @andO_do (And.intro @eqC_i (And.intro @eqC_b (And.intro @eqC_s (And.intro @frzV.eq_1 (And.intro @frzV.eq_2 (And.intro @frzV.eq_3 (And.intro @frzV.eq_4 (And.intro @cellsV.eq_1 (And.intro @cellsV.eq_2 (And.intro @killAll.eq_1 (And.intro @killAll.eq_2 (And.intro @killAll.eq_3 (And.intro @ev_u (And.intro @st_clos (And.intro @closK_do (And.intro @capVs_nil (And.intro @capVs_rp (And.intro @capVs_int (And.intro @capVs_sl (And.intro @rngA_nrm (And.intro @ef.eq_1 (And.intro @ef.eq_2 (And.intro @ef.eq_3 (And.intro @ef.eq_4 (And.intro @ef.eq_5 (And.intro @ef.eq_6 (And.intro @ef.eq_7 (And.intro @ef.eq_8 (And.intro @ef.eq_9 (And.intro @ef.eq_10 (And.intro @ef.eq_11 (And.intro @ef.eq_12 (And.intro @ef.eq_13 (And.intro @ef.eq_14 (And.intro @ef.eq_15 (And.intro @ef.eq_16 (And.intro @ef.eq_17 (And.intro @ef.eq_18 (And.intro @ef.eq_19 (And.intro @ef.eq_20 (And.intro @ef.eq_21 (And.intro @ef.eq_22 (And.intro @ef.eq_23 (And.intro @ef.eq_24 (And.intro @ef.eq_25 (And.intro @ef.eq_26 (And.intro @ef.eq_27 (And.intro @ef.eq_28 (And.intro @ef.eq_29 (And.intro @ef.eq_30 (And.intro @ef.eq_31 (And.intro @ef.eq_32 (And.intro @ef.eq_33 (And.intro @ef.eq_34 (And.intro @ef.eq_35 (And.intro @ef.eq_36 (And.intro @ef.eq_37 (And.intro @ef.eq_38 (And.intro @ef.eq_39 (And.intro @ef.eq_40 (And.intro @ef.eq_41 (And.intro @ef.eq_42 (And.intro @ef.eq_43 (And.intro @ef.eq_44 (And.intro @bound.eq_1 (And.intro @bound.eq_2 (And.intro @slV.eq_1 (And.intro @slV.eq_2 (And.intro @slV.eq_3 (And.intro @slV.eq_4 (And.intro @idx.eq_1 (And.intro @ldV.eq_1 (And.intro @ldV.eq_2 (And.intro @ldV.eq_3 (And.intro @ldV.eq_4 (And.intro @ldV.eq_5 (And.intro @ldV.eq_6 (And.intro @ldV.eq_7 (And.intro @ldV.eq_8 (And.intro @ldB.eq_1 (And.intro @ldB.eq_2 (And.intro @ldB.eq_3 (And.intro @ldB.eq_4 (And.intro @ldB.eq_5 (And.intro @ldB.eq_6 (And.intro @ldB.eq_7 (And.intro @stO_box (And.intro @prt.eq_1 (And.intro @prt.eq_2 (And.intro @parts.eq_1 (And.intro @parts.eq_2 (And.intro @elems.eq_1 (And.intro @elems.eq_2 (And.intro @mkAgg.eq_1 (And.intro @wc_w (And.intro @wc_b (And.intro @wc_int (And.intro @wc_bool (And.intro @wc_str (And.intro @wc_sl (And.intro @wc_agg (And.intro @wc_nil (And.intro @wc_own (And.intro @wc_ptr (And.intro @wc_pa (And.intro @wc_mix (And.intro @pureW.eq_1 (And.intro @pureW.eq_2 (And.intro @pureW.eq_3 (And.intro @pureW.eq_4 (And.intro @pureV.eq_1 (And.intro @pureV.eq_2 (And.intro @allD.eq_1 (And.intro @allD.eq_2 (And.intro @allD.eq_3 (And.intro @allDn.eq_1 (And.intro @allDn.eq_2 (And.intro @allDn.eq_3 (And.intro @allDn.eq_4 (And.intro @toV.eq_1 (And.intro @toV.eq_2 (And.intro @toW.eq_1 (And.intro @toW.eq_2 (And.intro @toD.eq_1 (And.intro @toD.eq_2 (And.intro @toD.eq_3 (And.intro @toD.eq_4 (And.intro @toDs.eq_1 (And.intro @toDs.eq_2 (And.intro @toVs.eq_1 (And.intro @toVs.eq_2 (And.intro @obSl.eq_1 (And.intro @obSl.eq_2 (And.intro @ints.eq_1 (And.intro @ints.eq_2 (And.intro @ints.eq_3 (And.intro @impV.eq_1 (And.intro @impV.eq_2 (And.intro @impV.eq_3 (And.intro @ownV.eq_1 (And.intro @ownV.eq_2 (And.intro @ownV.eq_3 (And.intro @W.ro.eq_1 (And.intro @W.ro.eq_2 (And.intro @C.ro.eq_1 (And.intro @C.ro.eq_2 (And.intro @V.ro.eq_1 (And.intro @V.ro.eq_2 (And.intro @V.ro.eq_3 (And.intro @aggW.eq_1 (And.intro @aggW.eq_2 (And.intro @aggW.eq_3 (And.intro @Kd.size.eq_1 (And.intro @Kd.size.eq_2 (And.intro @cells_int (And.intro @cells_bool (And.intro @cells_str (And.intro @cells_sl (And.intro @cells_agg (And.intro @setR.eq_1 (And.intro @resW.eq_1 (And.intro @resW.eq_2 (And.intro @Nat.min_def (And.intro @Option.map_some.{0, 0} (And.intro @Option.map_none.{0, 0} (And.intro @Bool.not_true (And.intro @Bool.not_false (And.intro @decide_true (And.intro @decide_false (And.intro @Bool.and_self (And.intro @List.map_cons.{0, 0} (And.intro @List.map_nil.{0, 0} (And.intro @List.any_cons.{0} (And.intro @List.any_nil.{0} (And.intro @List.length_cons.{0} (And.intro @List.length_nil.{0} (And.intro @List.length_set.{0} (And.intro @List.getElem?_cons_zero.{0} (And.intro @List.getElem?_cons_succ.{0} (And.intro @if_true.{1} (And.intro @if_false.{1} (And.intro @true_and (And.intro @and_true (And.intro @vd.eq_1 (And.intro @Int.natCast_nonneg (And.intro @List.drop_zero.{0} (And.intro @List.take_length.{0} (And.intro @take_map (And.intro @drop_map (And.intro @len_map (And.intro @app_map (And.intro @allSz_bs (And.intro @allSz_ws (And.intro @asI_b (And.intro @asI_w (And.intro @binV_bl (And.intro @binV_br (And.intro @unV_b (And.intro @binV_xorW (And.intro @binV_andW (And.intro @binV_orW (And.intro @binV_addW (And.intro @binV_shlW (And.intro @binV_shrW (And.intro @binV_eqlW (And.intro @binV_neqW (And.intro @binV_xorB (And.intro @binV_andB (And.intro @binV_orB (And.intro @binV_bb1 (And.intro @binV_bb2 (And.intro @binV_bb3 (And.intro @binV_bb4 (And.intro @binV_bb5 (And.intro @binV_bb6 (And.intro @binV_bb7 (And.intro @binV_bb8 (And.intro @toFr_own (And.intro @toFr_nil (And.intro @unV_notW (And.intro @byteW_wD (And.intro @bD_cells (And.intro @wD_cells (And.intro @allSz_b1 (And.intro @allSz_b2 (And.intro @List.set_cons_zero.{0} (And.intro @List.set_cons_succ.{0} (And.intro @flat_ws (And.intro @flat_bs (And.intro @Kd.ag.injEq (And.intro @List.length_append.{0} (And.intro @List.length_replicate.{0} (And.intro @ofL_cons (And.intro @ofL_nil (And.intro @hL_cons (And.intro @hL_nil (And.intro @uL_cons (And.intro @uL_nil (And.intro @lopQ_ex (And.intro @lopQ_ret (And.intro @List.nil_append.{0} (And.intro @List.cons_append.{0} (And.intro @List.take_succ_cons.{0} (And.intro @List.take_zero.{0} (And.intro @List.drop_succ_cons.{0} (And.intro @List.take_nil.{0} (And.intro @List.drop_nil.{0} (And.intro @List.append_nil.{0} (And.intro @List.flatMap_cons.{0, 0} (And.intro @List.flatMap_nil.{0, 0} (And.intro @Option.bind_some.{0, 0} (And.intro @ne_eq.{1} (And.intro @not_false_eq_true (@not_true_eq_false)))))))))))))))))))))))))))))))))))))))))))))))))))))))))))))))))))))))))))))))))))))))))))))))))))))))))))))))))))))))))))))))))))))))))))))))))))))))))))))))))))))))))))))))))))))))))))))))))))))))))))))))))))))))))))))))))))))))))))))))))))))))))))))))))))))) := And.intro @sx (And.intro @eqV_do (And.intro @eqV2_do (And.intro @eqV3_t (And.intro @eqV3_f (And.intro @eqCs_n (And.intro @eqCs_c (And.intro @andO_do (And.intro @eqC_i (And.intro @eqC_b (And.intro @eqC_s (And.intro @frzV.eq_1 (And.intro @frzV.eq_2 (And.intro @frzV.eq_3 (And.intro @frzV.eq_4 (And.intro @cellsV.eq_1 (And.intro @cellsV.eq_2 (And.intro @killAll.eq_1 (And.intro @killAll.eq_2 (And.intro @killAll.eq_3 (And.intro @ev_u (And.intro @st_clos (And.intro @closK_do (And.intro @capVs_nil (And.intro @capVs_rp (And.intro @capVs_int (And.intro @capVs_sl (And.intro @rngA_nrm (And.intro @ef.eq_1 (And.intro @ef.eq_2 (And.intro @ef.eq_3 (And.intro @ef.eq_4 (And.intro @ef.eq_5 (And.intro @ef.eq_6 (And.intro @ef.eq_7 (And.intro @ef.eq_8 (And.intro @ef.eq_9 (And.intro @ef.eq_10 (And.intro @ef.eq_11 (And.intro @ef.eq_12 (And.intro @ef.eq_13 (And.intro @ef.eq_14 (And.intro @ef.eq_15 (And.intro @ef.eq_16 (And.intro @ef.eq_17 (And.intro @ef.eq_18 (And.intro @ef.eq_19 (And.intro @ef.eq_20 (And.intro @ef.eq_21 (And.intro @ef.eq_22 (And.intro @ef.eq_23 (And.intro @ef.eq_24 (And.intro @ef.eq_25 (And.intro @ef.eq_26 (And.intro @ef.eq_27 (And.intro @ef.eq_28 (And.intro @ef.eq_29 (And.intro @ef.eq_30 (And.intro @ef.eq_31 (And.intro @ef.eq_32 (And.intro @ef.eq_33 (And.intro @ef.eq_34 (And.intro @ef.eq_35 (And.intro @ef.eq_36 (And.intro @ef.eq_37 (And.intro @ef.eq_38 (And.intro @ef.eq_39 (And.intro @ef.eq_40 (And.intro @ef.eq_41 (And.intro @ef.eq_42 (And.intro @ef.eq_43 (And.intro @ef.eq_44 (And.intro @bound.eq_1 (And.intro @bound.eq_2 (And.intro @slV.eq_1 (And.intro @slV.eq_2 (And.intro @slV.eq_3 (And.intro @slV.eq_4 (And.intro @idx.eq_1 (And.intro @ldV.eq_1 (And.intro @ldV.eq_2 (And.intro @ldV.eq_3 (And.intro @ldV.eq_4 (And.intro @ldV.eq_5 (And.intro @ldV.eq_6 (And.intro @ldV.eq_7 (And.intro @ldV.eq_8 (And.intro @ldB.eq_1 (And.intro @ldB.eq_2 (And.intro @ldB.eq_3 (And.intro @ldB.eq_4 (And.intro @ldB.eq_5 (And.intro @ldB.eq_6 (And.intro @ldB.eq_7 (And.intro @stO_box (And.intro @prt.eq_1 (And.intro @prt.eq_2 (And.intro @parts.eq_1 (And.intro @parts.eq_2 (And.intro @elems.eq_1 (And.intro @elems.eq_2 (And.intro @mkAgg.eq_1 (And.intro @wc_w (And.intro @wc_b (And.intro @wc_int (And.intro @wc_bool (And.intro @wc_str (And.intro @wc_sl (And.intro @wc_agg (And.intro @wc_nil (And.intro @wc_own (And.intro @wc_ptr (And.intro @wc_pa (And.intro @wc_mix (And.intro @pureW.eq_1 (And.intro @pureW.eq_2 (And.intro @pureW.eq_3 (And.intro @pureW.eq_4 (And.intro @pureV.eq_1 (And.intro @pureV.eq_2 (And.intro @allD.eq_1 (And.intro @allD.eq_2 (And.intro @allD.eq_3 (And.intro @allDn.eq_1 (And.intro @allDn.eq_2 (And.intro @allDn.eq_3 (And.intro @allDn.eq_4 (And.intro @toV.eq_1 (And.intro @toV.eq_2 (And.intro @toW.eq_1 (And.intro @toW.eq_2 (And.intro @toD.eq_1 (And.intro @toD.eq_2 (And.intro @toD.eq_3 (And.intro @toD.eq_4 (And.intro @toDs.eq_1 (And.intro @toDs.eq_2 (And.intro @toVs.eq_1 (And.intro @toVs.eq_2 (And.intro @obSl.eq_1 (And.intro @obSl.eq_2 (And.intro @ints.eq_1 (And.intro @ints.eq_2 (And.intro @ints.eq_3 (And.intro @impV.eq_1 (And.intro @impV.eq_2 (And.intro @impV.eq_3 (And.intro @ownV.eq_1 (And.intro @ownV.eq_2 (And.intro @ownV.eq_3 (And.intro @W.ro.eq_1 (And.intro @W.ro.eq_2 (And.intro @C.ro.eq_1 (And.intro @C.ro.eq_2 (And.intro @V.ro.eq_1 (And.intro @V.ro.eq_2 (And.intro @V.ro.eq_3 (And.intro @aggW.eq_1 (And.intro @aggW.eq_2 (And.intro @aggW.eq_3 (And.intro @Kd.size.eq_1 (And.intro @Kd.size.eq_2 (And.intro @cells_int (And.intro @cells_bool (And.intro @cells_str (And.intro @cells_sl (And.intro @cells_agg (And.intro @setR.eq_1 (And.intro @resW.eq_1 (And.intro @resW.eq_2 (And.intro @Nat.min_def (And.intro @Option.map_some.{0, 0} (And.intro @Option.map_none.{0, 0} (And.intro @Bool.not_true (And.intro @Bool.not_false (And.intro @decide_true (And.intro @decide_false (And.intro @Bool.and_self (And.intro @List.map_cons.{0, 0} (And.intro @List.map_nil.{0, 0} (And.intro @List.any_cons.{0} (And.intro @List.any_nil.{0} (And.intro @List.length_cons.{0} (And.intro @List.length_nil.{0} (And.intro @List.length_set.{0} (And.intro @List.getElem?_cons_zero.{0} (And.intro @List.getElem?_cons_succ.{0} (And.intro @if_true.{1} (And.intro @if_false.{1} (And.intro @true_and (And.intro @and_true (And.intro @vd.eq_1 (And.intro @Int.natCast_nonneg (And.intro @List.drop_zero.{0} (And.intro @List.take_length.{0} (And.intro @take_map (And.intro @drop_map (And.intro @len_map (And.intro @app_map (And.intro @allSz_bs (And.intro @allSz_ws (And.intro @asI_b (And.intro @asI_w (And.intro @binV_bl (And.intro @binV_br (And.intro @unV_b (And.intro @binV_xorW (And.intro @binV_andW (And.intro @binV_orW (And.intro @binV_addW (And.intro @binV_shlW (And.intro @binV_shrW (And.intro @binV_eqlW (And.intro @binV_neqW (And.intro @binV_xorB (And.intro @binV_andB (And.intro @binV_orB (And.intro @binV_bb1 (And.intro @binV_bb2 (And.intro @binV_bb3 (And.intro @binV_bb4 (And.intro @binV_bb5 (And.intro @binV_bb6 (And.intro @binV_bb7 (And.intro @binV_bb8 (And.intro @toFr_own (And.intro @toFr_nil (And.intro @unV_notW (And.intro @byteW_wD (And.intro @bD_cells (And.intro @wD_cells (And.intro @allSz_b1 (And.intro @allSz_b2 (And.intro @List.set_cons_zero.{0} (And.intro @List.set_cons_succ.{0} (And.intro @flat_ws (And.intro @flat_bs (And.intro @Kd.ag.injEq (And.intro @List.length_append.{0} (And.intro @List.length_replicate.{0} (And.intro @ofL_cons (And.intro @ofL_nil (And.intro @hL_cons (And.intro @hL_nil (And.intro @uL_cons (And.intro @uL_nil (And.intro @lopQ_ex (And.intro @lopQ_ret (And.intro @List.nil_append.{0} (And.intro @List.cons_append.{0} (And.intro @List.take_succ_cons.{0} (And.intro @List.take_zero.{0} (And.intro @List.drop_succ_cons.{0} (And.intro @List.take_nil.{0} (And.intro @List.drop_nil.{0} (And.intro @List.append_nil.{0} (And.intro @List.flatMap_cons.{0, 0} (And.intro @List.flatMap_nil.{0, 0} (And.intro @Option.bind_some.{0, 0} (And.intro @ne_eq.{1} (And.intro @not_false_eq_true (@not_true_eq_false)))))))))))))))))))))))))))))))))))))))))))))))))))))))))))))))))))))))))))))))))))))))))))))))))))))))))))))))))))))))))))))))))))))))))))))))))))))))))))))))))))))))))))))))))))))))))))))))))))))))))))))))))))))))))))))))))))))))))))))))))))))))))))))))))))))
/-- Rules of the walk. -/
theorem wy : ProofOf (And.intro @stO_c (And.intro @optOne_some (And.intro @one_int (And.intro @one_bool (And.intro @one_str (And.intro @one_sl (And.intro @one_b (And.intro @one_w (@cond_true.{1}))))))))) := And.intro @stO_c (And.intro @optOne_some (And.intro @one_int (And.intro @one_bool (And.intro @one_str (And.intro @one_sl (And.intro @one_b (And.intro @one_w (@cond_true.{1}))))))))
/-- Rules of the walk. -/
theorem wz : ProofOf (And.intro @Bool.false_and (And.intro @Bool.and_false (And.intro @binS_refl (And.intro @Nat.sub_zero (And.intro @allSz_nil (And.intro @allSz_cons (And.intro @beq_self_eq_true.{0} (And.intro @Bool.and_true (And.intro @Bool.true_and (And.intro @rep1 (And.intro @rep2 (And.intro @rep3 (And.intro @rep4 (And.intro @rep5 (And.intro @rep6 (And.intro @List.replicate_zero.{0} (And.intro @Nat.mul_one (And.intro @Nat.one_mul (And.intro @Nat.add_zero (And.intro @Nat.zero_add (And.intro @wr_i64 (And.intro @wr_u64 (And.intro @wr_u32 (And.intro @wr_u8 (And.intro @Int.natCast_add (And.intro @Int.natCast_mul (And.intro @Int.natCast_one (And.intro @Int.natCast_zero (@Int.cast_ofNat_Int))))))))))))))))))))))))))))) := And.intro @Bool.false_and (And.intro @Bool.and_false (And.intro @binS_refl (And.intro @Nat.sub_zero (And.intro @allSz_nil (And.intro @allSz_cons (And.intro @beq_self_eq_true.{0} (And.intro @Bool.and_true (And.intro @Bool.true_and (And.intro @rep1 (And.intro @rep2 (And.intro @rep3 (And.intro @rep4 (And.intro @rep5 (And.intro @rep6 (And.intro @List.replicate_zero.{0} (And.intro @Nat.mul_one (And.intro @Nat.one_mul (And.intro @Nat.add_zero (And.intro @Nat.zero_add (And.intro @wr_i64 (And.intro @wr_u64 (And.intro @wr_u32 (And.intro @wr_u8 (And.intro @Int.natCast_add (And.intro @Int.natCast_mul (And.intro @Int.natCast_one (And.intro @Int.natCast_zero (@Int.cast_ofNat_Int))))))))))))))))))))))))))))
/-- Rules of the walk. -/
theorem wex : ProofOf (And.intro @V.ren.eq_1 (And.intro @V.ren.eq_2 (And.intro @V.ren.eq_3 (And.intro @W.ren.eq_1 (And.intro @W.ren.eq_2 (And.intro @C.ren.eq_1 (And.intro @C.ren.eq_2 (And.intro @C.ren.eq_3 (And.intro @C.ren.eq_4 (And.intro @V.ids.eq_1 (And.intro @V.ids.eq_2 (And.intro @V.ids.eq_3 (And.intro @W.ids.eq_1 (And.intro @W.ids.eq_2 (And.intro @C.ids.eq_1 (And.intro @C.ids.eq_2 (And.intro @C.ids.eq_3 (And.intro @C.ids.eq_4 (And.intro @Ob.ren.eq_1 (And.intro @Ob.ren.eq_2 (And.intro @Ob.ids.eq_1 (And.intro @Ob.ids.eq_2 (And.intro @Int.cast_ofNat_Int (And.intro @List.replicate_zero.{0} (And.intro @agF_nil (And.intro @agF_cons (And.intro @agH_nil (And.intro @agH_cons (And.intro @id_eq.{1} (And.intro @Nat.mul_one (And.intro @Nat.mul_zero (And.intro @Nat.zero_mul (@List.flatten_nil.{0}))))))))))))))))))))))))))))))))) := And.intro @V.ren.eq_1 (And.intro @V.ren.eq_2 (And.intro @V.ren.eq_3 (And.intro @W.ren.eq_1 (And.intro @W.ren.eq_2 (And.intro @C.ren.eq_1 (And.intro @C.ren.eq_2 (And.intro @C.ren.eq_3 (And.intro @C.ren.eq_4 (And.intro @V.ids.eq_1 (And.intro @V.ids.eq_2 (And.intro @V.ids.eq_3 (And.intro @W.ids.eq_1 (And.intro @W.ids.eq_2 (And.intro @C.ids.eq_1 (And.intro @C.ids.eq_2 (And.intro @C.ids.eq_3 (And.intro @C.ids.eq_4 (And.intro @Ob.ren.eq_1 (And.intro @Ob.ren.eq_2 (And.intro @Ob.ids.eq_1 (And.intro @Ob.ids.eq_2 (And.intro @Int.cast_ofNat_Int (And.intro @List.replicate_zero.{0} (And.intro @agF_nil (And.intro @agF_cons (And.intro @agH_nil (And.intro @agH_cons (And.intro @id_eq.{1} (And.intro @Nat.mul_one (And.intro @Nat.mul_zero (And.intro @Nat.zero_mul (@List.flatten_nil.{0}))))))))))))))))))))))))))))))))
/-- Rules of the walk. -/
theorem wez : ProofOf (And.intro @Int.natCast_add (And.intro @Int.natCast_mul (And.intro @Int.natCast_one (@Int.natCast_zero)))) := And.intro @Int.natCast_add (And.intro @Int.natCast_mul (And.intro @Int.natCast_one (@Int.natCast_zero)))
end Go.Proofs.Ytjebhdadegfbdaa
set_option linter.unusedVariables false
set_option linter.unusedSimpArgs false
namespace Go.Proofs.Ytjebhdadegfbdaa
open Go.RowKit

/-! ### Decimal digits -/
/-- A number in at least n digits. -/
def decL (v n : Nat) : List UInt8 := if v = 0 ∧ n = 0 then [] else decL (v / 10) (n - 1) ++ [UInt8.ofNat (48 + v % 10)]
termination_by v + n
theorem dec_0 : decL 0 0 = [] := by rw [decL, if_pos ⟨rfl, rfl⟩]
theorem dec_s {v n : Nat} (h : ¬ (v = 0 ∧ n = 0)) : decL v n = decL (v / 10) (n - 1) ++ [UInt8.ofNat (48 + v % 10)] := by rw [decL, if_neg h]
theorem digit_nat (v : Nat) : (UInt8.ofNat (48 + v % 10)).toNat = 48 + v % 10 := by
  rw [UInt8.toNat_ofNat']; omega
/-- What digits say. -/
def valD (l : List UInt8) : Nat := l.foldl (fun a x => 10 * a + (x.toNat - 48)) 0
theorem valD_snoc (l : List UInt8) (x : UInt8) : valD (l ++ [x]) = 10 * valD l + (x.toNat - 48) := by unfold valD; rw [List.foldl_append]; rfl
theorem dec_ind {p : Nat → Nat → Prop} (h0 : p 0 0) (hs : ∀ v n, ¬ (v = 0 ∧ n = 0) → p (v / 10) (n - 1) → p v n) : ∀ v n, p v n := by
  have key : ∀ k v n, v + n = k → p v n := by
    intro k
    induction k using Nat.strongRecOn with
    | _ k ih =>
      intro v n e
      by_cases h : v = 0 ∧ n = 0
      · rw [h.1, h.2]; exact h0
      · exact hs v n h (ih (v / 10 + (n - 1)) (by omega) _ _ rfl)
  exact fun v n => key _ v n rfl
theorem val_dec (v n : Nat) : valD (decL v n) = v := by
  refine dec_ind (p := fun v n => valD (decL v n) = v) (by rw [dec_0]; rfl) (fun v n h ih => ?_) v n
  rw [dec_s h, valD_snoc, ih, digit_nat]; omega
theorem dec_digit (v n : Nat) : ∀ x ∈ decL v n, 48 ≤ x.toNat ∧ x.toNat ≤ 57 := by
  refine dec_ind (p := fun v n => ∀ x ∈ decL v n, 48 ≤ x.toNat ∧ x.toNat ≤ 57) (by rw [dec_0]; intro x hx; cases hx) (fun v n h ih => ?_) v n
  intro x hx
  rw [dec_s h] at hx
  rcases List.mem_append.1 hx with hx | hx
  · exact ih x hx
  · rw [List.mem_singleton.1 hx, digit_nat]; omega
theorem dec_ge (v n : Nat) : n ≤ (decL v n).length := by
  refine dec_ind (p := fun v n => n ≤ (decL v n).length) (Nat.zero_le _) (fun v n h ih => ?_) v n
  rw [dec_s h, List.length_append, List.length_singleton]; omega
theorem dec_le : ∀ (k v n : Nat), v < 10 ^ k → n ≤ k → (decL v n).length ≤ k
  | 0, v, n, h1, h2 => by
    have : v = 0 := by simp at h1; omega
    subst this
    obtain rfl : n = 0 := by omega
    rw [dec_0]; exact Nat.le_refl _
  | k + 1, v, n, h1, h2 => by
    by_cases h : v = 0 ∧ n = 0
    · rw [h.1, h.2, dec_0]; exact Nat.zero_le _
    · have := dec_le k (v / 10) (n - 1) (by rw [Nat.pow_succ] at h1; omega) (by omega)
      rw [dec_s h, List.length_append, List.length_singleton]; omega
theorem dec_len {v n : Nat} (h : v < 10 ^ n) : (decL v n).length = n := Nat.le_antisymm (dec_le n v n h (Nat.le_refl _)) (dec_ge v n)
/-- Two numbers with the same digits are the same. -/
theorem dec_inj {v w n m : Nat} (h : decL v n = decL w m) : v = w := by rw [← val_dec v n, ← val_dec w m, h]
/-! ### Parts of an instant -/
/-- Go's quotient, rounded down. -/
def belowI (a b : Int) : Int := if a.tmod b < 0 then a.tdiv b - 1 else a.tdiv b
theorem below_ediv (a : Int) {b : Int} (h : 0 < b) : belowI a b = a / b := by
  unfold belowI
  have h1 := Int.tmod_add_mul_tdiv a b
  have h2 := Int.emod_add_mul_ediv a b
  have h3 := Int.emod_nonneg a (show b ≠ 0 by omega)
  have h4 := Int.emod_lt_of_pos a h
  have h5 : a.tmod b < b := Int.tmod_lt_of_pos a h
  have h6 : -b < a.tmod b := by
    have := Int.tmod_lt_of_pos (-a) h
    rw [Int.neg_tmod] at this; omega
  split
  · rename_i hn
    have e : b * (a.tdiv b - 1) = b * a.tdiv b - b := by rw [Int.mul_sub, Int.mul_one]
    have key : b * (a.tdiv b - 1) + (a.tmod b + b) = a := by rw [e]; omega
    have := (Int.ediv_emod_unique (a := a) h (r := a.tmod b + b) (q := a.tdiv b - 1)).2 ⟨by omega, by omega, by omega⟩
    exact this.1.symm
  · have := (Int.ediv_emod_unique (a := a) h (r := a.tmod b) (q := a.tdiv b)).2 ⟨by omega, by omega, by omega⟩
    exact this.1.symm
/-- .. rounded down or up. -/
def roundI (a b : Int) (up : Bool) : Int := if up = true ∧ a.tmod b ≠ 0 then a / b + 1 else a / b
theorem round_enclose (a : Int) {b : Int} (h : 0 < b) : b * roundI a b false ≤ a ∧ a ≤ b * roundI a b true ∧ roundI a b false ≤ roundI a b true ∧ roundI a b true ≤ roundI a b false + 1 ∧ (roundI a b true = roundI a b false ↔ a % b = 0) := by
  have h2 := Int.emod_add_mul_ediv a b
  have h3 := Int.emod_nonneg a (show b ≠ 0 by omega)
  have h4 := Int.emod_lt_of_pos a h
  have h5 : a.tmod b = 0 ↔ a % b = 0 := by rw [← Int.dvd_iff_tmod_eq_zero, Int.dvd_iff_emod_eq_zero]
  unfold roundI
  by_cases hz : a.tmod b = 0
  · have hm := h5.1 hz
    simp only [hz, ne_eq, not_true_eq_false, and_false, if_false, Bool.false_eq_true]
    exact ⟨by omega, by omega, by omega, by omega, by simp [hm]⟩
  · have hm : ¬ a % b = 0 := fun e => hz (h5.2 e)
    have e : b * (a / b + 1) = b * (a / b) + b := by rw [Int.mul_add, Int.mul_one]
    simp only [hz, ne_eq, not_false_eq_true, and_true, if_true, Bool.false_eq_true, if_false]
    refine ⟨by omega, by rw [e]; omega, by omega, by omega, by constructor <;> intro k <;> omega⟩
/-! ### Text -/
def fmtU (s p : Nat) : List UInt8 := decL s 1 ++ 46 :: decL p 7
def fmtL (t : Int) : List UInt8 := if t / 1048576 < 0 then 45 :: fmtU (-(t / 1048576)).toNat (t % 1048576).toNat else fmtU (t / 1048576).toNat (t % 1048576).toNat
def digB (s : List UInt8) : Bool := s.all fun x => decide (48 ≤ x.toNat ∧ x.toNat ≤ 57)
def digO (s : List UInt8) : Bool := decide (1 ≤ s.length ∧ s.length ≤ 18) && digB s
/-- A number and its parts, without a sign: of which seconds and ticks it is the text. -/
def prsU (M : Int) (t : List UInt8) : Option (Nat × Nat) :=
  if t.length < 9 ∨ t.getD (t.length - 8) 0 ≠ 46 then none else if digO (t.take (t.length - 8)) = true ∧ digO (t.drop (t.length - 7)) = true ∧ ¬ (valD (t.take (t.length - 8)) : Int) > M / 1048576 + 1 then some (valD (t.take (t.length - 8)), valD (t.drop (t.length - 7))) else none
def prsV (M : Int) (s : List UInt8) : Option Int := match s with
  | [] => none
  | c :: r => if c = 45 then (prsU M r).map fun q => -((q.1 : Int) * 1048576) + q.2 else (prsU M (c :: r)).map fun q => (q.1 : Int) * 1048576 + q.2
def prsL (M : Int) (s : List UInt8) : Option Int := match prsV M s with
  | none => none
  | some v => if -M ≤ v ∧ v ≤ M ∧ fmtL v = s then some v else none
theorem dec_ok {v n k : Nat} (hn : 1 ≤ n) (hk : n ≤ k) (h : v < 10 ^ k) (hk18 : k ≤ 18) : digO (decL v n) = true := by
  have h1 := dec_ge v n
  have h2 := dec_le k v n h hk
  unfold digO digB
  rw [decide_eq_true ⟨by omega, by omega⟩, Bool.true_and, List.all_eq_true]
  exact fun x hx => decide_eq_true (dec_digit v n x hx)
theorem prsU_fmt {M : Int} {s p : Nat} (hM : M < 1048576 * 10 ^ 17) (hs : (s : Int) ≤ M / 1048576 + 1) (hp : p < 1048576) : prsU M (fmtU s p) = some (s, p) := by
  have l1 := dec_ge s 1
  have l7 : (decL p 7).length = 7 := dec_len (by omega)
  have hl : (fmtU s p).length = (decL s 1).length + 8 := by unfold fmtU; rw [List.length_append, List.length_cons, l7]
  have e1 : (fmtU s p).take ((fmtU s p).length - 8) = decL s 1 := by
    rw [hl, Nat.add_sub_cancel]; exact List.take_left
  have e2 : (fmtU s p).drop ((fmtU s p).length - 7) = decL p 7 := by
    have e : fmtU s p = (decL s 1 ++ [46]) ++ decL p 7 := by unfold fmtU; rw [List.append_assoc]; rfl
    rw [hl, e, List.drop_left' (by rw [List.length_append, List.length_singleton]; omega)]
  have e3 : (fmtU s p).getD ((fmtU s p).length - 8) 0 = 46 := by
    rw [hl, Nat.add_sub_cancel]
    unfold fmtU
    rw [List.getD_eq_getElem?_getD, List.getElem?_append_right (Nat.le_refl _), Nat.sub_self]; rfl
  have d1 : digO (decL s 1) = true := dec_ok (k := 18) (by decide) (by decide) (by omega) (by decide)
  have d2 : digO (decL p 7) = true := dec_ok (k := 7) (by decide) (by decide) (by omega) (by decide)
  unfold prsU
  rw [e1, e2, e3, if_neg (by rw [hl]; simp; omega), val_dec, val_dec, if_pos ⟨d1, d2, by omega⟩]
theorem dec_head {v n : Nat} (h : ¬ (v = 0 ∧ n = 0)) : ∃ c r, decL v n = c :: r ∧ c ≠ 45 := by
  have h1 : (decL v n).length ≠ 0 := by rw [dec_s h]; simp
  match e : decL v n, h1 with
  | c :: r, _ =>
    refine ⟨c, r, rfl, fun hc => ?_⟩
    have := dec_digit v n c (by rw [e]; exact List.mem_cons_self)
    rw [hc] at this
    have e45 : (45 : UInt8).toNat = 45 := rfl
    omega
theorem prsV_neg (M : Int) (r : List UInt8) : prsV M (45 :: r) = (prsU M r).map fun q => -((q.1 : Int) * 1048576) + q.2 := by
  unfold prsV
  exact if_pos rfl
theorem prsV_pos (M : Int) {c : UInt8} (r : List UInt8) (h : c ≠ 45) : prsV M (c :: r) = (prsU M (c :: r)).map fun q => (q.1 : Int) * 1048576 + q.2 := by
  unfold prsV
  exact if_neg h
/-- Parse undoes Format. -/
theorem prs_fmt {M t : Int} (hM : M < 1048576 * 10 ^ 17) (h1 : -M ≤ t) (h2 : t ≤ M) : prsL M (fmtL t) = some t := by
  have hp : (t % 1048576).toNat < 1048576 := by omega
  have hv : prsV M (fmtL t) = some t := by
    unfold fmtL
    by_cases hn : t / 1048576 < 0
    · rw [if_pos hn]
      have hu := prsU_fmt (M := M) (s := (-(t / 1048576)).toNat) (p := (t % 1048576).toNat) hM (by omega) hp
      rw [prsV_neg, hu]
      show some (-(((-(t / 1048576)).toNat : Int) * 1048576) + ((t % 1048576).toNat : Int)) = some t
      congr 1; omega
    · rw [if_neg hn]
      have hu := prsU_fmt (M := M) (s := (t / 1048576).toNat) (p := (t % 1048576).toNat) hM (by omega) hp
      obtain ⟨c, r, hc, hne⟩ := dec_head (v := (t / 1048576).toNat) (n := 1) (by omega)
      have e : fmtU (t / 1048576).toNat (t % 1048576).toNat = c :: (r ++ 46 :: decL (t % 1048576).toNat 7) := by unfold fmtU; rw [hc]; rfl
      rw [e] at hu ⊢
      rw [prsV_pos M _ hne, hu]
      show some (((t / 1048576).toNat : Int) * 1048576 + ((t % 1048576).toNat : Int)) = some t
      congr 1; omega
  unfold prsL
  rw [hv]
  exact if_pos ⟨h1, h2, rfl⟩
theorem prs_some {M : Int} {s : List UInt8} {v : Int} (h : prsL M s = some v) : -M ≤ v ∧ v ≤ M ∧ fmtL v = s := by
  unfold prsL at h
  split at h
  · cases h
  · split at h
    · rename_i hc
      cases h; exact hc
    · cases h
def oV (o : Option Int) : Int := o.getD 0
/-- What Parse returns: the instant whose text it is. -/
def prsT (l : List UInt8) : Option Int := prsL 1152921504606846976 l
end Go.Proofs.Ytjebhdadegfbdaa
set_option linter.unusedVariables false
set_option linter.unusedSimpArgs false
namespace Go.Proofs.Ytjebhdadegfbdaa

/-! ### By elements -/
def frA (p : Lp) : Int := (p.1 - 43200) * 1048576
def frB (p : Lp) : Int := (p.1 + 43200) * 1048576
theorem win_gel {l : List Lp} {f lo : Int} (h : leapOk lo f l) (i : Nat) (hi : i < l.length) : (lo - 43200 + f) * 1048576 ≤ winA (lastO f l i) (lpG l i) ∧ winA (lastO f l i) (lpG l i) + 86399 * 1048576 ≤ winB (lpG l i) ∧ ((lpG l i).2 = lastO f l i + 1 ∨ (lpG l i).2 = lastO f l i - 1) := win_ge h i hi
theorem fr_ge : ∀ {l : List Lp} {f lo : Int}, leapOk lo f l → ∀ i, i < l.length → (lo - 43200) * 1048576 ≤ frA (lpG l i)
  | p :: r, f, lo, h, 0, _ => by
    have h1 := h.1
    show _ ≤ frA p
    unfold frA; omega
  | p :: r, f, lo, h, i + 1, hi => by
    have h1 := h.1
    have ih := fr_ge h.2.2.2.2 i (by simpa using hi)
    rw [lpG_cons]
    omega
theorem sm_at1 : ∀ {l : List Lp} {f lo : Int}, leapOk lo f l → ∀ {t : Int} {i : Nat}, i < l.length → winB (lpG l i) ≤ t → (i + 1 < l.length → t < winA (lpG l i).2 (lpG l (i + 1))) → smN f l t = t - (lpG l i).2 * 1048576
  | p :: r, f, lo, h, t, 0, _, h1, h2 => by
    have h1 : winB p ≤ t := h1
    rw [sm_skip h h1]
    show _ = t - p.2 * 1048576
    cases r with
    | nil => rfl
    | cons q r => exact if_pos (h2 (by simp))
  | p :: r, f, lo, h, t, i + 1, hi, h1, h2 => by
    have hi' : i < r.length := by simpa using hi
    obtain ⟨w1, w2, _⟩ := win_gel h.2.2.2.2 i hi'
    rw [lpG_cons] at h1 h2 ⊢
    have hB : winB p ≤ t := by unfold winB at *; omega
    rw [sm_skip h hB]
    exact sm_at1 h.2.2.2.2 hi' h1 (fun k => h2 (by simpa using k))
theorem sm_at2 : ∀ {l : List Lp} {f lo : Int}, leapOk lo f l → ∀ {t : Int} {i : Nat}, i < l.length → winA (lastO f l i) (lpG l i) ≤ t → t < winB (lpG l i) → smN f l t = frA (lpG l i) + (t - winA (lastO f l i) (lpG l i)) * 86400 / (86400 + (lpG l i).2 - lastO f l i)
  | p :: r, f, lo, h, t, 0, _, h1, h2 => by
    have h1 : winA f p ≤ t := h1
    have h2 : t < winB p := h2
    show (if t < winA f p then _ else if t < winB p then _ else _) = _
    rw [if_neg (by omega), if_pos h2]; rfl
  | p :: r, f, lo, h, t, i + 1, hi, h1, h2 => by
    have hi' : i < r.length := by simpa using hi
    obtain ⟨w1, w2, _⟩ := win_gel h.2.2.2.2 i hi'
    rw [lpG_cons] at h1 h2 ⊢
    rw [lastO_cons] at h1 ⊢
    have hB : winB p ≤ t := by unfold winB at *; omega
    rw [sm_skip h hB]
    exact sm_at2 h.2.2.2.2 hi' h1 h2
theorem sm_at3 {l : List Lp} {f : Int} {t : Int} (h : 0 < l.length → t < winA f (lpG l 0)) : smN f l t = t - f * 1048576 := by
  cases l with
  | nil => rfl
  | cons p r => exact if_pos (h (by simp))
/-- A later element's window begins behind the end of an earlier one's. -/
theorem win_next {l : List Lp} {f lo : Int} (h : leapOk lo f l) {i : Nat} (hi : i + 1 < l.length) : winB (lpG l i) ≤ winA (lpG l i).2 (lpG l (i + 1)) := by
  induction i generalizing l f lo with
  | zero =>
    cases l with
    | nil => simp at hi
    | cons p r =>
      obtain ⟨w1, _⟩ := win_gel h.2.2.2.2 0 (by simpa using hi)
      have w1 : (p.1 + 172800 - 43200 + p.2) * 1048576 ≤ winA p.2 (lpG r 0) := w1
      show winB p ≤ winA p.2 (lpG r 0)
      unfold winB; omega
  | succ i ih =>
    cases l with
    | nil => simp at hi
    | cons p r =>
      rw [lpG_cons, lpG_cons]
      exact ih h.2.2.2.2 (by simpa using hi)
/-! ### The least instant at which the clock shows at least s -/
def lsN (f : Int) : List Lp → Int → Int
  | [], s => s + f * 1048576
  | p :: r, s => if s < frA p then s + f * 1048576 else if s < frB p then winA f p + roundI ((s - frA p) * (86400 + p.2 - f)) 86400 true else lsN p.2 r s
theorem up_le (a x : Int) : roundI a 86400 true ≤ x ↔ a ≤ 86400 * x := by
  have h := round_enclose a (b := 86400) (by decide)
  have e : roundI a 86400 false = a / 86400 := by unfold roundI; rw [if_neg (by intro k; cases k.1)]
  rw [e] at h
  omega
theorem sm_winA {p : Lp} {r : List Lp} {f lo : Int} (h : leapOk lo f (p :: r)) : smN f (p :: r) (winA f p) = frA p := (sm_win h 0 (by simp)).1
theorem sm_winB {p : Lp} {r : List Lp} {f lo : Int} (h : leapOk lo f (p :: r)) : smN f (p :: r) (winB p) = frB p := (sm_win h 0 (by simp)).2
theorem ls_gal : ∀ {l : List Lp} {f lo : Int}, leapOk lo f l → ∀ s t : Int, s ≤ smN f l t ↔ lsN f l s ≤ t
  | [], f, lo, _, s, t => by
    show s ≤ t - f * 1048576 ↔ s + f * 1048576 ≤ t
    omega
  | p :: r, f, lo, h, s, t => by
    have hd := h.2.2.2.1
    have eA : winA f p = frA p + f * 1048576 := by unfold winA frA; omega
    have eB : winB p = winA f p + (86400 + (p.2 - f)) * 1048576 := by unfold winB winA; omega
    have eF : frB p = frA p + 90596966400 := by unfold frA frB; omega
    have hA := sm_winA h
    have hB := sm_winB h
    have sm1 : t < winA f p → smN f (p :: r) t = t - f * 1048576 := fun k => if_pos k
    have sm2 : ¬ t < winA f p → t < winB p → smN f (p :: r) t = frA p + (t - winA f p) * 86400 / (86400 + p.2 - f) := fun k1 k2 => by
      show (if t < winA f p then _ else if t < winB p then _ else _) = _
      rw [if_neg k1, if_pos k2]; rfl
    show _ ↔ (if s < frA p then s + f * 1048576 else if s < frB p then winA f p + roundI ((s - frA p) * (86400 + p.2 - f)) 86400 true else lsN p.2 r s) ≤ t
    by_cases c1 : s < frA p
    · rw [if_pos c1]
      by_cases k : t < winA f p
      · rw [sm1 k]; omega
      · have := sm_mono h (show winA f p ≤ t by omega)
        omega
    · rw [if_neg c1]
      by_cases c2 : s < frB p
      · rw [if_pos c2]
        have key : ∀ x, winA f p + roundI ((s - frA p) * (86400 + p.2 - f)) 86400 true ≤ x ↔ (s - frA p) * (86400 + p.2 - f) ≤ 86400 * (x - winA f p) := fun x => by
          have := up_le ((s - frA p) * (86400 + p.2 - f)) (x - winA f p)
          omega
        rw [key]
        by_cases k1 : t < winA f p
        · rw [sm1 k1]
          rcases hd with hd | hd
          · rw [hd, show 86400 + (f + 1) - f = 86401 by omega]; omega
          · rw [hd, show 86400 + (f - 1) - f = 86399 by omega]; omega
        · by_cases k2 : t < winB p
          · rw [sm2 k1 k2]
            rcases hd with hd | hd
            · rw [hd, show 86400 + (f + 1) - f = 86401 by omega]; omega
            · rw [hd, show 86400 + (f - 1) - f = 86399 by omega]; omega
          · have := sm_mono h (show winB p ≤ t by omega)
            rcases hd with hd | hd
            · rw [hd, show 86400 + (f + 1) - f = 86401 by omega]
              rw [hd, show f + 1 - f = 1 by omega] at eB
              omega
            · rw [hd, show 86400 + (f - 1) - f = 86399 by omega]
              rw [hd, show f - 1 - f = -1 by omega] at eB
              omega
      · rw [if_neg c2]
        have ih := ls_gal h.2.2.2.2 s t
        by_cases k2 : t < winB p
        · have hb := sm_before h.2.2.2.2 (t := t) (by unfold winB at k2; omega)
          rw [hb] at ih
          have e3 : frB p = winB p - p.2 * 1048576 := by unfold frB winB; omega
          have n1 : smN f (p :: r) t < frB p := by
            by_cases k1 : t < winA f p
            · rw [sm1 k1]; omega
            · rw [sm2 k1 k2]
              rcases hd with hd | hd
              · rw [hd, show 86400 + (f + 1) - f = 86401 by omega]
                rw [hd, show f + 1 - f = 1 by omega] at eB
                omega
              · rw [hd, show 86400 + (f - 1) - f = 86399 by omega]
                rw [hd, show f - 1 - f = -1 by omega] at eB
                omega
          omega
        · rw [sm_skip h (by omega)]; exact ih
theorem ls_before {f lo : Int} {l : List Lp} (h : leapOk lo f l) {s : Int} (hs : s ≤ (lo - 43200) * 1048576) : lsN f l s = s + f * 1048576 := by
  cases l with
  | nil => rfl
  | cons p r =>
    have h1 := h.1
    show (if s < frA p then s + f * 1048576 else if s < frB p then _ else _) = _
    by_cases k : s < frA p
    · rw [if_pos k]
    · have e : s = frA p := by unfold frA at *; omega
      rw [if_neg k, if_pos (by unfold frA frB at *; omega), e, Int.sub_self, Int.zero_mul]
      have : roundI 0 86400 true = 0 := by decide
      rw [this]
      unfold winA frA; omega
theorem ls_skip {p : Lp} {r : List Lp} {f : Int} {s : Int} (hs : frB p ≤ s) : lsN f (p :: r) s = lsN p.2 r s := by
  show (if s < frA p then s + f * 1048576 else if s < frB p then _ else _) = _
  rw [if_neg (by unfold frA frB at *; omega), if_neg (by omega)]
theorem ls_at1 : ∀ {l : List Lp} {f lo : Int}, leapOk lo f l → ∀ {s : Int} {i : Nat}, i < l.length → frB (lpG l i) ≤ s → (i + 1 < l.length → s ≤ frA (lpG l (i + 1))) → lsN f l s = s + (lpG l i).2 * 1048576
  | p :: r, f, lo, h, s, 0, _, h1, h2 => by
    have h1 : frB p ≤ s := h1
    rw [ls_skip h1]
    show _ = s + p.2 * 1048576
    cases r with
    | nil => rfl
    | cons q r =>
      have h2 : s ≤ frA q := h2 (by simp)
      refine ls_before (lo := q.1) (l := q :: r) ⟨Int.le_refl _, h.2.2.2.2.2⟩ ?_
      unfold frA at h2; exact h2
  | p :: r, f, lo, h, s, i + 1, hi, h1, h2 => by
    have hi' : i < r.length := by simpa using hi
    have w1 := fr_ge h.2.2.2.2 i hi'
    rw [lpG_cons] at h1 h2 ⊢
    have hB : frB p ≤ s := by unfold frA frB at *; omega
    rw [ls_skip hB]
    exact ls_at1 h.2.2.2.2 hi' h1 (fun k => h2 (by simpa using k))
theorem ls_at2 : ∀ {l : List Lp} {f lo : Int}, leapOk lo f l → ∀ {s : Int} {i : Nat}, i < l.length → frA (lpG l i) ≤ s → s ≤ frB (lpG l i) → lsN f l s = winA (lastO f l i) (lpG l i) + roundI ((s - frA (lpG l i)) * (86400 + (lpG l i).2 - lastO f l i)) 86400 true
  | p :: r, f, lo, h, s, 0, _, h1, h2 => by
    have h1 : frA p ≤ s := h1
    have h2 : s ≤ frB p := h2
    show _ = winA f p + roundI ((s - frA p) * (86400 + p.2 - f)) 86400 true
    by_cases k : s < frB p
    · show (if s < frA p then s + f * 1048576 else if s < frB p then _ else _) = _
      rw [if_neg (by omega), if_pos k]
    · have e : s = frB p := by omega
      have hd := h.2.2.2.1
      have e2 : frB p - frA p = 90596966400 := by unfold frA frB; omega
      rw [ls_skip (by omega), ls_before h.2.2.2.2 (by unfold frB at e; omega), e, e2]
      have u := round_enclose (90596966400 * (86400 + p.2 - f)) (b := 86400) (by decide)
      have e3 : roundI (90596966400 * (86400 + p.2 - f)) 86400 false = 90596966400 * (86400 + p.2 - f) / 86400 := by unfold roundI; rw [if_neg (by intro k; cases k.1)]
      rw [e3] at u
      unfold frB winA
      omega
  | p :: r, f, lo, h, s, i + 1, hi, h1, h2 => by
    have hi' : i < r.length := by simpa using hi
    have w1 := fr_ge h.2.2.2.2 i hi'
    rw [lpG_cons] at h1 h2 ⊢
    rw [lastO_cons]
    have hB : frB p ≤ s := by unfold frA frB at *; omega
    rw [ls_skip hB]
    exact ls_at2 h.2.2.2.2 hi' h1 h2
theorem ls_at3 {l : List Lp} {f lo : Int} (h : leapOk lo f l) {s : Int} (k : 0 < l.length → s ≤ frA (lpG l 0)) : lsN f l s = s + f * 1048576 := by
  cases l with
  | nil => rfl
  | cons p r =>
    refine ls_before (lo := p.1) (l := p :: r) ⟨Int.le_refl _, h.2⟩ ?_
    have := k (by simp)
    unfold frA at this; exact this
theorem ls_mono {l : List Lp} {f lo : Int} (h : leapOk lo f l) {a b : Int} (hab : a ≤ b) : lsN f l a ≤ lsN f l b := by
  refine (ls_gal h a _).1 ?_
  have := (ls_gal h b _).2 (Int.le_refl _)
  omega
/-! ### Bounds -/
theorem utN_range : ∀ {l : List Lp} {f lo : Int}, leapOk lo f l → ∀ t : Int, t - (f + l.length) * 1048576 ≤ utN f l t ∧ utN f l t ≤ t - (f - l.length) * 1048576
  | [], f, lo, _, t => by
    show t - (f + (0 : Nat)) * 1048576 ≤ t - f * 1048576 ∧ t - f * 1048576 ≤ t - (f - (0 : Nat)) * 1048576
    omega
  | p :: r, f, lo, h, t => by
    have ih := utN_range h.2.2.2.2 t
    have hd := h.2.2.2.1
    rw [List.length_cons]
    show t - _ ≤ (if t < (p.1 + p.2) * 1048576 then t - f * 1048576 else utN p.2 r t) ∧ (if t < (p.1 + p.2) * 1048576 then t - f * 1048576 else utN p.2 r t) ≤ _
    split <;> omega
theorem sm_range {l : List Lp} {f : Int} (h : okB f l = true) (t : Int) : t - 173015040 ≤ smN f l t ∧ smN f l t ≤ t + 68157440 := by
  have a := utN_range (okB_leap h) t
  have b := err_in (okB_leap h) t
  have c := (okB_iff.1 h).1
  omega
theorem ls_range {l : List Lp} {f : Int} (h : okB f l = true) (s : Int) : s - 68157440 ≤ lsN f l s ∧ lsN f l s ≤ s + 173015040 := by
  constructor
  · have := (ls_gal (okB_leap h) s _).2 (Int.le_refl (lsN f l s))
    have := sm_range h (lsN f l s)
    omega
  · refine (ls_gal (okB_leap h) s _).1 ?_
    have := sm_range h (s + 173015040)
    omega
/-- At most a tick. -/
theorem ls_two {l : List Lp} {f lo : Int} (h : leapOk lo f l) (s : Int) : lsN f l (s + 1) ≤ lsN f l s + 2 := by
  refine (ls_gal h _ _).1 ?_
  have a := (ls_gal h s _).2 (Int.le_refl _)
  have b := sm_two h (lsN f l s)
  omega
/-! ### What the functions return -/
def smvB (f : Int) (l : List Lp) (t : Int) : Bool := okB f l && decide (134217728 ≤ t ∧ t ≤ 288230376151711744)
def smvE (f : Int) (l : List Lp) (t : Int) : Int := if okB f l = true then (if 134217728 ≤ t ∧ t ≤ 288230376151711744 then 0 else 4) else 3
def smvV (f : Int) (l : List Lp) (t : Int) : Int := if smvB f l t = true then smN f l t else 0
def clrR (f : Int) (l : List Lp) (s : Int) : Bool := okB f l && decide (268435456 ≤ s ∧ s ≤ 144115188075855872)
def clrN (f : Int) (l : List Lp) (s : Int) : Bool := decide (lsN f l s = lsN f l (s + 1))
def clrE (f : Int) (l : List Lp) (s : Int) : Int := if okB f l = true then (if 268435456 ≤ s ∧ s ≤ 144115188075855872 then (if clrN f l s = true then 10 else 0) else 4) else 3
def clrB (f : Int) (l : List Lp) (s : Int) : Bool := clrR f l s && !clrN f l s
def clrLo (f : Int) (l : List Lp) (s : Int) : Int := if clrB f l s = true then lsN f l s else 0
def clrHi (f : Int) (l : List Lp) (s : Int) : Int := if clrB f l s = true then lsN f l (s + 1) - 1 else 0
def errB (f : Int) (l : List Lp) (t : Int) : Bool := smvB f l t && utcB f l t
def errE (f : Int) (l : List Lp) (t : Int) : Int := if smvE f l t = 0 then (if utcB f l t = true then 0 else 9) else smvE f l t
def errV (f : Int) (l : List Lp) (t : Int) : Int := if errB f l t = true then smN f l t - (((shwN f l (t / 1048576)).1 + bI (shwN f l (t / 1048576)).2) * 1048576 + t % 1048576) else 0
def wdwB (f : Int) (l : List Lp) (i : Int) : Bool := okB f l && decide (0 ≤ i ∧ i < (l.length : Int))
def wdwE (f : Int) (l : List Lp) (i : Int) : Int := if okB f l = true then (if 0 ≤ i ∧ i < (l.length : Int) then 0 else 4) else 3
def wdwV (f : Int) (l : List Lp) (i x : Int) : Int := if wdwB f l i = true then x else 0
end Go.Proofs.Ytjebhdadegfbdaa
