/- Texts of one's own, merged: from: The plain logic (20): words of 32 bits. Own work. -/
import Derived.Laws.BitsLemmas
import Derived.Laws.Bits64
import Derived.Laws.BitsAllLaws
import Derived.Test.YtipjekggnanffaaMg5
set_option linter.unusedVariables false
set_option linter.unusedSimpArgs false
namespace Go.Proofs.Ytipjekggnanffaa
open Go.RowKit

/-! ### The operations on words, each behind a name of its own (so that no simp opens it) -/
def xorW (x y : UInt32) : UInt32 := x ^^^ y
def andW (x y : UInt32) : UInt32 := x &&& y
def orW (x y : UInt32) : UInt32 := x ||| y
def addW (x y : UInt32) : UInt32 := x + y
def notW (x : UInt32) : UInt32 := UInt32.ofNat (4294967295 - x.toNat)
def shrW (x : UInt32) (n : Nat) : UInt32 := UInt32.ofNat (x.toNat / 2 ^ n)
def shlW (x : UInt32) (n : Nat) : UInt32 := UInt32.ofNat (x.toNat * 2 ^ n)
def rotW (x : UInt32) (n : Nat) : UInt32 := orW (shrW x n) (shlW x (32 - n))
def byteW (b : UInt8) : UInt32 := UInt32.ofNat b.toNat

theorem word_lt (x : UInt32) : x.toNat < 4294967296 := x.toNat_lt
theorem xorW_bits (x y : UInt32) : bits .xor .u32 (x.toNat : Int) (y.toNat : Int) = ((xorW x y).toNat : Int) := by
  rw [u32_xor_nat _ _ (word_lt x) (word_lt y)]; simp [xorW]
theorem andW_bits (x y : UInt32) : bits .and .u32 (x.toNat : Int) (y.toNat : Int) = ((andW x y).toNat : Int) := by
  rw [u32_and_nat _ _ (word_lt x) (word_lt y)]; simp [andW]
theorem orW_bits (x y : UInt32) : bits .or .u32 (x.toNat : Int) (y.toNat : Int) = ((orW x y).toNat : Int) := by
  rw [u32_or_nat _ _ (word_lt x) (word_lt y)]; simp [orW]
theorem addW_wrap (x y : UInt32) : IntKind.u32.wrap ((x.toNat : Int) + (y.toNat : Int)) = ((addW x y).toNat : Int) := by
  rw [IntKind.wrap_u32]; simp [addW]
theorem shrW_div (x : UInt32) (n : Nat) : (x.toNat : Int) / 2 ^ n = ((shrW x n).toNat : Int) := by
  have h : x.toNat / 2 ^ n < 4294967296 := Nat.lt_of_le_of_lt (Nat.div_le_self _ _) (word_lt x)
  unfold shrW
  rw [UInt32.toNat_ofNat_of_lt' (by simpa [UInt32.size] using h)]
  simp
theorem shlW_mul (x : UInt32) (n : Nat) : (x.toNat : Int) * 2 ^ n % 4294967296 = ((shlW x n).toNat : Int) := by
  unfold shlW
  simp
theorem notW_sub (x : UInt32) : (4294967295 : Int) - (x.toNat : Int) = ((notW x).toNat : Int) := by
  have h := word_lt x
  unfold notW
  rw [UInt32.toNat_ofNat_of_lt' (by simp [UInt32.size]; omega)]
  omega
theorem byteW_nat (b : UInt8) : (b.toNat : Int) = ((byteW b).toNat : Int) := by
  have h := b.toNat_lt
  unfold byteW
  rw [UInt32.toNat_ofNat_of_lt' (by simp [UInt32.size]; omega)]


/-! ### The walk's rules on words -/
theorem binV_xorW (x y : UInt32) : binV .xor (.w (.c (.d (wD x)))) (.w (.c (.d (wD y)))) = some (wD (xorW x y)) := by
  show binI .xor .u32 (x.toNat : Int) .u32 (y.toNat : Int) = _
  rw [binI_xor, xorW_bits]; rfl
theorem binV_andW (x y : UInt32) : binV .and (.w (.c (.d (wD x)))) (.w (.c (.d (wD y)))) = some (wD (andW x y)) := by
  show binI .and .u32 (x.toNat : Int) .u32 (y.toNat : Int) = _
  rw [binI_and, andW_bits]; rfl
theorem binV_orW (x y : UInt32) : binV .or (.w (.c (.d (wD x)))) (.w (.c (.d (wD y)))) = some (wD (orW x y)) := by
  show binI .or .u32 (x.toNat : Int) .u32 (y.toNat : Int) = _
  rw [binI_or, orW_bits]; rfl
theorem binV_addW (x y : UInt32) : binV .add (.w (.c (.d (wD x)))) (.w (.c (.d (wD y)))) = some (wD (addW x y)) := by
  show binI .add .u32 (x.toNat : Int) .u32 (y.toNat : Int) = _
  rw [binI_add, addW_wrap]; rfl
theorem binV_shlW (x : UInt32) (k : IntKind) (n : Int) (h : 0 ≤ n) : binV .shl (.w (.c (.d (wD x)))) (.w (.c (.d (.int k n)))) = some (wD (shlW x (min n.toNat 32))) := by
  show binI .shl .u32 (x.toNat : Int) k n = _
  rw [binI_shl _ _ _ _ h, IntKind.wrap_u32]
  show some (D.int .u32 ((x.toNat : Int) * 2 ^ min n.toNat 32 % 4294967296)) = _
  rw [shlW_mul]; rfl
theorem binV_shrW (x : UInt32) (k : IntKind) (n : Int) (h : 0 ≤ n) : binV .shr (.w (.c (.d (wD x)))) (.w (.c (.d (.int k n)))) = some (wD (shrW x (min n.toNat 32))) := by
  show binI .shr .u32 (x.toNat : Int) k n = _
  rw [binI_shr _ _ _ _ h]
  show some (D.int .u32 ((x.toNat : Int) / 2 ^ min n.toNat 32)) = _
  rw [shrW_div]; rfl
theorem unV_notW (x : UInt32) : unV .xor (.w (.c (.d (wD x)))) = some (wD (notW x)) := by
  have : bits .xor .u32 4294967295 (x.toNat : Int) = (4294967295 : Int) - (x.toNat : Int) := by
    have h := x.toNat_lt
    have h2 : 4294967295 ^^^ x.toNat = 4294967295 - x.toNat := by
      have e := congrArg BitVec.toNat (BitVec.allOnes_xor (x := BitVec.ofNat 32 x.toNat))
      rw [BitVec.toNat_xor, BitVec.toNat_not, BitVec.toNat_allOnes, BitVec.toNat_ofNat, Nat.mod_eq_of_lt (by omega)] at e
      omega
    have h3 := u32_xor_nat 4294967295 x.toNat (by decide) h
    rw [h2] at h3
    have h4 : ((4294967295 : Nat) : Int) = 4294967295 := rfl
    rw [h4] at h3
    omega
  show some (D.int .u32 (bits .xor .u32 4294967295 (x.toNat : Int))) = _
  rw [this, notW_sub]; rfl
theorem binV_eqlW (x y : UInt32) : binV .eql (.w (.c (.d (wD x)))) (.w (.c (.d (wD y)))) = some (.bool (x == y)) := by
  show binI .eql .u32 (x.toNat : Int) .u32 (y.toNat : Int) = _
  rw [binI_eql]
  by_cases h : x = y
  · subst h; simp
  · have : ¬ ((x.toNat : Int) = (y.toNat : Int)) := fun e => h (UInt32.toNat_inj.1 (by omega))
    simp [this, h]
theorem binV_neqW (x y : UInt32) : binV .neq (.w (.c (.d (wD x)))) (.w (.c (.d (wD y)))) = some (.bool (x != y)) := by
  show binI .neq .u32 (x.toNat : Int) .u32 (y.toNat : Int) = _
  rw [binI_neq]
  by_cases h : x = y
  · subst h; simp
  · have : ¬ ((x.toNat : Int) = (y.toNat : Int)) := fun e => h (UInt32.toNat_inj.1 (by omega))
    simp [this, h]
theorem byteW_wD (b : UInt8) : D.int .u32 (IntKind.u32.wrap (b.toNat : Int)) = wD (byteW b) := by
  have h := b.toNat_lt
  rw [IntWalk.u32_in _ (by omega), byteW_nat]; rfl
/-! ### Bytes, in the same way -/
def xorB (x y : UInt8) : UInt8 := x ^^^ y
def andB (x y : UInt8) : UInt8 := x &&& y
def orB (x y : UInt8) : UInt8 := x ||| y
def shlB (x : UInt8) (n : Nat) : UInt8 := UInt8.ofNat (x.toNat * 2 ^ n)
def shrB (x : UInt8) (n : Nat) : UInt8 := UInt8.ofNat (x.toNat / 2 ^ n)
theorem byte_lt (x : UInt8) : x.toNat < 256 := x.toNat_lt
theorem binV_xorB (x y : UInt8) : binV .xor (.w (.c (.d (bD x)))) (.w (.c (.d (bD y)))) = some (bD (xorB x y)) := by
  show binI .xor .u8 (x.toNat : Int) .u8 (y.toNat : Int) = _
  rw [binI_xor, u8_xor_nat _ _ (byte_lt x) (byte_lt y)]; simp [xorB, bD]
theorem binV_andB (x y : UInt8) : binV .and (.w (.c (.d (bD x)))) (.w (.c (.d (bD y)))) = some (bD (andB x y)) := by
  show binI .and .u8 (x.toNat : Int) .u8 (y.toNat : Int) = _
  rw [binI_and, u8_and_nat _ _ (byte_lt x) (byte_lt y)]; simp [andB, bD]
theorem binV_orB (x y : UInt8) : binV .or (.w (.c (.d (bD x)))) (.w (.c (.d (bD y)))) = some (bD (orB x y)) := by
  show binI .or .u8 (x.toNat : Int) .u8 (y.toNat : Int) = _
  rw [binI_or, u8_or_nat _ _ (byte_lt x) (byte_lt y)]; simp [orB, bD]
theorem binV_shlB (x : UInt8) (k : IntKind) (n : Int) (h : 0 ≤ n) : binV .shl (.w (.c (.d (bD x)))) (.w (.c (.d (.int k n)))) = some (bD (shlB x (min n.toNat 8))) := by
  show binI .shl .u8 (x.toNat : Int) k n = _
  rw [binI_shl _ _ _ _ h, IntKind.wrap_u8]
  show some (D.int .u8 ((x.toNat : Int) * 2 ^ min n.toNat 8 % 256)) = _
  have : (x.toNat : Int) * 2 ^ min n.toNat 8 % 256 = ((shlB x (min n.toNat 8)).toNat : Int) := by unfold shlB; simp
  rw [this]; rfl
theorem binV_shrB (x : UInt8) (k : IntKind) (n : Int) (h : 0 ≤ n) : binV .shr (.w (.c (.d (bD x)))) (.w (.c (.d (.int k n)))) = some (bD (shrB x (min n.toNat 8))) := by
  show binI .shr .u8 (x.toNat : Int) k n = _
  rw [binI_shr _ _ _ _ h]
  show some (D.int .u8 ((x.toNat : Int) / 2 ^ min n.toNat 8)) = _
  have : (x.toNat : Int) / 2 ^ min n.toNat 8 = ((shrB x (min n.toNat 8)).toNat : Int) := by
    have h : x.toNat / 2 ^ min n.toNat 8 < 256 := Nat.lt_of_le_of_lt (Nat.div_le_self _ _) (byte_lt x)
    unfold shrB
    rw [UInt8.toNat_ofNat_of_lt' (by simpa [UInt8.size] using h)]
    simp
  rw [this]; rfl
theorem binV_eqlB (x y : UInt8) : binV .eql (.w (.c (.d (bD x)))) (.w (.c (.d (bD y)))) = some (.bool (x == y)) := by
  show binI .eql .u8 (x.toNat : Int) .u8 (y.toNat : Int) = _
  rw [binI_eql]
  by_cases h : x = y
  · subst h; simp
  · have : ¬ ((x.toNat : Int) = (y.toNat : Int)) := fun e => h (UInt8.toNat_inj.1 (by omega))
    simp [this, h]
theorem binV_neqB (x y : UInt8) : binV .neq (.w (.c (.d (bD x)))) (.w (.c (.d (bD y)))) = some (.bool (x != y)) := by
  show binI .neq .u8 (x.toNat : Int) .u8 (y.toNat : Int) = _
  rw [binI_neq]
  by_cases h : x = y
  · subst h; simp
  · have : ¬ ((x.toNat : Int) = (y.toNat : Int)) := fun e => h (UInt8.toNat_inj.1 (by omega))
    simp [this, h]
/-! ### Function literals -/
theorem ev_u (G : Glob) (f : Nat → V) : ev G f .u = .undef := rfl
def closK (P : Program) (G : Glob) (d : Option Nat) (r : List SOper) (K : St → Prop) (f : Nat → V) (h : Heap) (u : Nat → Bool) (F : Nat) (ds : List D) : Prop := aops P G r K ⟨updO f d (.w (.c (.d (.fn F ds)))), h, u⟩
theorem st_clos (P : Program) (G : Glob) (d : Option Nat) (r : List SOper) (K : St → Prop) (f : Nat → V) (h : Heap) (u : Nat → Bool) (F : Nat) (xs : List SX) : aops P G (⟨d, .clos F xs, none⟩ :: r) K ⟨f, h, u⟩ = optK (capVs (xs.map (ev G f))) (closK P G d r K f h u F) := by
  show (match (capVs (xs.map (ev G f))).map fun ds => ((.w (.c (.d (.fn F ds))), h, u) : R) with | some r => _ | none => False) = _
  cases capVs (xs.map (ev G f)) <;> rfl
theorem closK_do (P : Program) (G : Glob) (d : Option Nat) (r : List SOper) (K : St → Prop) (f : Nat → V) (h : Heap) (u : Nat → Bool) (F : Nat) (ds : List D) : closK P G d r K f h u F ds = aops P G r K ⟨updO f d (.w (.c (.d (.fn F ds)))), h, u⟩ := rfl
theorem capVs_nil : capVs [] = some [] := rfl
theorem capVs_rp (cs : List D) (r : List V) : capVs (.w (.c (.rp cs)) :: r) = (capVs r).map fun l => .ref cs :: l := by
  simp only [capVs, capV]; cases capVs r <;> rfl
theorem capVs_int (k : IntKind) (n : Int) (r : List V) : capVs (.w (.c (.d (.int k n))) :: r) = (capVs r).map fun l => .int k n :: l := by
  simp only [capVs, capV]; cases capVs r <;> rfl
theorem capVs_sl (es : List D) (r : List V) : capVs (.w (.c (.d (.sl es))) :: r) = (capVs r).map fun l => .sl es :: l := by
  simp only [capVs, capV]; cases capVs r <;> rfl

/-! ### A range over a function -/
/-- Behind the assignment of a round; behind its body. -/
def rngA (P : Program) (G : Glob) (body : SCode) (K : AX → St → Prop) (e : AX) (s : St) : Prop := match e with | .nrm => awp P G body K s | _ => False
def rngB (f0 : Nat → V) (I : Nat → Heap → (Nat → Bool) → Prop) (Q : AX → St → Prop) (k : Nat) (e : AX) (s : St) : Prop := match e with
  | .nrm => ∃ h' u', Ent s ⟨f0, h', u'⟩ ∧ I (k + 1) h' u'
  | e => ∃ h' u', Ent s ⟨f0, h', u'⟩ ∧ Q e ⟨f0, h', u'⟩
theorem rngA_nrm (P : Program) (G : Glob) (body : SCode) (K : AX → St → Prop) (s : St) : rngA P G body K .nrm s = awp P G body K s := rfl
theorem rngB_nrm (f0 : Nat → V) (I : Nat → Heap → (Nat → Bool) → Prop) (Q : AX → St → Prop) (k : Nat) (s : St) : rngB f0 I Q k .nrm s = ∃ h' u', Ent s ⟨f0, h', u'⟩ ∧ I (k + 1) h' u' := rfl
def rngI (st : Nat → Heap × (Nat → Bool)) (k : Nat) (h : Heap) (u : Nat → Bool) : Prop := (h, u) = st k
/-- What a round begins and ends with is a family st of states, whose slots are all the same. -/
theorem range_st {P : Program} {G : Glob} {Q : AX → St → Prop} {σ : St} {x : SX} {ps : List Nat} {asg body : SCode} {g : Nat} {caps : List D} {xs : List (List D)} (f0 : Nat → V) {f1 : Nat → V} (hf : f0 = f1) (st : Nat → Heap × (Nat → Bool))
    (hev : ev G σ.f x = .w (.c (.d (.fn g caps)))) (hseq : SeqD P G g caps xs) (hlen : ∀ r ∈ xs, r.length = ps.length) (hent : Ent σ ⟨f1, (st 0).1, (st 0).2⟩) (hun : ∀ t ∈ ps ++ asg.writes ++ body.writes, f1 t = .undef)
    (round : ∀ k r, xs[k]? = some r → awp P G asg (rngA P G body (rngB f0 (rngI st) Q k)) ⟨parsL f1 ps r, (st k).1, (st k).2⟩)
    (done : Q .nrm ⟨f1, (st xs.length).1, (st xs.length).2⟩) : awp P G (.rangeF x ps asg body) Q σ := by
  subst hf
  refine ⟨g, caps, xs, f0, (st 0).1, (st 0).2, fun k h u => (h, u) = st k, hev, hseq, hlen, hent, hun, rfl, fun k r h u hr e => ?_, fun h u e => ?_⟩
  · have := round k r hr
    rw [← e] at this
    have e1 : (fun (e : AX) (s : St) => match e with
        | .nrm => awp P G body (fun e s' => match e with
          | .nrm => ∃ h' u', Ent s' ⟨f0, h', u'⟩ ∧ (h', u') = st (k + 1)
          | e => ∃ h' u', Ent s' ⟨f0, h', u'⟩ ∧ Q e ⟨f0, h', u'⟩) s
        | _ => False) = rngA P G body (rngB f0 (rngI st) Q k) := by
      funext e s
      cases e with
      | nrm =>
        show awp P G body _ s = awp P G body _ s
        congr 1
      | _ => rfl
    rw [← e1] at this
    exact this
  · rw [← e] at done; exact done
theorem rng_next {f0 : Nat → V} {f1 : Nat → V} (hf : f0 = f1) {st : Nat → Heap × (Nat → Bool)} {Q : AX → St → Prop} {k : Nat} {s : St} (h : Ent s ⟨f1, (st (k + 1)).1, (st (k + 1)).2⟩) : rngB f0 (rngI st) Q k .nrm s := ⟨_, _, hf ▸ h, rfl⟩
/-- Cells of bytes. -/
def bC (x : UInt8) : C := .d (bD x)
theorem map_C (l : List UInt8) : (l.map bD).map C.d = l.map bC := by rw [List.map_map]; rfl
theorem allD_bs : ∀ l : List UInt8, allD (l.map bC) = some (l.map bD)
  | [] => rfl
  | x :: l => by
    have h := allD_bs l
    show allD (C.d (bD x) :: l.map bC) = _
    simp only [allD, h, List.map_cons, Option.map_some]
theorem mkAgg_bs (l : List UInt8) : mkAgg (l.map bC) = .c (.d (.agg (l.map bD))) := by unfold mkAgg; rw [allD_bs]
theorem setR_map {α β : Type} (f : α → β) (l cs : List α) (off : Nat) : setR (l.map f) off (cs.map f) = (setR l off cs).map f := by
  unfold setR; simp
theorem rep_bC (n : Nat) : List.replicate n (C.d (D.int .u8 0)) = (List.replicate n (0 : UInt8)).map bC := by rw [List.map_replicate]; rfl
theorem toC_b (x : UInt8) : C.d (bD x) = bC x := rfl
theorem stO_bC (l : List UInt8) (i o : Nat) (x : UInt8) : stO .sc (.c (.d (bD x))) i o (.box (l.map bC)) = if i + o < l.length then some (.box ((l.set (i + o) x).map bC)) else none := by
  unfold stO
  simp only [wc_b, List.length_cons, List.length_nil, Kd.size, List.length_map, Nat.zero_add, true_and]
  by_cases h : i + o < l.length
  · rw [if_pos (show i + o + 1 ≤ l.length by omega), if_pos h]
    have : [C.d (bD x)] = [x].map bC := rfl
    rw [this, setR_map]
    congr 3
    unfold setR
    rw [List.set_eq_take_append_cons_drop, if_pos h, List.append_assoc]; rfl
  · rw [if_neg (show ¬ i + o + 1 ≤ l.length by omega), if_neg h]
theorem ids_bC (l : List UInt8) : (l.map bC).flatMap C.ids = [] := by
  induction l with
  | nil => rfl
  | cons x l ih => rw [List.map_cons, List.flatMap_cons, ih]; rfl
theorem ren_bC (g : Nat → Nat) (l : List UInt8) : (l.map bC).map (C.ren g) = l.map bC := by rw [List.map_map]; rfl
/-! ### A byte and a literal -/
theorem bl_eql (x c : UInt8) (n : Int) (h : n = (c.toNat : Int)) : binV .eql (.w (.c (.d (bD x)))) (.w (.c (.d (.int .u8 n)))) = some (.bool (x == c)) := by subst h; exact binV_eqlB x c
theorem bl_neq (x c : UInt8) (n : Int) (h : n = (c.toNat : Int)) : binV .neq (.w (.c (.d (bD x)))) (.w (.c (.d (.int .u8 n)))) = some (.bool (x != c)) := by subst h; exact binV_neqB x c
theorem bl_xor (x c : UInt8) (n : Int) (h : n = (c.toNat : Int)) : binV .xor (.w (.c (.d (bD x)))) (.w (.c (.d (.int .u8 n)))) = some (bD (xorB x c)) := by subst h; exact binV_xorB x c
theorem bl_and (x c : UInt8) (n : Int) (h : n = (c.toNat : Int)) : binV .and (.w (.c (.d (bD x)))) (.w (.c (.d (.int .u8 n)))) = some (bD (andB x c)) := by subst h; exact binV_andB x c
theorem bl_or (x c : UInt8) (n : Int) (h : n = (c.toNat : Int)) : binV .or (.w (.c (.d (bD x)))) (.w (.c (.d (.int .u8 n)))) = some (bD (orB x c)) := by subst h; exact binV_orB x c
theorem bl_gtr0 (x : UInt8) : binV .gtr (.w (.c (.d (bD x)))) (.w (.c (.d (.int .u8 0)))) = some (.bool (x != 0)) := by
  show binI .gtr .u8 (x.toNat : Int) .u8 0 = _
  rw [binI_gtr]
  by_cases h : x = 0
  · subst h; rfl
  · have h2 : x.toNat ≠ 0 := fun e => h (UInt8.toNat_inj.1 e)
    have h3 : (x.toNat : Int) > 0 := by omega
    have h4 : (x != 0) = true := by simp [h]
    rw [h4, if_pos h3]
theorem bl_shr (x : UInt8) (k : IntKind) (j : Nat) (n : Int) (h : n = (j : Int)) (hj : j ≤ 8) : binV .shr (.w (.c (.d (bD x)))) (.w (.c (.d (.int k n)))) = some (bD (shrB x j)) := by
  subst h
  rw [binV_shrB _ _ _ (Int.natCast_nonneg j), Int.toNat_natCast, Nat.min_eq_left hj]
theorem bl_shl (x : UInt8) (k : IntKind) (j : Nat) (n : Int) (h : n = (j : Int)) (hj : j ≤ 8) : binV .shl (.w (.c (.d (bD x)))) (.w (.c (.d (.int k n)))) = some (bD (shlB x j)) := by
  subst h
  rw [binV_shlB _ _ _ (Int.natCast_nonneg j), Int.toNat_natCast, Nat.min_eq_left hj]
/-! ### Long lists of the same: a name that simp leaves alone -/
def repL {α : Type} (n : Nat) (x : α) : List α := List.replicate n x
theorem repL_len {α : Type} (n : Nat) (x : α) : (repL n x).length = n := List.length_replicate
theorem repL_get {α : Type} {n i : Nat} (x : α) (h : i < n) : (repL n x)[i]? = some x := by unfold repL; rw [List.getElem?_replicate, if_pos h]
theorem repL_bD (n : Nat) : repL n (D.int .u8 0) = (repL n (0 : UInt8)).map bD := by unfold repL; rw [List.map_replicate]; rfl
theorem repL_bC (n : Nat) : repL n (C.d (D.int .u8 0)) = (repL n (0 : UInt8)).map bC := by unfold repL; rw [List.map_replicate]; rfl
end Go.Proofs.Ytipjekggnanffaa
set_option linter.unusedVariables false
set_option linter.unusedSimpArgs false
namespace Go.Proofs.Ytipjekggnanffaa
open Go.RowKit
/-- Rules of the walk. -/
theorem wx : ProofOf (And.intro @sx (And.intro @frzV.eq_1 (And.intro @frzV.eq_2 (And.intro @frzV.eq_3 (And.intro @frzV.eq_4 (And.intro @cellsV.eq_1 (And.intro @cellsV.eq_2 (And.intro @killAll.eq_1 (And.intro @killAll.eq_2 (And.intro @killAll.eq_3 (And.intro @ev_u (And.intro @st_clos (And.intro @closK_do (And.intro @capVs_nil (And.intro @capVs_rp (And.intro @capVs_int (And.intro @capVs_sl (And.intro @rngA_nrm (And.intro @ef.eq_1 (And.intro @ef.eq_2 (And.intro @ef.eq_3 (And.intro @ef.eq_4 (And.intro @ef.eq_5 (And.intro @ef.eq_6 (And.intro @ef.eq_7 (And.intro @ef.eq_8 (And.intro @ef.eq_9 (And.intro @ef.eq_10 (And.intro @ef.eq_11 (And.intro @ef.eq_12 (And.intro @ef.eq_13 (And.intro @ef.eq_14 (And.intro @ef.eq_15 (And.intro @ef.eq_16 (And.intro @ef.eq_17 (And.intro @ef.eq_18 (And.intro @ef.eq_19 (And.intro @ef.eq_20 (And.intro @ef.eq_21 (And.intro @ef.eq_22 (And.intro @ef.eq_23 (And.intro @ef.eq_24 (And.intro @ef.eq_25 (And.intro @ef.eq_26 (And.intro @ef.eq_27 (And.intro @ef.eq_28 (And.intro @ef.eq_29 (And.intro @ef.eq_30 (And.intro @ef.eq_31 (And.intro @ef.eq_32 (And.intro @ef.eq_33 (And.intro @ef.eq_34 (And.intro @ef.eq_35 (And.intro @ef.eq_36 (And.intro @ef.eq_37 (And.intro @ef.eq_38 (And.intro @ef.eq_39 (And.intro @ef.eq_40 (And.intro @ef.eq_41 (And.intro @bound.eq_1 (And.intro @bound.eq_2 (And.intro @slV.eq_1 (And.intro @slV.eq_2 (And.intro @slV.eq_3 (And.intro @slV.eq_4 (And.intro @idx.eq_1 (And.intro @ldV.eq_1 (And.intro @ldV.eq_2 (And.intro @ldV.eq_3 (And.intro @ldV.eq_4 (And.intro @ldV.eq_5 (And.intro @ldV.eq_6 (And.intro @ldV.eq_7 (And.intro @ldV.eq_8 (And.intro @ldB.eq_1 (And.intro @ldB.eq_2 (And.intro @stO_box (And.intro @prt.eq_1 (And.intro @prt.eq_2 (And.intro @parts.eq_1 (And.intro @parts.eq_2 (And.intro @elems.eq_1 (And.intro @elems.eq_2 (And.intro @mkAgg.eq_1 (And.intro @wc_w (And.intro @wc_b (And.intro @wc_int (And.intro @wc_bool (And.intro @wc_str (And.intro @wc_sl (And.intro @wc_agg (And.intro @wc_nil (And.intro @wc_own (And.intro @wc_ptr (And.intro @wc_pa (And.intro @wc_mix (And.intro @pureW.eq_1 (And.intro @pureW.eq_2 (And.intro @pureW.eq_3 (And.intro @pureW.eq_4 (And.intro @pureV.eq_1 (And.intro @pureV.eq_2 (And.intro @allD.eq_1 (And.intro @allD.eq_2 (And.intro @allD.eq_3 (And.intro @allDn.eq_1 (And.intro @allDn.eq_2 (And.intro @allDn.eq_3 (And.intro @allDn.eq_4 (And.intro @toV.eq_1 (And.intro @toV.eq_2 (And.intro @toW.eq_1 (And.intro @toW.eq_2 (And.intro @toD.eq_1 (And.intro @toD.eq_2 (And.intro @toD.eq_3 (And.intro @toD.eq_4 (And.intro @toDs.eq_1 (And.intro @toDs.eq_2 (And.intro @toVs.eq_1 (And.intro @toVs.eq_2 (And.intro @obSl.eq_1 (And.intro @obSl.eq_2 (And.intro @ints.eq_1 (And.intro @ints.eq_2 (And.intro @ints.eq_3 (And.intro @impV.eq_1 (And.intro @impV.eq_2 (And.intro @ownV.eq_1 (And.intro @ownV.eq_2 (And.intro @ownV.eq_3 (And.intro @W.ro.eq_1 (And.intro @W.ro.eq_2 (And.intro @C.ro.eq_1 (And.intro @C.ro.eq_2 (And.intro @V.ro.eq_1 (And.intro @V.ro.eq_2 (And.intro @V.ro.eq_3 (And.intro @aggW.eq_1 (And.intro @aggW.eq_2 (And.intro @aggW.eq_3 (And.intro @Kd.size.eq_1 (And.intro @Kd.size.eq_2 (And.intro @cells_int (And.intro @cells_bool (And.intro @cells_str (And.intro @cells_sl (And.intro @cells_agg (And.intro @setR.eq_1 (And.intro @resW.eq_1 (And.intro @resW.eq_2 (And.intro @Nat.min_def (And.intro @Option.map_some.{0, 0} (And.intro @Option.map_none.{0, 0} (And.intro @Bool.not_true (And.intro @Bool.not_false (And.intro @decide_true (And.intro @decide_false (And.intro @Bool.and_self (And.intro @List.map_cons.{0, 0} (And.intro @List.map_nil.{0, 0} (And.intro @List.any_cons.{0} (And.intro @List.any_nil.{0} (And.intro @List.length_cons.{0} (And.intro @List.length_nil.{0} (And.intro @List.length_set.{0} (And.intro @List.getElem?_cons_zero.{0} (And.intro @List.getElem?_cons_succ.{0} (And.intro @if_true.{1} (And.intro @if_false.{1} (And.intro @true_and (And.intro @and_true (And.intro @vd.eq_1 (And.intro @Int.natCast_nonneg (And.intro @List.drop_zero.{0} (And.intro @List.take_length.{0} (And.intro @take_map (And.intro @drop_map (And.intro @len_map (And.intro @app_map (And.intro @allSz_bs (And.intro @allSz_ws (And.intro @asI_b (And.intro @asI_w (And.intro @binV_bl (And.intro @binV_br (And.intro @unV_b (And.intro @binV_xorW (And.intro @binV_andW (And.intro @binV_orW (And.intro @binV_addW (And.intro @binV_shlW (And.intro @binV_shrW (And.intro @binV_eqlW (And.intro @binV_neqW (And.intro @binV_xorB (And.intro @binV_andB (And.intro @binV_orB (And.intro @binV_bb1 (And.intro @binV_bb2 (And.intro @binV_bb3 (And.intro @binV_bb4 (And.intro @binV_bb5 (And.intro @binV_bb6 (And.intro @binV_bb7 (And.intro @binV_bb8 (And.intro @toFr_own (And.intro @toFr_nil (And.intro @unV_notW (And.intro @byteW_wD (And.intro @bD_cells (And.intro @wD_cells (And.intro @allSz_b1 (And.intro @allSz_b2 (And.intro @List.set_cons_zero.{0} (And.intro @List.set_cons_succ.{0} (And.intro @flat_ws (And.intro @flat_bs (And.intro @Kd.ag.injEq (And.intro @List.length_append.{0} (And.intro @List.length_replicate.{0} (And.intro @ofL_cons (And.intro @ofL_nil (And.intro @hL_cons (And.intro @hL_nil (And.intro @uL_cons (And.intro @uL_nil (And.intro @lopQ_ex (And.intro @lopQ_ret (And.intro @List.nil_append.{0} (And.intro @List.cons_append.{0} (And.intro @List.take_succ_cons.{0} (And.intro @List.take_zero.{0} (And.intro @List.drop_succ_cons.{0} (And.intro @List.take_nil.{0} (And.intro @List.drop_nil.{0} (And.intro @List.append_nil.{0} (And.intro @List.flatMap_cons.{0, 0} (And.intro @List.flatMap_nil.{0, 0} (And.intro @Option.bind_some.{0, 0} (And.intro @ne_eq.{1} (And.intro @not_false_eq_true (@not_true_eq_false))))))))))))))))))))))))))))))))))))))))))))))))))))))))))))))))))))))))))))))))))))))))))))))))))))))))))))))))))))))))))))))))))))))))))))))))))))))))))))))))))))))))))))))))))))))))))))))))))))))))))))))))))))))))))))))))))))))))))))))))))) := And.intro @sx (And.intro @frzV.eq_1 (And.intro @frzV.eq_2 (And.intro @frzV.eq_3 (And.intro @frzV.eq_4 (And.intro @cellsV.eq_1 (And.intro @cellsV.eq_2 (And.intro @killAll.eq_1 (And.intro @killAll.eq_2 (And.intro @killAll.eq_3 (And.intro @ev_u (And.intro @st_clos (And.intro @closK_do (And.intro @capVs_nil (And.intro @capVs_rp (And.intro @capVs_int (And.intro @capVs_sl (And.intro @rngA_nrm (And.intro @ef.eq_1 (And.intro @ef.eq_2 (And.intro @ef.eq_3 (And.intro @ef.eq_4 (And.intro @ef.eq_5 (And.intro @ef.eq_6 (And.intro @ef.eq_7 (And.intro @ef.eq_8 (And.intro @ef.eq_9 (And.intro @ef.eq_10 (And.intro @ef.eq_11 (And.intro @ef.eq_12 (And.intro @ef.eq_13 (And.intro @ef.eq_14 (And.intro @ef.eq_15 (And.intro @ef.eq_16 (And.intro @ef.eq_17 (And.intro @ef.eq_18 (And.intro @ef.eq_19 (And.intro @ef.eq_20 (And.intro @ef.eq_21 (And.intro @ef.eq_22 (And.intro @ef.eq_23 (And.intro @ef.eq_24 (And.intro @ef.eq_25 (And.intro @ef.eq_26 (And.intro @ef.eq_27 (And.intro @ef.eq_28 (And.intro @ef.eq_29 (And.intro @ef.eq_30 (And.intro @ef.eq_31 (And.intro @ef.eq_32 (And.intro @ef.eq_33 (And.intro @ef.eq_34 (And.intro @ef.eq_35 (And.intro @ef.eq_36 (And.intro @ef.eq_37 (And.intro @ef.eq_38 (And.intro @ef.eq_39 (And.intro @ef.eq_40 (And.intro @ef.eq_41 (And.intro @bound.eq_1 (And.intro @bound.eq_2 (And.intro @slV.eq_1 (And.intro @slV.eq_2 (And.intro @slV.eq_3 (And.intro @slV.eq_4 (And.intro @idx.eq_1 (And.intro @ldV.eq_1 (And.intro @ldV.eq_2 (And.intro @ldV.eq_3 (And.intro @ldV.eq_4 (And.intro @ldV.eq_5 (And.intro @ldV.eq_6 (And.intro @ldV.eq_7 (And.intro @ldV.eq_8 (And.intro @ldB.eq_1 (And.intro @ldB.eq_2 (And.intro @stO_box (And.intro @prt.eq_1 (And.intro @prt.eq_2 (And.intro @parts.eq_1 (And.intro @parts.eq_2 (And.intro @elems.eq_1 (And.intro @elems.eq_2 (And.intro @mkAgg.eq_1 (And.intro @wc_w (And.intro @wc_b (And.intro @wc_int (And.intro @wc_bool (And.intro @wc_str (And.intro @wc_sl (And.intro @wc_agg (And.intro @wc_nil (And.intro @wc_own (And.intro @wc_ptr (And.intro @wc_pa (And.intro @wc_mix (And.intro @pureW.eq_1 (And.intro @pureW.eq_2 (And.intro @pureW.eq_3 (And.intro @pureW.eq_4 (And.intro @pureV.eq_1 (And.intro @pureV.eq_2 (And.intro @allD.eq_1 (And.intro @allD.eq_2 (And.intro @allD.eq_3 (And.intro @allDn.eq_1 (And.intro @allDn.eq_2 (And.intro @allDn.eq_3 (And.intro @allDn.eq_4 (And.intro @toV.eq_1 (And.intro @toV.eq_2 (And.intro @toW.eq_1 (And.intro @toW.eq_2 (And.intro @toD.eq_1 (And.intro @toD.eq_2 (And.intro @toD.eq_3 (And.intro @toD.eq_4 (And.intro @toDs.eq_1 (And.intro @toDs.eq_2 (And.intro @toVs.eq_1 (And.intro @toVs.eq_2 (And.intro @obSl.eq_1 (And.intro @obSl.eq_2 (And.intro @ints.eq_1 (And.intro @ints.eq_2 (And.intro @ints.eq_3 (And.intro @impV.eq_1 (And.intro @impV.eq_2 (And.intro @ownV.eq_1 (And.intro @ownV.eq_2 (And.intro @ownV.eq_3 (And.intro @W.ro.eq_1 (And.intro @W.ro.eq_2 (And.intro @C.ro.eq_1 (And.intro @C.ro.eq_2 (And.intro @V.ro.eq_1 (And.intro @V.ro.eq_2 (And.intro @V.ro.eq_3 (And.intro @aggW.eq_1 (And.intro @aggW.eq_2 (And.intro @aggW.eq_3 (And.intro @Kd.size.eq_1 (And.intro @Kd.size.eq_2 (And.intro @cells_int (And.intro @cells_bool (And.intro @cells_str (And.intro @cells_sl (And.intro @cells_agg (And.intro @setR.eq_1 (And.intro @resW.eq_1 (And.intro @resW.eq_2 (And.intro @Nat.min_def (And.intro @Option.map_some.{0, 0} (And.intro @Option.map_none.{0, 0} (And.intro @Bool.not_true (And.intro @Bool.not_false (And.intro @decide_true (And.intro @decide_false (And.intro @Bool.and_self (And.intro @List.map_cons.{0, 0} (And.intro @List.map_nil.{0, 0} (And.intro @List.any_cons.{0} (And.intro @List.any_nil.{0} (And.intro @List.length_cons.{0} (And.intro @List.length_nil.{0} (And.intro @List.length_set.{0} (And.intro @List.getElem?_cons_zero.{0} (And.intro @List.getElem?_cons_succ.{0} (And.intro @if_true.{1} (And.intro @if_false.{1} (And.intro @true_and (And.intro @and_true (And.intro @vd.eq_1 (And.intro @Int.natCast_nonneg (And.intro @List.drop_zero.{0} (And.intro @List.take_length.{0} (And.intro @take_map (And.intro @drop_map (And.intro @len_map (And.intro @app_map (And.intro @allSz_bs (And.intro @allSz_ws (And.intro @asI_b (And.intro @asI_w (And.intro @binV_bl (And.intro @binV_br (And.intro @unV_b (And.intro @binV_xorW (And.intro @binV_andW (And.intro @binV_orW (And.intro @binV_addW (And.intro @binV_shlW (And.intro @binV_shrW (And.intro @binV_eqlW (And.intro @binV_neqW (And.intro @binV_xorB (And.intro @binV_andB (And.intro @binV_orB (And.intro @binV_bb1 (And.intro @binV_bb2 (And.intro @binV_bb3 (And.intro @binV_bb4 (And.intro @binV_bb5 (And.intro @binV_bb6 (And.intro @binV_bb7 (And.intro @binV_bb8 (And.intro @toFr_own (And.intro @toFr_nil (And.intro @unV_notW (And.intro @byteW_wD (And.intro @bD_cells (And.intro @wD_cells (And.intro @allSz_b1 (And.intro @allSz_b2 (And.intro @List.set_cons_zero.{0} (And.intro @List.set_cons_succ.{0} (And.intro @flat_ws (And.intro @flat_bs (And.intro @Kd.ag.injEq (And.intro @List.length_append.{0} (And.intro @List.length_replicate.{0} (And.intro @ofL_cons (And.intro @ofL_nil (And.intro @hL_cons (And.intro @hL_nil (And.intro @uL_cons (And.intro @uL_nil (And.intro @lopQ_ex (And.intro @lopQ_ret (And.intro @List.nil_append.{0} (And.intro @List.cons_append.{0} (And.intro @List.take_succ_cons.{0} (And.intro @List.take_zero.{0} (And.intro @List.drop_succ_cons.{0} (And.intro @List.take_nil.{0} (And.intro @List.drop_nil.{0} (And.intro @List.append_nil.{0} (And.intro @List.flatMap_cons.{0, 0} (And.intro @List.flatMap_nil.{0, 0} (And.intro @Option.bind_some.{0, 0} (And.intro @ne_eq.{1} (And.intro @not_false_eq_true (@not_true_eq_false))))))))))))))))))))))))))))))))))))))))))))))))))))))))))))))))))))))))))))))))))))))))))))))))))))))))))))))))))))))))))))))))))))))))))))))))))))))))))))))))))))))))))))))))))))))))))))))))))))))))))))))))))))))))))))))))))))))))))))))))))
/-- Rules of the walk. -/
theorem wy : ProofOf (And.intro @stO_c (And.intro @optOne_some (And.intro @one_int (And.intro @one_bool (And.intro @one_str (And.intro @one_sl (And.intro @one_b (And.intro @one_w (@cond_true.{1}))))))))) := And.intro @stO_c (And.intro @optOne_some (And.intro @one_int (And.intro @one_bool (And.intro @one_str (And.intro @one_sl (And.intro @one_b (And.intro @one_w (@cond_true.{1}))))))))
/-- Rules of the walk. -/
theorem wz : ProofOf (And.intro @binS_refl (And.intro @Nat.sub_zero (And.intro @allSz_nil (And.intro @allSz_cons (And.intro @beq_self_eq_true.{0} (And.intro @Bool.and_true (And.intro @Bool.true_and (And.intro @rep1 (And.intro @rep2 (And.intro @rep3 (And.intro @rep4 (And.intro @rep5 (And.intro @rep6 (And.intro @List.replicate_zero.{0} (And.intro @Nat.mul_one (And.intro @Nat.one_mul (And.intro @Nat.add_zero (And.intro @Nat.zero_add (And.intro @wr_i64 (And.intro @wr_u64 (And.intro @wr_u32 (And.intro @wr_u8 (And.intro @Int.natCast_add (And.intro @Int.natCast_mul (And.intro @Int.natCast_one (And.intro @Int.natCast_zero (@Int.cast_ofNat_Int))))))))))))))))))))))))))) := And.intro @binS_refl (And.intro @Nat.sub_zero (And.intro @allSz_nil (And.intro @allSz_cons (And.intro @beq_self_eq_true.{0} (And.intro @Bool.and_true (And.intro @Bool.true_and (And.intro @rep1 (And.intro @rep2 (And.intro @rep3 (And.intro @rep4 (And.intro @rep5 (And.intro @rep6 (And.intro @List.replicate_zero.{0} (And.intro @Nat.mul_one (And.intro @Nat.one_mul (And.intro @Nat.add_zero (And.intro @Nat.zero_add (And.intro @wr_i64 (And.intro @wr_u64 (And.intro @wr_u32 (And.intro @wr_u8 (And.intro @Int.natCast_add (And.intro @Int.natCast_mul (And.intro @Int.natCast_one (And.intro @Int.natCast_zero (@Int.cast_ofNat_Int))))))))))))))))))))))))))
/-- Rules of the walk. -/
theorem wex : ProofOf (And.intro @V.ren.eq_1 (And.intro @V.ren.eq_2 (And.intro @V.ren.eq_3 (And.intro @W.ren.eq_1 (And.intro @W.ren.eq_2 (And.intro @C.ren.eq_1 (And.intro @C.ren.eq_2 (And.intro @C.ren.eq_3 (And.intro @C.ren.eq_4 (And.intro @V.ids.eq_1 (And.intro @V.ids.eq_2 (And.intro @V.ids.eq_3 (And.intro @W.ids.eq_1 (And.intro @W.ids.eq_2 (And.intro @C.ids.eq_1 (And.intro @C.ids.eq_2 (And.intro @C.ids.eq_3 (And.intro @C.ids.eq_4 (And.intro @Ob.ren.eq_1 (And.intro @Ob.ren.eq_2 (And.intro @Ob.ids.eq_1 (And.intro @Ob.ids.eq_2 (And.intro @Int.cast_ofNat_Int (And.intro @List.replicate_zero.{0} (And.intro @agF_nil (And.intro @agF_cons (And.intro @agH_nil (And.intro @agH_cons (And.intro @id_eq.{1} (And.intro @Nat.mul_one (And.intro @Nat.mul_zero (And.intro @Nat.zero_mul (@List.flatten_nil.{0}))))))))))))))))))))))))))))))))) := And.intro @V.ren.eq_1 (And.intro @V.ren.eq_2 (And.intro @V.ren.eq_3 (And.intro @W.ren.eq_1 (And.intro @W.ren.eq_2 (And.intro @C.ren.eq_1 (And.intro @C.ren.eq_2 (And.intro @C.ren.eq_3 (And.intro @C.ren.eq_4 (And.intro @V.ids.eq_1 (And.intro @V.ids.eq_2 (And.intro @V.ids.eq_3 (And.intro @W.ids.eq_1 (And.intro @W.ids.eq_2 (And.intro @C.ids.eq_1 (And.intro @C.ids.eq_2 (And.intro @C.ids.eq_3 (And.intro @C.ids.eq_4 (And.intro @Ob.ren.eq_1 (And.intro @Ob.ren.eq_2 (And.intro @Ob.ids.eq_1 (And.intro @Ob.ids.eq_2 (And.intro @Int.cast_ofNat_Int (And.intro @List.replicate_zero.{0} (And.intro @agF_nil (And.intro @agF_cons (And.intro @agH_nil (And.intro @agH_cons (And.intro @id_eq.{1} (And.intro @Nat.mul_one (And.intro @Nat.mul_zero (And.intro @Nat.zero_mul (@List.flatten_nil.{0}))))))))))))))))))))))))))))))))
/-- Rules of the walk. -/
theorem wez : ProofOf (And.intro @Int.natCast_add (And.intro @Int.natCast_mul (And.intro @Int.natCast_one (@Int.natCast_zero)))) := And.intro @Int.natCast_add (And.intro @Int.natCast_mul (And.intro @Int.natCast_one (@Int.natCast_zero)))
end Go.Proofs.Ytipjekggnanffaa
set_option linter.unusedVariables false
set_option linter.unusedSimpArgs false
namespace Go.Proofs.Ytipjekggnanffaa
open Go.RowKit

/-- A byte times x. -/
def xtB (x : UInt8) : UInt8 := xorB (shlB x 1) (if x < 128 then 0 else 27)
def selB (c : Bool) (v : UInt8) : UInt8 := if c then v else 0
def bitB (y : UInt8) (i : Nat) : Bool := y.toNat.testBit i
def xtN (x : UInt8) : Nat → UInt8
  | 0 => x
  | n + 1 => xtB (xtN x n)
def tmN (x y : UInt8) : Nat → UInt8
  | 0 => 0
  | n + 1 => xorB (tmN x y n) (selB (bitB y n) (xtN x n))
def timesK (x y : UInt8) : UInt8 := tmN x y 8

/-! ### What is linear -/
theorem xorB_comm (x y : UInt8) : xorB x y = xorB y x := UInt8.xor_comm x y
theorem xorB_assoc (x y z : UInt8) : xorB (xorB x y) z = xorB x (xorB y z) := UInt8.xor_assoc x y z
theorem xorB_zero (x : UInt8) : xorB x 0 = x := UInt8.xor_zero
theorem zero_xorB (x : UInt8) : xorB 0 x = x := UInt8.zero_xor
theorem xorB_self (x : UInt8) : xorB x x = 0 := UInt8.xor_self
theorem xorB_four (a b c d : UInt8) : xorB (xorB a b) (xorB c d) = xorB (xorB a c) (xorB b d) := by
  rw [xorB_assoc, ← xorB_assoc b, xorB_comm b c, xorB_assoc c, ← xorB_assoc]
def linB (f : UInt8 → UInt8) : Prop := ∀ a b, f (xorB a b) = xorB (f a) (f b)
theorem bitB_xor (x y : UInt8) (i : Nat) : bitB (xorB x y) i = (bitB x i ^^ bitB y i) := by
  unfold bitB xorB
  rw [UInt8.toNat_xor, Nat.testBit_xor]
theorem selB_xor (c d : Bool) (v : UInt8) : selB (c ^^ d) v = xorB (selB c v) (selB d v) := by
  cases c <;> cases d <;> simp [selB, xorB]
theorem selB_lin (c : Bool) : linB (selB c) := by
  intro a b; cases c <;> simp [selB, xorB]
/-- A byte's bits, and what a function says of them. -/
def sumB (f : UInt8 → UInt8) (x : UInt8) : Nat → UInt8
  | 0 => 0
  | n + 1 => xorB (sumB f x n) (selB (bitB x n) (f (UInt8.ofNat (2 ^ n))))
theorem sumB_lin (f : UInt8 → UInt8) : ∀ n, linB fun x => sumB f x n
  | 0 => fun a b => (xorB_self 0).symm
  | n + 1 => fun a b => by
    show xorB (sumB f (xorB a b) n) (selB (bitB (xorB a b) n) _) = _
    rw [show sumB f (xorB a b) n = xorB (sumB f a n) (sumB f b n) from sumB_lin f n a b, bitB_xor, selB_xor, xorB_four]
    rfl
theorem lin_of {f : UInt8 → UInt8} (h : ∀ x, f x = sumB f x 8) : linB f := by
  intro a b
  rw [h, h a, h b]
  exact sumB_lin f 8 a b
theorem all_b {p : UInt8 → Bool} (h : ((List.range 256).all fun i => p (UInt8.ofNat i)) = true) (x : UInt8) : p x = true := by
  have := List.all_eq_true.1 h x.toNat (List.mem_range.2 x.toNat_lt)
  simpa using this
theorem bits_all (x : UInt8) : x = sumB id x 8 := by
  have := all_b (p := fun x => x == sumB id x 8) (by decide +kernel) x
  simpa using this
theorem lin_zero {f : UInt8 → UInt8} (h : linB f) : f 0 = 0 := by
  have := h 0 0
  rw [xorB_self] at this
  rw [this]; exact xorB_self _
theorem lin_sel {f : UInt8 → UInt8} (h : linB f) (c : Bool) (v : UInt8) : f (selB c v) = selB c (f v) := by
  cases c
  · exact lin_zero h
  · rfl
theorem lin_sum {f : UInt8 → UInt8} (h : linB f) (x : UInt8) : ∀ n, f (sumB id x n) = sumB f x n
  | 0 => lin_zero h
  | n + 1 => by
    show f (xorB _ _) = xorB _ _
    rw [h, lin_sum h x n, lin_sel h]
    rfl
/-- Linear functions that agree on eight bytes agree. -/
theorem lin_ext {f g : UInt8 → UInt8} (hf : linB f) (hg : linB g) (h : ∀ n, n < 8 → f (UInt8.ofNat (2 ^ n)) = g (UInt8.ofNat (2 ^ n))) (x : UInt8) : f x = g x := by
  rw [bits_all x, lin_sum hf, lin_sum hg]
  have : ∀ m, m ≤ 8 → sumB f x m = sumB g x m := by
    intro m
    induction m with
    | zero => intro _; rfl
    | succ m ih =>
      intro hm
      show xorB _ _ = xorB _ _
      rw [ih (by omega), h m (by omega)]
  exact this 8 (Nat.le_refl _)
theorem lin_comp {f g : UInt8 → UInt8} (hf : linB f) (hg : linB g) : linB fun x => f (g x) := fun a b => by
  show f (g (xorB a b)) = xorB (f (g a)) (f (g b))
  rw [hg, hf]
theorem lin_xor {f g : UInt8 → UInt8} (hf : linB f) (hg : linB g) : linB fun x => xorB (f x) (g x) := fun a b => by
  show xorB (f (xorB a b)) (g (xorB a b)) = xorB (xorB (f a) (g a)) (xorB (f b) (g b))
  rw [hf, hg, xorB_four]

/-! ### Products -/
theorem xtB_lin : linB xtB := lin_of fun x => by
  have := all_b (p := fun x => xtB x == sumB xtB x 8) (by decide +kernel) x
  simpa using this
theorem xtN_lin : ∀ n, linB fun x => xtN x n
  | 0 => fun _ _ => rfl
  | n + 1 => lin_comp xtB_lin (xtN_lin n)
theorem tmN_lin1 (y : UInt8) : ∀ n, linB fun x => tmN x y n
  | 0 => fun a b => (xorB_self 0).symm
  | n + 1 => lin_xor (tmN_lin1 y n) (lin_comp (selB_lin _) (xtN_lin n))
theorem tmN_lin2 (x : UInt8) : ∀ n, linB fun y => tmN x y n
  | 0 => fun a b => (xorB_self 0).symm
  | n + 1 => fun a b => by
    show xorB (tmN x (xorB a b) n) (selB (bitB (xorB a b) n) _) = _
    rw [show tmN x (xorB a b) n = xorB (tmN x a n) (tmN x b n) from tmN_lin2 x n a b, bitB_xor, selB_xor, xorB_four]
    rfl
theorem times_lin1 (y : UInt8) : linB fun x => timesK x y := tmN_lin1 y 8
theorem times_lin2 (x : UInt8) : linB fun y => timesK x y := tmN_lin2 x 8
theorem times_comm (x y : UInt8) : timesK x y = timesK y x := by
  refine lin_ext (f := fun x => timesK x y) (g := fun x => timesK y x) (times_lin1 y) (times_lin2 y) (fun n hn => ?_) x
  have h : ((List.range 8).all fun n => (List.range 256).all fun i => timesK (UInt8.ofNat (2 ^ n)) (UInt8.ofNat i) == timesK (UInt8.ofNat i) (UInt8.ofNat (2 ^ n))) = true := by decide +kernel
  have h1 := all_b (p := fun y => timesK (UInt8.ofNat (2 ^ n)) y == timesK y (UInt8.ofNat (2 ^ n))) (List.all_eq_true.1 h n (List.mem_range.2 hn)) y
  simpa using h1
theorem times_assoc (x y z : UInt8) : timesK x (timesK y z) = timesK (timesK x y) z := by
  have h : ((List.range 8).all fun n => (List.range 8).all fun m => (List.range 8).all fun k => timesK (UInt8.ofNat (2 ^ n)) (timesK (UInt8.ofNat (2 ^ m)) (UInt8.ofNat (2 ^ k))) == timesK (timesK (UInt8.ofNat (2 ^ n)) (UInt8.ofNat (2 ^ m))) (UInt8.ofNat (2 ^ k))) = true := by decide +kernel
  refine lin_ext (f := fun x => timesK x (timesK y z)) (g := fun x => timesK (timesK x y) z) (times_lin1 _) (lin_comp (times_lin1 z) (times_lin1 y)) (fun n hn => ?_) x
  refine lin_ext (f := fun y => timesK (UInt8.ofNat (2 ^ n)) (timesK y z)) (g := fun y => timesK (timesK (UInt8.ofNat (2 ^ n)) y) z) (lin_comp (times_lin2 _) (times_lin1 z)) (lin_comp (times_lin1 z) (times_lin2 _)) (fun m hm => ?_) y
  refine lin_ext (f := fun z => timesK (UInt8.ofNat (2 ^ n)) (timesK (UInt8.ofNat (2 ^ m)) z)) (g := fun z => timesK (timesK (UInt8.ofNat (2 ^ n)) (UInt8.ofNat (2 ^ m))) z) (lin_comp (times_lin2 _) (times_lin2 _)) (times_lin2 _) (fun k hk => ?_) z
  have h1 := List.all_eq_true.1 (List.all_eq_true.1 (List.all_eq_true.1 h n (List.mem_range.2 hn)) m (List.mem_range.2 hm)) k (List.mem_range.2 hk)
  simpa using h1
theorem times_one (x : UInt8) : timesK 1 x = x := by
  have := all_b (p := fun x => timesK 1 x == x) (by decide +kernel) x
  simpa using this

/-! ### The box -/
def powB (x : UInt8) : Nat → UInt8
  | 0 => 1
  | n + 1 => timesK (powB x n) x
theorem powB_add (x : UInt8) (m : Nat) : ∀ n, powB x (m + n) = timesK (powB x m) (powB x n)
  | 0 => by rw [times_comm]; exact (times_one _).symm
  | n + 1 => by
    rw [← Nat.add_assoc, powB, powB, powB_add x m n, times_assoc]
def leftB (x : UInt8) (n : Nat) : UInt8 := orB (shlB x n) (shrB x (8 - n))
def affB (y : UInt8) : UInt8 := xorB (xorB (xorB (xorB (xorB y (leftB y 1)) (leftB y 2)) (leftB y 3)) (leftB y 4)) 99
def invB (x : UInt8) : UInt8 :=
  let x2 := timesK x x
  let x3 := timesK x2 x
  let x6 := timesK x3 x3
  let x12 := timesK x6 x6
  let x15 := timesK x12 x3
  let x30 := timesK x15 x15
  let x60 := timesK x30 x30
  let x120 := timesK x60 x60
  let x240 := timesK x120 x120
  timesK (timesK x240 x12) x2
theorem pow_254 (x : UInt8) : powB x 254 = invB x := by
  have e2 : powB x 2 = timesK x x := by
    show timesK (timesK 1 x) x = _
    rw [times_one]
  have e3 : powB x 3 = timesK (timesK x x) x := by show timesK (powB x 2) x = _; rw [e2]
  have e6 := powB_add x 3 3
  have e12 := powB_add x 6 6
  have e15 := powB_add x 12 3
  have e30 := powB_add x 15 15
  have e60 := powB_add x 30 30
  have e120 := powB_add x 60 60
  have e240 := powB_add x 120 120
  have e252 := powB_add x 240 12
  have e254 := powB_add x 252 2
  rw [e254, e252, e240, e120, e60, e30, e15, e12, e6, e3, e2]
  rfl
/-- The box as a table. -/
def boxL : List UInt8 := (List.range 256).map fun i => affB (invB (UInt8.ofNat i))
def subK (x : UInt8) : UInt8 := affB (invB x)
theorem boxL_len : boxL.length = 256 := by simp [boxL]
theorem boxL_get (x : UInt8) : boxL[x.toNat]? = some (subK x) := by
  unfold boxL subK
  rw [List.getElem?_map, List.getElem?_range x.toNat_lt]
  simp
def backL : List UInt8 := (List.range 256).map fun i => UInt8.ofNat (boxL.findIdx (· == UInt8.ofNat i))
theorem sub_back (x : UInt8) : backL.getD (subK x).toNat 0 = x := by
  have := all_b (p := fun x => backL.getD (subK x).toNat 0 == x) (by decide +kernel) x
  simpa using this
theorem sub_inj {x y : UInt8} (h : subK x = subK y) : x = y := by
  rw [← sub_back x, h, sub_back]
end Go.Proofs.Ytipjekggnanffaa
set_option linter.unusedVariables false
set_option linter.unusedSimpArgs false
namespace Go.Proofs.Ytipjekggnanffaa
open Go.RowKit

instance : Std.Associative xorB := ⟨xorB_assoc⟩
instance : Std.Commutative xorB := ⟨xorB_comm⟩
def twB (x : UInt8) : UInt8 := timesK x 2
theorem twB_lin : linB twB := times_lin1 2
/-! ### A column -/
def mix4 (a b c d : UInt8) : UInt8 := xorB (xorB (xorB (xorB (twB a) (twB b)) b) c) d
def unmix4 (a b c d : UInt8) : UInt8 := xorB (xorB (xorB (timesK 14 a) (timesK 11 b)) (timesK 13 c)) (timesK 9 d)
theorem unmix_mix (a b c d : UInt8) : unmix4 (mix4 a b c d) (mix4 b c d a) (mix4 c d a b) (mix4 d a b c) = a := by
  have h : ∀ k x y, timesK k (xorB x y) = xorB (timesK k x) (timesK k y) := fun k => times_lin2 k
  have ha : ∀ a, xorB (xorB (xorB (xorB (timesK 14 (twB a)) (timesK 11 a)) (timesK 13 a)) (timesK 9 (twB a))) (timesK 9 a) = a := fun a => by
    have := all_b (p := fun a => xorB (xorB (xorB (xorB (timesK 14 (twB a)) (timesK 11 a)) (timesK 13 a)) (timesK 9 (twB a))) (timesK 9 a) == a) (by decide +kernel) a
    simpa using this
  have hb : ∀ a, xorB (xorB (xorB (xorB (timesK 14 (twB a)) (timesK 14 a)) (timesK 11 (twB a))) (timesK 13 a)) (timesK 9 a) = 0 := fun a => by
    have := all_b (p := fun a => xorB (xorB (xorB (xorB (timesK 14 (twB a)) (timesK 14 a)) (timesK 11 (twB a))) (timesK 13 a)) (timesK 9 a) == 0) (by decide +kernel) a
    simpa using this
  have hc : ∀ a, xorB (xorB (xorB (xorB (timesK 14 a) (timesK 11 (twB a))) (timesK 11 a)) (timesK 13 (twB a))) (timesK 9 a) = 0 := fun a => by
    have := all_b (p := fun a => xorB (xorB (xorB (xorB (timesK 14 a) (timesK 11 (twB a))) (timesK 11 a)) (timesK 13 (twB a))) (timesK 9 a) == 0) (by decide +kernel) a
    simpa using this
  have hd : ∀ a, xorB (xorB (xorB (xorB (timesK 14 a) (timesK 11 a)) (timesK 13 (twB a))) (timesK 13 a)) (timesK 9 (twB a)) = 0 := fun a => by
    have := all_b (p := fun a => xorB (xorB (xorB (xorB (timesK 14 a) (timesK 11 a)) (timesK 13 (twB a))) (timesK 13 a)) (timesK 9 (twB a)) == 0) (by decide +kernel) a
    simpa using this
  have e : unmix4 (mix4 a b c d) (mix4 b c d a) (mix4 c d a b) (mix4 d a b c) = xorB (xorB (xorB (xorB (xorB (xorB (xorB (timesK 14 (twB a)) (timesK 11 a)) (timesK 13 a)) (timesK 9 (twB a))) (timesK 9 a)) (xorB (xorB (xorB (xorB (timesK 14 (twB b)) (timesK 14 b)) (timesK 11 (twB b))) (timesK 13 b)) (timesK 9 b))) (xorB (xorB (xorB (xorB (timesK 14 c) (timesK 11 (twB c))) (timesK 11 c)) (timesK 13 (twB c))) (timesK 9 c))) (xorB (xorB (xorB (xorB (timesK 14 d) (timesK 11 d)) (timesK 13 (twB d))) (timesK 13 d)) (timesK 9 (twB d))) := by
    unfold unmix4 mix4
    simp only [h]
    ac_rfl
  rw [e, ha, hb, hc, hd, xorB_zero, xorB_zero, xorB_zero]
theorem mix_inj {a b c d a' b' c' d' : UInt8} (h0 : mix4 a b c d = mix4 a' b' c' d') (h1 : mix4 b c d a = mix4 b' c' d' a') (h2 : mix4 c d a b = mix4 c' d' a' b') (h3 : mix4 d a b c = mix4 d' a' b' c') : a = a' := by
  rw [← unmix_mix a b c d, h0, h1, h2, h3, unmix_mix]

/-! ### Blocks of 16 bytes, as functions of the place -/
abbrev B16 := Nat → UInt8
def addF (s k : B16) : B16 := fun j => xorB (s j) (k j)
def shiftF (s : B16) : B16 := fun j => subK (s (j % 4 + 4 * ((j / 4 + j % 4) % 4)))
def mixF (t : B16) : B16 := fun j => mix4 (t (4 * (j / 4) + j % 4)) (t (4 * (j / 4) + (j % 4 + 1) % 4)) (t (4 * (j / 4) + (j % 4 + 2) % 4)) (t (4 * (j / 4) + (j % 4 + 3) % 4))
def sameF (s t : B16) : Prop := ∀ j, j < 16 → s j = t j
theorem addF_inj {s t k : B16} (h : sameF (addF s k) (addF t k)) : sameF s t := by
  intro j hj
  have := h j hj
  unfold addF at this
  rw [← xorB_zero (s j), ← xorB_self (k j), ← xorB_assoc, this, xorB_assoc, xorB_self, xorB_zero]
theorem lt16 {p : Nat → Prop} (h : p 0 ∧ p 1 ∧ p 2 ∧ p 3 ∧ p 4 ∧ p 5 ∧ p 6 ∧ p 7 ∧ p 8 ∧ p 9 ∧ p 10 ∧ p 11 ∧ p 12 ∧ p 13 ∧ p 14 ∧ p 15) : ∀ j, j < 16 → p j := by
  obtain ⟨h0, h1, h2, h3, h4, h5, h6, h7, h8, h9, h10, h11, h12, h13, h14, h15⟩ := h
  intro j hj
  rcases j with _ | _ | _ | _ | _ | _ | _ | _ | _ | _ | _ | _ | _ | _ | _ | _ | j <;> first | assumption | omega
theorem shiftF_inj {s t : B16} (h : sameF (shiftF s) (shiftF t)) : sameF s t := by
  have g : ∀ j, j < 16 → s (j % 4 + 4 * ((j / 4 + j % 4) % 4)) = t (j % 4 + 4 * ((j / 4 + j % 4) % 4)) := fun j hj => sub_inj (h j hj)
  exact lt16 ⟨g 0 (by decide), g 13 (by decide), g 10 (by decide), g 7 (by decide), g 4 (by decide), g 1 (by decide), g 14 (by decide), g 11 (by decide), g 8 (by decide), g 5 (by decide), g 2 (by decide), g 15 (by decide), g 12 (by decide), g 9 (by decide), g 6 (by decide), g 3 (by decide)⟩
theorem mixF_inj {s t : B16} (h : sameF (mixF s) (mixF t)) : sameF s t := by
  have g := fun j hj => h j hj
  unfold mixF at g
  exact lt16 ⟨mix_inj (g 0 (by decide)) (g 1 (by decide)) (g 2 (by decide)) (g 3 (by decide)), mix_inj (g 1 (by decide)) (g 2 (by decide)) (g 3 (by decide)) (g 0 (by decide)), mix_inj (g 2 (by decide)) (g 3 (by decide)) (g 0 (by decide)) (g 1 (by decide)), mix_inj (g 3 (by decide)) (g 0 (by decide)) (g 1 (by decide)) (g 2 (by decide)),
    mix_inj (g 4 (by decide)) (g 5 (by decide)) (g 6 (by decide)) (g 7 (by decide)), mix_inj (g 5 (by decide)) (g 6 (by decide)) (g 7 (by decide)) (g 4 (by decide)), mix_inj (g 6 (by decide)) (g 7 (by decide)) (g 4 (by decide)) (g 5 (by decide)), mix_inj (g 7 (by decide)) (g 4 (by decide)) (g 5 (by decide)) (g 6 (by decide)),
    mix_inj (g 8 (by decide)) (g 9 (by decide)) (g 10 (by decide)) (g 11 (by decide)), mix_inj (g 9 (by decide)) (g 10 (by decide)) (g 11 (by decide)) (g 8 (by decide)), mix_inj (g 10 (by decide)) (g 11 (by decide)) (g 8 (by decide)) (g 9 (by decide)), mix_inj (g 11 (by decide)) (g 8 (by decide)) (g 9 (by decide)) (g 10 (by decide)),
    mix_inj (g 12 (by decide)) (g 13 (by decide)) (g 14 (by decide)) (g 15 (by decide)), mix_inj (g 13 (by decide)) (g 14 (by decide)) (g 15 (by decide)) (g 12 (by decide)), mix_inj (g 14 (by decide)) (g 15 (by decide)) (g 12 (by decide)) (g 13 (by decide)), mix_inj (g 15 (by decide)) (g 12 (by decide)) (g 13 (by decide)) (g 14 (by decide))⟩
/-- The state behind round n; k n: the n-th round key. -/
def roundF (k : Nat → B16) (s : B16) (n : Nat) : B16 := if n < 10 then addF (mixF (shiftF s)) (k n) else addF (shiftF s) (k n)
def encF (k : Nat → B16) (s : B16) : Nat → B16
  | 0 => addF s (k 0)
  | n + 1 => roundF k (encF k s n) (n + 1)
theorem roundF_inj {k : Nat → B16} {s t : B16} {n : Nat} (h : sameF (roundF k s n) (roundF k t n)) : sameF s t := by
  unfold roundF at h
  split at h
  · exact shiftF_inj (mixF_inj (addF_inj h))
  · exact shiftF_inj (addF_inj h)
theorem encF_inj {k : Nat → B16} {s t : B16} : ∀ {n}, sameF (encF k s n) (encF k t n) → sameF s t
  | 0, h => addF_inj h
  | n + 1, h => encF_inj (n := n) (roundF_inj h)
end Go.Proofs.Ytipjekggnanffaa
set_option linter.unusedVariables false
set_option linter.unusedSimpArgs false
namespace Go.Proofs.Ytipjekggnanffaa
open Go.RowKit

def conK (n : Nat) : UInt8 := xtN 1 n
theorem conK_step (n : Nat) : timesK (conK n) 2 = conK (n + 1) := by
  have := all_b (p := fun c => timesK c 2 == xtB c) (by decide +kernel) (conK n)
  rw [beq_iff_eq] at this
  exact this
/-- The word behind the word t, before it meets the word a key length ahead; n: its number behind the key. -/
def turnW (t : List UInt8) (n : Nat) : List UInt8 :=
  if n % 4 = 0 then [xorB (subK (t.getD 1 0)) (conK (n / 4)), subK (t.getD 2 0), subK (t.getD 3 0), subK (t.getD 0 0)]
  else [t.getD 0 0, t.getD 1 0, t.getD 2 0, t.getD 3 0]
def nextK (l : List UInt8) (n : Nat) : List UInt8 :=
  (List.range 4).map fun k => xorB (l.getD (4 * n + k) 0) ((turnW (l.drop (12 + 4 * n)) n).getD k 0)
/-- The key and n words behind it. -/
def rkN (key : List UInt8) : Nat → List UInt8
  | 0 => key
  | n + 1 => rkN key n ++ nextK (rkN key n) n
def rkK (key : List UInt8) : List UInt8 := rkN key 40
theorem nextK_len (l : List UInt8) (n : Nat) : (nextK l n).length = 4 := by simp [nextK]
theorem rkN_len {key : List UInt8} (h : key.length = 16) : ∀ n, (rkN key n).length = 16 + 4 * n
  | 0 => h
  | n + 1 => by rw [rkN, List.length_append, rkN_len h n, nextK_len]; omega
theorem rkK_len {key : List UInt8} (h : key.length = 16) : (rkK key).length = 176 := rkN_len h 40
def toL (f : B16) : List UInt8 := (List.range 16).map f
theorem toL_len (f : B16) : (toL f).length = 16 := by simp [toL]
theorem toL_get (f : B16) {j : Nat} (h : j < 16) : (toL f)[j]? = some (f j) := by simp [toL, h]
def ofB16 (l : List UInt8) : B16 := fun j => l.getD j 0
theorem toL_of {l : List UInt8} (h : l.length = 16) : toL (ofB16 l) = l := by
  apply List.ext_getElem?
  intro i
  by_cases hi : i < 16
  · rw [toL_get _ hi, ofB16, List.getD_eq_getElem?_getD, List.getElem?_eq_getElem (by omega)]; rfl
  · rw [List.getElem?_eq_none (by rw [toL_len]; omega), List.getElem?_eq_none (by omega)]
theorem toL_congr {f g : B16} (h : sameF f g) : toL f = toL g := List.map_congr_left fun j hj => h j (List.mem_range.1 hj)
theorem toL_inj {f g : B16} (h : toL f = toL g) : sameF f g := by
  intro j hj
  have := congrArg (fun l : List UInt8 => l[j]?) h
  simpa [toL_get _ hj] using this
/-- The n-th round key. -/
def keyF (rk : List UInt8) (n : Nat) : B16 := fun j => rk.getD (16 * n + j) 0
def encK (rk b : List UInt8) : List UInt8 := toL (encF (keyF rk) (ofB16 b) 10)
theorem encK_len (rk b : List UInt8) : (encK rk b).length = 16 := toL_len _
theorem encK_inj {rk x y : List UInt8} (hx : x.length = 16) (hy : y.length = 16) (h : encK rk x = encK rk y) : x = y := by
  have := encF_inj (toL_inj h)
  rw [← toL_of hx, ← toL_of hy, toL_congr this]
/-- What the block cipher makes of a block. -/
def blockC (key b : List UInt8) : List UInt8 := encK (rkK key) b
/-- The next counter. -/
def incL : List UInt8 → List UInt8 × Bool
  | [] => ([], true)
  | x :: r => let (s, c) := incL r; if c then ((x + 1) :: s, x + 1 == 0) else (x :: s, false)
def nextC (c : List UInt8) : List UInt8 := (incL c).1
theorem incL_len : ∀ c, (incL c).1.length = c.length
  | [] => rfl
  | x :: r => by
    have := incL_len r
    simp only [incL]
    split <;> simp [this]
theorem nextC_len (c : List UInt8) : (nextC c).length = c.length := incL_len c
def ctrC (c : List UInt8) : Nat → List UInt8
  | 0 => c
  | n + 1 => nextC (ctrC c n)
theorem ctrC_len (c : List UInt8) : ∀ n, (ctrC c n).length = c.length
  | 0 => rfl
  | n + 1 => by rw [ctrC, nextC_len, ctrC_len c n]
theorem ctrC_add (c : List UInt8) (m : Nat) : ∀ n, ctrC c (m + n) = ctrC (ctrC c m) n
  | 0 => rfl
  | n + 1 => by rw [← Nat.add_assoc, ctrC, ctrC, ctrC_add c m n]
/-- The bytes that a stream is combined with, n blocks of them. -/
def padC (rk c : List UInt8) : Nat → List UInt8
  | 0 => []
  | n + 1 => padC rk c n ++ encK rk (ctrC c n)
theorem padC_len (rk c : List UInt8) : ∀ n, (padC rk c n).length = 16 * n
  | 0 => rfl
  | n + 1 => by rw [padC, List.length_append, padC_len rk c n, encK_len]; omega
theorem padC_add (rk c : List UInt8) (m : Nat) : ∀ n, padC rk c (m + n) = padC rk c m ++ padC rk (ctrC c m) n
  | 0 => by simp [padC]
  | n + 1 => by
    rw [← Nat.add_assoc, padC, padC, padC_add rk c m n, List.append_assoc, ctrC_add]
def xorL (a b : List UInt8) : List UInt8 := List.zipWith xorB a b
def strmC (rk c b : List UInt8) : List UInt8 := xorL b (padC rk c ((b.length + 15) / 16))
theorem xorL_len {a b : List UInt8} (h : a.length ≤ b.length) : (xorL a b).length = a.length := by
  simp [xorL]; omega
theorem strmC_len (rk c b : List UInt8) : (strmC rk c b).length = b.length := xorL_len (by rw [padC_len]; omega)
theorem xorL_twice : ∀ {a b : List UInt8}, a.length ≤ b.length → xorL (xorL a b) b = a
  | [], _, _ => by simp [xorL]
  | x :: a, [], h => by simp at h
  | x :: a, y :: b, h => by
    have h1 := xorL_twice (a := a) (b := b) (by simpa using h)
    simp only [xorL, List.zipWith_cons_cons, List.cons.injEq] at h1 ⊢
    exact ⟨by rw [xorB_assoc, xorB_self, xorB_zero], h1⟩
/-- The stream undoes itself. -/
theorem strmC_twice (rk c b : List UInt8) : strmC rk c (strmC rk c b) = b := by
  unfold strmC
  have h : b.length ≤ (padC rk c ((b.length + 15) / 16)).length := by rw [padC_len]; omega
  rw [xorL_len h, xorL_twice h]
theorem xorL_drop (a b : List UInt8) (n : Nat) : (xorL a b).drop n = xorL (a.drop n) (b.drop n) := by
  simp [xorL, List.drop_zipWith]
/-- The stream from a later block on. -/
theorem strmC_drop (rk c b : List UInt8) (n : Nat) (h : 16 * n ≤ b.length) : (strmC rk c b).drop (16 * n) = strmC rk (ctrC c n) (b.drop (16 * n)) := by
  unfold strmC
  have e : (b.length + 15) / 16 = n + ((b.drop (16 * n)).length + 15) / 16 := by rw [List.length_drop]; omega
  rw [xorL_drop, e, padC_add, List.drop_append_of_le_length (by rw [padC_len]; omega), show (padC rk c n).drop (16 * n) = [] from List.drop_eq_nil_of_le (by rw [padC_len]; omega), List.nil_append]
/-- The stream of b up to i blocks, and one block more. -/
theorem strmC_take (rk c b : List UInt8) (n : Nat) : strmC rk c (b.take (16 * n)) = (strmC rk c b).take (16 * n) := by
  unfold strmC xorL
  rw [List.take_zipWith]
  by_cases h : 16 * n ≤ b.length
  · have e : ((b.take (16 * n)).length + 15) / 16 = n := by rw [List.length_take]; omega
    obtain ⟨k, hk⟩ : ∃ k, (b.length + 15) / 16 = n + k := ⟨(b.length + 15) / 16 - n, by omega⟩
    rw [e, hk, padC_add, List.take_append_of_le_length (by rw [padC_len]; omega), List.take_of_length_le (l := padC rk c n) (by rw [padC_len]; omega)]
  · rw [List.take_of_length_le (l := b) (by omega), List.take_of_length_le (l := padC rk c _) (by rw [padC_len]; omega)]
end Go.Proofs.Ytipjekggnanffaa
set_option linter.unusedVariables false
set_option linter.unusedSimpArgs false
namespace Go.Proofs.Ytipjekggnanffaa
open Go.RowKit

/-! ### Double -/
def dblF (b : B16) : B16 := fun j => xorB (xorB (shlB (b j) 1) (if j < 15 then shrB (b (j + 1)) 7 else 0)) (if j = 15 then selB (bitB (b 0) 7) 135 else 0)
theorem shl1_lin : linB fun x => shlB x 1 := lin_of fun x => by
  have := all_b (p := fun x => shlB x 1 == sumB (fun x => shlB x 1) x 8) (by decide +kernel) x
  rw [beq_iff_eq] at this
  exact this
theorem shr7_lin : linB fun x => shrB x 7 := lin_of fun x => by
  have := all_b (p := fun x => shrB x 7 == sumB (fun x => shrB x 7) x 8) (by decide +kernel) x
  rw [beq_iff_eq] at this
  exact this
theorem dblF_lin (a b : B16) (j : Nat) : dblF (addF a b) j = xorB (dblF a j) (dblF b j) := by
  have h1 := shl1_lin
  have h2 := shr7_lin
  unfold linB at h1 h2
  unfold dblF addF
  simp only [h1, h2, bitB_xor, selB_xor]
  split <;> split <;> (try simp only [xorB_zero]) <;> ac_rfl
theorem or_low (x y : UInt8) : orB (shlB x 1) (shrB y 7) = xorB (shlB x 1) (shrB y 7) := by
  have h : shrB y 7 = 0 ∨ shrB y 7 = 1 := by
    have := all_b (p := fun y => shrB y 7 == 0 || shrB y 7 == 1) (by decide +kernel) y
    simpa using this
  rcases h with h | h <;> rw [h]
  · have := all_b (p := fun x => orB (shlB x 1) 0 == xorB (shlB x 1) 0) (by decide +kernel) x
    rw [beq_iff_eq] at this; exact this
  · have := all_b (p := fun x => orB (shlB x 1) 1 == xorB (shlB x 1) 1) (by decide +kernel) x
    rw [beq_iff_eq] at this; exact this
theorem dbl_end (x : UInt8) (c : Bool) (h : xorB (shlB x 1) (selB c 135) = 0) : c = false ∧ shlB x 1 = 0 := by
  cases c
  · exact ⟨rfl, by rwa [show selB false 135 = 0 from rfl, xorB_zero] at h⟩
  · exfalso
    have := all_b (p := fun x => !(xorB (shlB x 1) (selB true 135) == 0)) (by decide +kernel) x
    simp [h] at this
theorem dbl_mid (x y : UInt8) (h : xorB (shlB x 1) (shrB y 7) = 0) : shlB x 1 = 0 ∧ shrB y 7 = 0 := by
  have h2 : shrB y 7 = 0 ∨ shrB y 7 = 1 := by
    have := all_b (p := fun y => shrB y 7 == 0 || shrB y 7 == 1) (by decide +kernel) y
    simpa using this
  rcases h2 with h2 | h2 <;> rw [h2] at h
  · exact ⟨by rwa [xorB_zero] at h, h2⟩
  · exfalso
    have := all_b (p := fun x => !(xorB (shlB x 1) 1 == 0)) (by decide +kernel) x
    simp [h] at this
theorem byte_zero (x : UInt8) (h1 : shlB x 1 = 0) (h2 : bitB x 7 = false) : x = 0 := by
  have := all_b (p := fun x => !(shlB x 1 == 0) || bitB x 7 || x == 0) (by decide +kernel) x
  simpa [h1, h2] using this
theorem bit_shr (x : UInt8) (h : shrB x 7 = 0) : bitB x 7 = false := by
  have := all_b (p := fun x => !(shrB x 7 == 0) || !bitB x 7) (by decide +kernel) x
  simpa [h] using this
theorem dblF_ker (z : B16) (h : ∀ j, j < 16 → dblF z j = 0) : ∀ j, j < 16 → z j = 0 := by
  have he := h 15 (by decide)
  simp only [dblF, Nat.lt_irrefl, if_false, if_true, xorB_zero] at he
  obtain ⟨h0, h15⟩ := dbl_end _ _ he
  have hm : ∀ j, j < 15 → shlB (z j) 1 = 0 ∧ shrB (z (j + 1)) 7 = 0 := fun j hj => by
    have := h j (by omega)
    simp only [dblF, if_pos hj, if_neg (show ¬ j = 15 by omega), xorB_zero] at this
    exact dbl_mid _ _ this
  intro j hj
  refine byte_zero _ ?_ ?_
  · by_cases hj' : j < 15
    · exact (hm j hj').1
    · obtain rfl : j = 15 := by omega
      exact h15
  · rcases j with _ | j
    · exact h0
    · exact bit_shr _ (hm j (by omega)).2
theorem xor_eq_zero {x y : UInt8} (h : xorB x y = 0) : x = y := by
  rw [← xorB_zero x, ← xorB_self y, ← xorB_assoc, h, zero_xorB]
theorem dblF_inj {a b : B16} (h : sameF (dblF a) (dblF b)) : sameF a b := by
  have := dblF_ker (addF a b) (fun j hj => by rw [dblF_lin, h j hj, xorB_self])
  exact fun j hj => xor_eq_zero (this j hj)
def dblL (b : List UInt8) : List UInt8 := if b.length = 16 then toL (dblF (ofB16 b)) else []
theorem dblL_len {b : List UInt8} (h : b.length = 16) : (dblL b).length = 16 := by rw [dblL, if_pos h, toL_len]
theorem dblL_inj {a b : List UInt8} (ha : a.length = 16) (hb : b.length = 16) (h : dblL a = dblL b) : a = b := by
  rw [dblL, dblL, if_pos ha, if_pos hb] at h
  rw [← toL_of ha, ← toL_of hb, toL_congr (dblF_inj (toL_inj h))]

/-! ### A list, combined with the beginning of another one -/
def xorP : List UInt8 → List UInt8 → List UInt8
  | x :: a, y :: b => xorB x y :: xorP a b
  | a, _ => a
theorem xorP_nil (a : List UInt8) : xorP a [] = a := by cases a <;> rfl
theorem xorP_len : ∀ a b : List UInt8, (xorP a b).length = a.length
  | [], _ => by simp [xorP]
  | x :: a, [] => rfl
  | x :: a, y :: b => by simp [xorP, xorP_len a b]
theorem xorP_get : ∀ (a b : List UInt8) (i : Nat), i < a.length → i < b.length → (xorP a b).getD i 0 = xorB (a.getD i 0) (b.getD i 0)
  | [], _, _, h, _ => by simp at h
  | x :: a, [], _, _, h => by simp at h
  | x :: a, y :: b, 0, _, _ => rfl
  | x :: a, y :: b, i + 1, h, g => by
    show (xorP a b).getD i 0 = _
    rw [xorP_get a b i (by simpa using h) (by simpa using g)]; rfl
theorem xorP_eq : ∀ {a b : List UInt8}, a.length ≤ b.length → xorP a b = xorL a b
  | [], _, _ => by simp [xorP, xorL]
  | x :: a, [], h => by simp at h
  | x :: a, y :: b, h => by
    have := xorP_eq (a := a) (b := b) (by simpa using h)
    simp only [xorL] at this
    simp [xorP, xorL, this]
theorem xorP_inj : ∀ {a b k : List UInt8}, a.length = b.length → xorP a k = xorP b k → a = b
  | [], [], _, _, _ => rfl
  | [], y :: b, _, h, _ => by simp at h
  | x :: a, [], _, h, _ => by simp at h
  | x :: a, y :: b, [], _, h => by simpa [xorP_nil] using h
  | x :: a, y :: b, z :: k, hl, h => by
    simp only [xorP, List.cons.injEq] at h
    have h1 := xorP_inj (a := a) (b := b) (k := k) (by simpa using hl) h.2
    have h2 : x = y := by
      have := congrArg (fun t => xorB t z) h.1
      simp only [xorB_assoc, xorB_self, xorB_zero] at this
      exact this
    rw [h1, h2]
theorem xorP_add {a b k : List UInt8} (ha : a.length = 16) (hb : b.length = 16) : xorP a b = toL (addF (ofB16 a) (ofB16 b)) := by
  apply List.ext_getElem?
  intro i
  by_cases hi : i < 16
  · rw [toL_get _ hi]
    have h := xorP_get a b i (by omega) (by omega)
    have hl : i < (xorP a b).length := by rw [xorP_len]; omega
    rw [List.getD_eq_getElem?_getD, List.getElem?_eq_getElem hl] at h
    rw [List.getElem?_eq_getElem hl]
    simpa [addF, ofB16] using h
  · rw [List.getElem?_eq_none (by rw [xorP_len]; omega), List.getElem?_eq_none (by rw [toL_len]; omega)]
theorem ofB_toL (f : B16) : sameF (ofB16 (toL f)) f := by
  intro j hj
  rw [ofB16, List.getD_eq_getElem?_getD, toL_get _ hj]; rfl
theorem dblF_congr {a b : B16} (h : sameF a b) : sameF (dblF a) (dblF b) := by
  intro j hj
  unfold dblF
  rw [h j hj, h 0 (by decide)]
  by_cases h1 : j < 15
  · rw [h (j + 1) (by omega)]
  · simp only [if_neg h1]
/-- Double is linear. -/
theorem dblL_xor {a b : List UInt8} (ha : a.length = 16) (hb : b.length = 16) : dblL (xorP a b) = xorP (dblL a) (dblL b) := by
  have h1 : (xorP a b).length = 16 := by rw [xorP_len]; exact ha
  rw [xorP_add (k := []) (dblL_len ha) (dblL_len hb), dblL, if_pos h1, dblL, dblL, if_pos ha, if_pos hb]
  refine toL_congr fun j hj => ?_
  rw [xorP_add (k := []) ha hb, dblF_congr (ofB_toL _) j hj, dblF_lin]
  show _ = xorB (ofB16 (toL _) j) (ofB16 (toL _) j)
  rw [ofB_toL _ j hj, ofB_toL _ j hj]

/-! ### The code of a message -/
def zero16 : List UInt8 := List.replicate 16 0
def padL (b : List UInt8) : List UInt8 := b ++ List.replicate ((16 - b.length % 16) % 16) 0
def sub1 (rk : List UInt8) : List UInt8 := dblL (encK rk zero16)
def sub2 (rk : List UInt8) : List UInt8 := dblL (sub1 rk)
def cbcM (rk b : List UInt8) : Nat → List UInt8
  | 0 => zero16
  | n + 1 => encK rk (xorP (cbcM rk b n) ((b.drop (16 * n)).take 16))
/-- How many blocks lie ahead of the last one. -/
def aheadM (b : List UInt8) : Nat := (b.length + 15) / 16 - 1
def endM (rk e : List UInt8) : List UInt8 := if e.length = 16 then xorP e (sub1 rk) else xorP (padL (e ++ [128])) (sub2 rk)
def macM (rk b : List UInt8) : List UInt8 := encK rk (xorP (cbcM rk b (aheadM b)) (endM rk (b.drop (16 * aheadM b))))
theorem cbcM_len (rk b : List UInt8) : ∀ n, (cbcM rk b n).length = 16
  | 0 => by simp [cbcM, zero16]
  | n + 1 => encK_len _ _
theorem macM_len (rk b : List UInt8) : (macM rk b).length = 16 := encK_len _ _
theorem sub1_len (rk : List UInt8) : (sub1 rk).length = 16 := dblL_len (encK_len _ _)
theorem sub2_len (rk : List UInt8) : (sub2 rk).length = 16 := dblL_len (sub1_len _)
theorem padL_short {b : List UInt8} (h : b.length < 16) : (padL (b ++ [128])).length = 16 := by
  simp [padL]; omega
theorem endM_len {rk e : List UInt8} (h : e.length ≤ 16) : (endM rk e).length = 16 := by
  unfold endM
  split
  · rw [xorP_len]; assumption
  · rw [xorP_len, padL_short (by omega)]
/-- One block: the code is an encryption of it. -/
theorem macM_one {rk a b : List UInt8} (hl : a.length = b.length) (h16 : a.length ≤ 16) (h : macM rk a = macM rk b) : a = b := by
  have ha : aheadM a = 0 := by unfold aheadM; omega
  have hb : aheadM b = 0 := by unfold aheadM; omega
  unfold macM at h
  rw [ha, hb, Nat.mul_zero, List.drop_zero, List.drop_zero] at h
  have h1 := encK_inj (by rw [xorP_len, cbcM_len]) (by rw [xorP_len, cbcM_len]) h
  have hz : ∀ x : List UInt8, x.length = 16 → xorP zero16 x = x := fun x hx => by
    rw [xorP_eq (by rw [hx]; decide)]
    apply List.ext_getElem?
    intro i
    unfold xorL zero16
    rw [List.getElem?_zipWith, List.getElem?_replicate]
    by_cases hi : i < 16
    · rw [if_pos hi, List.getElem?_eq_getElem (by omega)]; simp [zero_xorB]
    · rw [if_neg hi, List.getElem?_eq_none (by omega)]
  have z : ∀ x, cbcM rk x 0 = zero16 := fun _ => rfl
  rw [z, z, hz _ (endM_len h16), hz _ (endM_len (by omega))] at h1
  unfold endM at h1
  by_cases h2 : a.length = 16
  · rw [if_pos h2, if_pos (by omega)] at h1
    exact xorP_inj hl h1
  · rw [if_neg h2, if_neg (by omega)] at h1
    have h3 := xorP_inj (by rw [padL_short (by omega), padL_short (by omega)]) h1
    unfold padL at h3
    rw [List.append_assoc, List.append_assoc] at h3
    exact (List.append_inj h3 hl).1
/-- The code of a list of messages. -/
def vecD (rk : List UInt8) (l : List (List UInt8)) : Nat → List UInt8
  | 0 => macM rk zero16
  | n + 1 => xorP (dblL (vecD rk l n)) (macM rk (l.getD n []))
def vecM (rk : List UInt8) (l : List (List UInt8)) : List UInt8 :=
  if l.length = 0 then macM rk (List.replicate 15 0 ++ [1])
  else
    let d := vecD rk l (l.length - 1)
    let s := l.getD (l.length - 1) []
    if 16 ≤ s.length then macM rk (s.take (s.length - 16) ++ xorP (s.drop (s.length - 16)) d)
    else macM rk (xorP (dblL d) (padL (s ++ [128])))
theorem vecD_len (rk : List UInt8) (l : List (List UInt8)) : ∀ n, (vecD rk l n).length = 16
  | 0 => macM_len _ _
  | n + 1 => by rw [vecD, xorP_len, dblL_len (vecD_len rk l n)]
theorem vecM_len (rk : List UInt8) (l : List (List UInt8)) : (vecM rk l).length = 16 := by
  unfold vecM
  split
  · exact macM_len _ _
  · dsimp only
    split <;> exact macM_len _ _
end Go.Proofs.Ytipjekggnanffaa
