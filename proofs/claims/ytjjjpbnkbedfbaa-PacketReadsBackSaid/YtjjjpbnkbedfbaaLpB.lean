/- PacketReadsBack: the law that Decode undoes Encode, and Encode of what Decode returns is the beginning of the bytes, is true for every input, and leaves its arguments as they are. Conditions: none. Own work. -/
import Derived.Test.YtjjjpbnkbedfbaaLp1
import Derived.Test.YtjjjpbnkbedfbaaAlV
set_option linter.unusedVariables false
set_option linter.unusedSimpArgs false
namespace Go.Proofs.Ytjjjpbnkbedfbaa
open Go.RowKit
namespace packetReadsBack
set_option maxRecDepth 100000
def ss : List ParSh := [.many [.int .i64, .int .i64, .int .i64, .int .i64, .int .i64, .int .i64, .int .u32, .int .u32, .int .u32, .int .u64, .int .u64, .int .u64, .int .u64], .one (.sl [.int .u8]), .one (.sl [.int .u8])]
theorem hss : allSome (parOf Try.prog) Try.f4.params.toList = some ss := by kernel_rfl
def G0 : Glob := []
theorem den (xs : List D) (h : All2 HasPar xs ss) : Den Try.prog G0 4 xs (.w (.c (.d (.bool true)))) := by
  obtain ⟨x0, r0, rfl, h0, h⟩ := all2_cons h
  obtain ⟨x1, r1, rfl, h1, h⟩ := all2_cons h
  obtain ⟨x2, r2, rfl, h2, h⟩ := all2_cons h
  obtain rfl := all2_nil h
  obtain ⟨c0, rfl, h0⟩ := is_many h0
  obtain ⟨y0_0, c0, rfl, g0_0, h0⟩ := shs_cons h0
  obtain ⟨y0_1, c0, rfl, g0_1, h0⟩ := shs_cons h0
  obtain ⟨y0_2, c0, rfl, g0_2, h0⟩ := shs_cons h0
  obtain ⟨y0_3, c0, rfl, g0_3, h0⟩ := shs_cons h0
  obtain ⟨y0_4, c0, rfl, g0_4, h0⟩ := shs_cons h0
  obtain ⟨y0_5, c0, rfl, g0_5, h0⟩ := shs_cons h0
  obtain ⟨y0_6, c0, rfl, g0_6, h0⟩ := shs_cons h0
  obtain ⟨y0_7, c0, rfl, g0_7, h0⟩ := shs_cons h0
  obtain ⟨y0_8, c0, rfl, g0_8, h0⟩ := shs_cons h0
  obtain ⟨y0_9, c0, rfl, g0_9, h0⟩ := shs_cons h0
  obtain ⟨y0_10, c0, rfl, g0_10, h0⟩ := shs_cons h0
  obtain ⟨y0_11, c0, rfl, g0_11, h0⟩ := shs_cons h0
  obtain ⟨y0_12, c0, rfl, g0_12, h0⟩ := shs_cons h0
  obtain rfl := shs_nil h0
  obtain ⟨l0_0, rfl, k0_0, j0_0⟩ := is_i64 g0_0
  obtain ⟨l0_1, rfl, k0_1, j0_1⟩ := is_i64 g0_1
  obtain ⟨l0_2, rfl, k0_2, j0_2⟩ := is_i64 g0_2
  obtain ⟨l0_3, rfl, k0_3, j0_3⟩ := is_i64 g0_3
  obtain ⟨l0_4, rfl, k0_4, j0_4⟩ := is_i64 g0_4
  obtain ⟨l0_5, rfl, k0_5, j0_5⟩ := is_i64 g0_5
  obtain ⟨l0_6, rfl⟩ := is_u32 g0_6
  obtain ⟨l0_7, rfl⟩ := is_u32 g0_7
  obtain ⟨l0_8, rfl⟩ := is_u32 g0_8
  obtain ⟨l0_9, rfl, k0_9⟩ := is_u64 g0_9
  obtain ⟨l0_10, rfl, k0_10⟩ := is_u64 g0_10
  obtain ⟨l0_11, rfl, k0_11⟩ := is_u64 g0_11
  obtain ⟨l0_12, rfl, k0_12⟩ := is_u64 g0_12
  obtain ⟨l1, rfl, k1⟩ := is_bytes h1
  obtain ⟨l2, rfl, k2⟩ := is_bytes h2
  exact prdb16_c G0 l0_0 k0_0 j0_0 l0_1 k0_1 j0_1 l0_2 k0_2 j0_2 l0_3 k0_3 j0_3 l0_4 k0_4 j0_4 l0_5 k0_5 j0_5 l0_6 l0_7 l0_8 l0_9 k0_9 l0_10 k0_10 l0_11 k0_11 l0_12 k0_12 l1 k1 l2 k2
theorem lifted (os : Os) (started : os.Started) (H : Type) (enc : TypeId × Value → H) :
    ReturnsInHanded {} Try.checked os 4 .any (Rows.packetReadsBackSpec.pre6 enc Try.prog Try.f4 Rows.packetReadsBackRow.domain false) (Rows.packetReadsBackSpec.post enc Try.prog Try.f4 false true false false) := by
  refine returnsInHanded_of_change (C := Try.checked) own started (by kernel_rfl) Try.func4
    (ChangeSpec.witness6 (enc := enc) (C := Try.checked) false ⟨#[], (ss.map zeroPar).toArray, []⟩ 8 (by kernel_rfl) (by kernel_rfl) (by kernel_rfl) (by kernel_rfl)) ?_
  intro W base args ds gs before hval hW _ _
  exact (law_calls (P := Try.prog) (s := Rows.packetReadsBackSpec) rfl hss rfl (by kernel_rfl) (readable_mk (by kernel_rfl)) (tb := 4) (by kernel_rfl) Try.underlying4 (fun ds hd => by
      match ds, hd with
      | [d0, d1, d2], _ => rfl) (G := G0) den hval hW (fun p hp => by cases hp))
theorem row : Rows.PacketReadsBackSaid :=
  OpenClaim.holds_of_wide 4 Try.f4 rfl rfl rfl rfl rfl rfl rfl ⟨rfl, rfl, rfl, rfl, rfl⟩ rfl rfl rfl rfl rfl (by kernel_rfl) Try.func4 (by kernel_rfl)
    (of_decide_eq_true (by kernel_rfl)) (by unfold Func.isWrapper; first | (rw [if_pos (by decide +kernel)]; kernel_rfl) | (rw [if_neg (by decide +kernel)]; exact ⟨rfl, rfl⟩))
    (fun os started H enc _ => lifted os started H enc)
theorem proved : Rows.PacketReadsBackSaid := row
end packetReadsBack
end Go.Proofs.Ytjjjpbnkbedfbaa
