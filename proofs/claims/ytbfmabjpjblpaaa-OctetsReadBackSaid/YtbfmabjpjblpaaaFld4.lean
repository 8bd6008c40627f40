/- The contracts of layer 1's Fields. -/
import Derived.Test.YtbfmabjpjblpaaaFld3
set_option linter.unusedVariables false
set_option linter.unusedSimpArgs false
namespace Go.Proofs.Ytbfmabjpjblpaaa
open Go.RowKit

/-- The head of the bytes of a field: the length of its Data, its Type, its Data. -/
def fsz (b : List UInt8) : Nat := getN ((b.drop 2).take 2)
def ftp (b : List UInt8) : Nat := getN (b.take 2)
def fdt (b : List UInt8) : List UInt8 := (b.drop 4).take (fsz b)
/-- The fields whose bytes b are. -/
def parse (b : List UInt8) : Option Fs :=
  if h0 : b = [] then some []
  else if b.length < 4 then none
  else if b.length < 4 + fsz b then none
  else (parse (b.drop (4 + fsz b))).map fun r => ((ftp b : Int), fdt b) :: r
termination_by b.length
decreasing_by
  have : 0 < b.length := List.length_pos_iff.2 h0
  rw [List.length_drop]; omega
theorem parse_nil : parse [] = some [] := by rw [parse]; simp
theorem parse_short (b : List UInt8) (h0 : 0 < b.length) (h : b.length < 4 ∨ b.length < 4 + fsz b) : parse b = none := by
  rw [parse, dif_neg (List.length_pos_iff.1 h0)]
  rcases h with h | h
  · rw [if_pos h]
  · split
    · rfl
    · rfl
theorem parse_step (b : List UInt8) (h1 : 4 ≤ b.length) (h2 : 4 + fsz b ≤ b.length) : parse b = (parse (b.drop (4 + fsz b))).map fun r => ((ftp b : Int), fdt b) :: r := by
  rw [parse, dif_neg (List.length_pos_iff.1 (by omega)), if_neg (by omega), if_neg (by omega)]
def fcode (b : List UInt8) : Int := if 65535 < b.length then 2 else if (parse b).isSome = true then 0 else 1
def flist (b : List UInt8) : Fs := if 65535 < b.length then [] else (parse b).getD []
theorem getN_small (l : List UInt8) (h : l.length ≤ 2) : getN l < 65536 := by
  rw [getN_mod]
  have h1 : valN 0 l < 256 ^ l.length := by
    match l, h with
    | [], _ => simp [valN]
    | [a], _ => have := a.toNat_lt; simp [valN]; omega
    | [a, b], _ => have := a.toNat_lt; have := b.toNat_lt; simp [valN]; omega
  have h2 : 256 ^ l.length ≤ 256 ^ 2 := Nat.pow_le_pow_right (by decide) h
  omega
theorem fsz_lt (b : List UInt8) : fsz b < 65536 := getN_small _ (by rw [List.length_take]; omega)
theorem ftp_lt (b : List UInt8) : ftp b < 65536 := getN_small _ (by rw [List.length_take]; omega)
theorem frozen_new (w : World) (cs : Array Value) (t : TypeId) (i : Nat) : (w.alloc (.cells cs t)).frozen? ⟨w.heap.size, i, none⟩ = false :=
  frozen_of_row _ _ i cs t (heap_alloc_new w (.cells cs t))
theorem frozen_lt (w : World) (o : Obj) (p : Addr) (h : p.block < w.heap.size) : (w.alloc o).frozen? p = w.frozen? p :=
  ((Below.refl _ _).alloc (Nat.le_refl _) o).frozen h
theorem first_get (v : Value) (b : List UInt8) (w : World) (h : Slc w v ((b.drop 2).take 2)) : Calls Try.prog 16 #[v] w fun e w' => e = .returned (.int .u64 (fsz b)) ∧ w = w' := get_any _ _ _ h
theorem first_type (v : Value) (b : List UInt8) (w : World) (h : Slc w v (b.take 2)) : Calls Try.prog 16 #[v] w fun e w' => e = .returned (.int .u64 (ftp b)) ∧ w = w' := get_any _ _ _ h
set_option maxHeartbeats 400000 in
theorem first_no (v : Value) (b : List UInt8) (w : World) (hv : Slc w v b) (h : b.length < 4 ∨ b.length < 4 + fsz b) :
    Calls Try.prog 36 #[v] w fun e w' => e = .returned (.tuple #[.agg #[.int .i64 0, .slice none 0 0], .int .i64 0, .bool false]) ∧ Below w.heap.size w w' := by
  have hlen := lenV hv
  have hle := hv.le
  unfold maxLen at hle
  by_cases h4 : b.length < 4
  · clear h
    go_enter Try.func36, Try.ntmps36
    go_wp2
    exact bodyPost_ret (v := .tuple #[.agg #[.int .i64 0, .slice none 0 0], .int .i64 0, .bool false]) (by simp [results, Try.results36, go_sem]) rfl ⟨rfl, (Below.refl _ _).alloc (Nat.le_refl _) _⟩
  · have h5 : b.length < 4 + fsz b := by omega
    have hz := fsz_lt b
    obtain ⟨A1, k1, s1, e1⟩ := cutLH hv 2 4 (by omega) (by omega)
    replace e1 : ∀ W, (Instr.slice 23 v (some (.int .i64 2)) (some (.int .i64 4)) none).run Try.prog W = .ok (.slice A1 2 k1) W := e1
    replace s1 : Slc w (.slice A1 2 k1) ((b.drop 2).take 2) := s1
    clear h
    go_enter Try.func36, Try.ntmps36
    go_wp2_with (go_at_call 16; refine (first_get _ _ _ (s1.alloc _)).mono ?_; rintro e w' ⟨rfl, rfl⟩)
    exact bodyPost_ret (v := .tuple #[.agg #[.int .i64 0, .slice none 0 0], .int .i64 0, .bool false]) (by simp [results, Try.results36, go_sem]) rfl ⟨rfl, by first | exact (Below.refl _ _).alloc (Nat.le_refl _) _ | exact ((Below.refl _ _).alloc (Nat.le_refl _) _).setCell (by simp) _⟩
set_option maxRecDepth 100000 in
set_option maxHeartbeats 1600000 in
theorem first_yes (v : Value) (b : List UInt8) (w : World) (hv : Slc w v b) (hl : b.length ≤ 65535) (h4 : 4 ≤ b.length) (h5 : 4 + fsz b ≤ b.length) :
    Calls Try.prog 36 #[v] w fun e w' => ∃ u, e = .returned (.tuple #[.agg #[.int .i64 (ftp b), u], .int .i64 (4 + fsz b : Nat), .bool true]) ∧ Own w' w.heap.size u (fdt b) ∧ Below w.heap.size w w' := by
  have hlen := lenV hv
  have hz := fsz_lt b
  have hz2 := ftp_lt b
  obtain ⟨A1, k1, s1, e1⟩ := cutLH hv 2 4 (by omega) (by omega)
  replace e1 : ∀ W, (Instr.slice 23 v (some (.int .i64 2)) (some (.int .i64 4)) none).run Try.prog W = .ok (.slice A1 2 k1) W := e1
  replace s1 : Slc w (.slice A1 2 k1) ((b.drop 2).take 2) := s1
  obtain ⟨A2, k2, s2, e2⟩ := cutH hv 2 (by omega)
  replace e2 : ∀ W, (Instr.slice 23 v none (some (.int .i64 2)) none).run Try.prog W = .ok (.slice A2 2 k2) W := e2
  obtain ⟨A3, k3, s3, e3⟩ := cutLH hv 4 (4 + fsz b) (by omega) (by omega)
  replace e3 : ∀ W, (Instr.slice 23 v (some (.int .i64 4)) (some (.int .i64 (4 + (fsz b : Int)))) none).run Try.prog W = .ok (.slice A3 (4 + fsz b - 4) k3) W := e3
  rw [show 4 + fsz b - 4 = fsz b by omega] at s3 e3
  have hw : IntKind.i64.wrap (ftp b : Int) = ftp b := IntWalk.i64_in _ (by omega)
  go_enter Try.func36, Try.ntmps36
  go_wp2_with (go_at_call 16; refine (first_get _ _ _ (s1.alloc _)).mono ?_; rintro e w' ⟨rfl, rfl⟩)
  go_region_with (first
    | (go_at_call 16; refine (first_type _ b _ (by first | exact (s2.alloc _).drew | exact ((s2.alloc _).alloc _).drew)).mono ?_; rintro e w' ⟨rfl, rfl⟩)
    | (go_at_call 21; refine (join_any _ _ _ (Slcs.at1 (w.alloc _) _ _ 23 (w.heap.size + 1) (by simp) (s3.alloc _)).drew (by simp only [sumLen, List.map_cons, List.map_nil, List.sum_cons, List.sum_nil, List.length_take, List.length_drop]; omega)).mono ?_; rintro e w2 ⟨u, rfl, ou, bu⟩; obtain ⟨A4, k4, rfl⟩ := ou.shape (fsz b) (by rw [List.flatten_cons, List.flatten_nil, List.append_nil, List.length_take, List.length_drop]; omega); have hc0 : w2.cell? ⟨w.heap.size, 0, none⟩ = some (.int .i64 0) := (bu.cell (p := ⟨w.heap.size, 0, none⟩) (by simp <;> omega)).trans ((World.cell?_alloc_lt _ _ _ (by simp)).trans (cell_new w _ _ 0 _ rfl)); have hc1 : w2.cell? ⟨w.heap.size, 1, none⟩ = some (.slice none 0 0) := (bu.cell (p := ⟨w.heap.size, 1, none⟩) (by simp <;> omega)).trans ((World.cell?_alloc_lt _ _ _ (by simp)).trans (cell_new w _ _ 1 _ rfl)); have hf0 : w2.frozen? ⟨w.heap.size, 0, none⟩ = false := (bu.frozen (p := ⟨w.heap.size, 0, none⟩) (by simp <;> omega)).trans ((frozen_lt _ _ _ (by simp)).trans (frozen_new w _ _ 0)); have hf1 : w2.frozen? ⟨w.heap.size, 1, none⟩ = false := (bu.frozen (p := ⟨w.heap.size, 1, none⟩) (by simp <;> omega)).trans ((frozen_lt _ _ _ (by simp)).trans (frozen_new w _ _ 1))))
  all_goals
    have bw : Below w.heap.size w w2 := (((Below.refl _ _).alloc (Nat.le_refl _) _).alloc (by simp) _).drew.trans (bu.mono (by simp <;> omega))
    have o2 : Own w2 (w.heap.size + 1) (.slice A4 (fsz b) k4) (fdt b) := by
      have := ou.mono (B' := w.heap.size + 1) (by simp)
      rwa [List.flatten_cons, List.flatten_nil, List.append_nil] at this
    have o3 : Own ((w2.setCell ⟨w.heap.size, 0, none⟩ (.int .i64 (ftp b))).setCell ⟨w.heap.size, 1, none⟩ (.slice A4 (fsz b) k4)) w.heap.size (.slice A4 (fsz b) k4) (fdt b) :=
      Own.mono (ownsRow_setCell_below (ownsRow_setCell_below o2 (by simp) _) (by simp) _) (by omega)
    have bf := (bw.setCell (p := ⟨w.heap.size, 0, none⟩) (Nat.le_refl _) (.int .i64 (ftp b))).setCell (p := ⟨w.heap.size, 1, none⟩) (Nat.le_refl _) (.slice A4 (fsz b) k4)
    clear ou bu
    go_wp2
    exact bodyPost_ret (v := .tuple #[.agg #[.int .i64 (ftp b), .slice A4 (fsz b) k4], .int .i64 (4 + fsz b), .bool true]) (by simp [results, Try.results36, go_sem, hc0, hc1]) rfl ⟨_, rfl, o3, bf⟩

end Go.Proofs.Ytbfmabjpjblpaaa
