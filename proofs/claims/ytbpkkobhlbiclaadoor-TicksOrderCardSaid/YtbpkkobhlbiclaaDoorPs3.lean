/- Strings on data: bytes behind their lists; contracts of the kit's shelf as contracts on data; package strings. Own work. -/
import Derived.Test.YtbpkkobhlbiclaaDoorProg
import Derived.Test.YtbpkkobhlbiclaaDoorAlW
import Derived.Lib.Bytealg
import Derived.Laws.RangeAny
set_option linter.unusedVariables false
set_option linter.unusedSimpArgs false
namespace Go.Proofs.YtbpkkobhlbiclaaDoor
open Go.RowKit

/-! ### Strings as lists of bytes -/
theorem szS (l : List UInt8) : (ByteArray.mk l.toArray).size = l.length := by simp [ByteArray.size]
theorem dlS (l : List UInt8) : (ByteArray.mk l.toArray).data.toList = l := by simp
theorem mkS (s : ByteArray) : ByteArray.mk s.data.toList.toArray = s := by cases s; simp
theorem toListS (l : List UInt8) : (ByteArray.mk l.toArray).toList = l := ByteArray.toList_mk l
theorem mkS_inj {l m : List UInt8} (h : ByteArray.mk l.toArray = ByteArray.mk m.toArray) : l = m := by
  have := congrArg (fun s => s.data.toList) h
  simpa using this
theorem addS (l m : List UInt8) : binS .add ⟨l.toArray⟩ ⟨m.toArray⟩ = if l.length + m.length ≤ 9223372036854775807 then some (.str ⟨(l ++ m).toArray⟩) else none := by
  unfold binS
  simp only [szS]
  have e : ByteArray.mk l.toArray ++ ByteArray.mk m.toArray = ByteArray.mk (l ++ m).toArray := by apply ByteArray.ext; simp
  rw [e]
theorem eqlS (l m : List UInt8) : binS .eql ⟨l.toArray⟩ ⟨m.toArray⟩ = some (.bool (decide (l = m))) := by
  unfold binS
  simp only [toListS]
  congr 2
  by_cases h : l = m <;> simp [h]
theorem neqS (l m : List UInt8) : binS .neq ⟨l.toArray⟩ ⟨m.toArray⟩ = some (.bool (!decide (l = m))) := by
  unfold binS
  simp only [toListS]
  congr 2
  by_cases h : l = m <;> simp [h]
theorem extS (l : List UInt8) (i j : Nat) (h : j ≤ l.length) : (ByteArray.mk l.toArray).extract i j = ByteArray.mk ((l.drop i).take (j - i)).toArray := by
  apply ByteArray.ext
  simp [List.extract_eq_take_drop]
/-- A contract of the kit's shelf between plain values, as a contract on data. -/
theorem den_of_shelf {P : Program} {G : Glob} {F : FuncId} {args : List D} {vs : List Value} {v : Value} {ws : V} (hargs : ∀ (S : Cells) (w : World) (us : List Value), All2 (fun v x => RW (fun _ => none) S w v (.c (.d x))) us args → us = vs)
    (h : ∀ (S : Cells) (w : World), GlobOk G S w → Calls P F vs.toArray w fun e w' => e = .returned v ∧ Below w.heap.size w w') (hr : ∀ (S : Cells) (w : World) (B : Nat), ResV S w B v ws []) : Den P G F args ws := by
  intro w S us hS hG hA
  rw [hargs S w us hA]
  refine (h S w hG).mono ?_
  rintro e w' ⟨rfl, hb⟩
  exact ⟨v, S, [], rfl, hb, fun b i hs => ⟨.inl hs, Nat.lt_of_lt_of_le (hS b i hs) hb.size⟩, .nil, hr _ _ _⟩
theorem args_s {S : Cells} {w : World} {us : List Value} {s : ByteArray} (h : All2 (fun v x => RW (fun _ => none) S w v (.c (.d x))) us [.str s]) : us = [.string s] := by
  cases h with
  | cons h1 h2 => cases h2; cases h1; rfl
theorem args_i {S : Cells} {w : World} {us : List Value} {k : IntKind} {n : Int} (h : All2 (fun v x => RW (fun _ => none) S w v (.c (.d x))) us [.int k n]) : us = [.int k n] := by
  cases h with
  | cons h1 h2 => cases h2; cases h1; rfl
theorem args_ss {S : Cells} {w : World} {us : List Value} {s t : ByteArray} (h : All2 (fun v x => RW (fun _ => none) S w v (.c (.d x))) us [.str s, .str t]) : us = [.string s, .string t] := by
  cases h with
  | cons h1 h2 => cases h2 with | cons h2 h3 => cases h3; cases h1; cases h2; rfl
theorem args_si {S : Cells} {w : World} {us : List Value} {s : ByteArray} {k : IntKind} {n : Int} (h : All2 (fun v x => RW (fun _ => none) S w v (.c (.d x))) us [.str s, .int k n]) : us = [.string s, .int k n] := by
  cases h with
  | cons h1 h2 => cases h2 with | cons h2 h3 => cases h3; cases h1; cases h2; rfl
theorem res_d {S : Cells} {w : World} {B : Nat} {v : Value} {x : D} (h : Reads S w v x) (ha : x.one = true) : ResV S w B v (.w (.c (.d x))) [] := by
  cases x with
  | agg cs => cases ha
  | _ => exact ⟨h, rfl⟩
theorem res_dd {S : Cells} {w : World} {B : Nat} {v u : Value} {x y : D} (h : Reads S w v x) (k : Reads S w u y) (ha : x.one = true) (hb : y.one = true) : ResV S w B (.tuple #[v, u]) (.tup [.c (.d x), .c (.d y)]) [] :=
  ⟨[v, u], rfl, .cons (b1 := []) (res_d (B := B) h ha) (.cons (b1 := []) (res_d (B := B) k hb) .nil)⟩
end Go.Proofs.YtbpkkobhlbiclaaDoor
