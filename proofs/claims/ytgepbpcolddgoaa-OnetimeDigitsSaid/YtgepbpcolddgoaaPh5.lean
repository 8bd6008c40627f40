/- Layer 2 on data: the reference's hashes at once. Own work. -/
import Derived.Test.YtgepbpcolddgoaaPh4
set_option linter.unusedVariables false
set_option linter.unusedSimpArgs false
namespace Go.Proofs.Ytgepbpcolddgoaa
open Go.RowKit

theorem rep_snoc {α : Type} (a : α) (j : Nat) : List.replicate j a ++ [a] = List.replicate (j + 1) a := by rw [List.replicate_succ']
theorem sum_rep (n : Nat) : ((List.replicate n (0 : UInt8)).map UInt8.toNat).sum = 0 := by induction n with
  | zero => rfl
  | succ n ih => rw [List.replicate_succ, List.map_cons, List.sum_cons, ih]; rfl
def rf1St (h : List UInt32) (rest : List UInt8) (count : Nat) (j : Nat) : St := ⟨ofL [(0, .w (.c (.d (.sl (h.map wD))))), (2, .w (.c (.d (.int .i64 (count : Int))))), (7, .w (.c (.d (.sl (constK.map wD))))), (8, .w (.c (.own 1 1 0 (rest ++ [128] ++ List.replicate j 0).length)))], hL [(1, .row 1 ((rest ++ [128] ++ List.replicate j 0).map bD))], uL [1]⟩
def rf2St (h : List UInt32) (p : List UInt8) (n : Nat) : St := ⟨ofL [(0, .w (.c (.d (.sl ((foldB h p n).map wD))))), (7, .w (.c (.d (.sl (constK.map wD))))), (8, .w (.c (.own 1 1 0 p.length))), (9, .w (.c (.d (.int .i64 ((64 * n : Nat) : Int)))))], hL [(1, .row 1 (p.map bD))], uL [1]⟩
def rf3St (ws : List UInt32) (k : Nat) : St := ⟨ofL [(0, .w (.c (.d (.sl (ws.map wD))))), (10, .w (.c (.own 1 1 0 (wordsB (ws.take k)).length))), (11, .w (.c (.d (.int .i64 (k : Int)))))], hL [(1, .row 1 ((wordsB (ws.take k)).map bD))], uL [1]⟩
theorem get_ws {ws : List UInt32} {k : Nat} (h : k < ws.length) : (ws.map wD)[k]? = some (wD (ws.getD k 0)) := by
  simp [h]
theorem b0_is : D.int .u8 0 = bD 0 := rfl
theorem b128_is : D.int .u8 128 = bD 128 := rfl
theorem app_c (l : List UInt8) (a : UInt8) : l.map bD ++ [bD a] = (l ++ [a]).map bD := by simp

def rsSt (b : List UInt8) (n : Nat) : St := ⟨ofL [(0, .w (.c (.d (.sl (b.map bD))))), (3, .w (.c (.d (.sl ((foldB firstK b n).map wD))))), (4, .w (.c (.d (.sl (constK.map wD))))), (5, .w (.c (.d (.int .i64 ((64 * (b.length / 64) : Nat) : Int))))), (6, .w (.c (.d (.int .i64 ((64 * n : Nat) : Int)))))], hL [], uL []⟩
def rchSt (b : List UInt8) (M : Int) (i : Nat) : St := ⟨ofL [(1, .w (.c (.d (.int .i64 M)))), (5, .w (.c (.d (.sl ((chainK b i).map bD))))), (6, .w (.c (.d (.int .i64 (i : Int)))))], hL [], uL []⟩
end Go.Proofs.Ytgepbpcolddgoaa
