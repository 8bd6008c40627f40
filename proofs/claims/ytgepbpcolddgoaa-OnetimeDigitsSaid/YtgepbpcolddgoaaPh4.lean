/- Layer 2 on data: hashes at once. Own work. -/
import Derived.Test.YtgepbpcolddgoaaPh3
set_option linter.unusedVariables false
set_option linter.unusedSimpArgs false
namespace Go.Proofs.Ytgepbpcolddgoaa
open Go.RowKit

/-! ### SHA-256 of bytes -/
def foldB (h : List UInt32) (b : List UInt8) : Nat → List UInt32
  | 0 => h
  | n + 1 => blockK (foldB h b n) ((b.drop (64 * n)).take 64)
theorem foldB_len {h : List UInt32} (hh : h.length = 8) (b : List UInt8) : ∀ n, (foldB h b n).length = 8
  | 0 => hh
  | n + 1 => blockK_len _ _
def padK (rest : List UInt8) (count : Nat) : List UInt8 := rest ++ [128] ++ List.replicate ((119 - rest.length) % 64) 0 ++ putL (count * 8) 8
def wordsB (ws : List UInt32) : List UInt8 := ws.flatMap fun w => putL w.toNat 4
def finK (s : List UInt32) (rest : List UInt8) (count : Nat) : List UInt8 := wordsB (foldB s (padK rest count) ((padK rest count).length / 64))
def sumK (b : List UInt8) : List UInt8 := finK (foldB firstK b (b.length / 64)) (b.drop (64 * (b.length / 64))) b.length
def shortK (b : List UInt8) : List UInt8 := (sumK b).take 16
def chainK (b : List UInt8) : Nat → List UInt8
  | 0 => b
  | n + 1 => shortK (chainK b n)
theorem wordsB_len : ∀ ws : List UInt32, (wordsB ws).length = 4 * ws.length
  | [] => rfl
  | w :: ws => by
    have : wordsB (w :: ws) = putL w.toNat 4 ++ wordsB ws := rfl
    rw [this, List.length_append, putL_length, wordsB_len ws, List.length_cons]; omega
theorem finK_len {s : List UInt32} (hs : s.length = 8) (rest : List UInt8) (count : Nat) : (finK s rest count).length = 32 := by
  unfold finK
  rw [wordsB_len, foldB_len hs]
theorem sumK_len (b : List UInt8) : (sumK b).length = 32 := finK_len (foldB_len firstK_len _ _) _ _
theorem shortK_len (b : List UInt8) : (shortK b).length = 16 := by unfold shortK; rw [List.length_take, sumK_len]; rfl
theorem putL_zero (n : Nat) : putL 0 n = List.replicate n 0 := by
  unfold putL
  apply List.ext_getElem?
  intro i
  simp only [List.getElem?_map, List.getElem?_replicate, List.getElem?_range]
  by_cases h : i < n
  · simp [h, List.getElem?_range]
  · simp [h, List.getElem?_range]
theorem padK_len (rest : List UInt8) (count : Nat) (h : rest.length < 64) : (padK rest count).length = rest.length + 9 + (119 - rest.length) % 64 ∧ (padK rest count).length % 64 = 0 := by
  have : (padK rest count).length = rest.length + 9 + (119 - rest.length) % 64 := by simp [padK, putL_length]; omega
  exact ⟨this, by omega⟩
theorem wordsB_take (ws : List UInt32) (k : Nat) (h : k < ws.length) : wordsB (ws.take k) ++ putL (ws.getD k 0).toNat 4 = wordsB (ws.take (k + 1)) := by
  rw [List.take_succ_eq_append_getElem h]
  unfold wordsB
  rw [List.flatMap_append]
  simp [h]
theorem get_words {ws : List UInt32} {k : Nat} (h : k < ws.length) : ((ws.map wD).map C.d)[k]? = some (.d (wD (ws.getD k 0))) := by
  simp [h]
theorem drop_take_drop (b : List UInt8) (n : Nat) : (b.drop (64 * n)).drop 64 = b.drop (64 * (n + 1)) := by rw [List.drop_drop, Nat.mul_succ]

def bksSt (s : List UInt32) (b : List UInt8) (n : Nat) : St := ⟨ofL [(1, .w (.c (.d (.sl ((b.drop (64 * n)).map bD))))), (2, .w (.c (.pa 1 1))), (4, .w (.c (.pa 2 1))), (5, .w (.c .nil))], hL [(1, .row 1 ((foldB s b n).map wD)), (2, .row 1 ((List.replicate 8 (0 : UInt32)).map wD))], uL [1, 2]⟩

def finSt (ws : List UInt32) (k : Nat) : St := ⟨ofL [(9, .w (.c (.own 1 1 0 (wordsB (ws.take k)).length))), (36, .w (.c (.d (.agg (ws.map wD))))), (37, .w (.c (.d (.int .i64 (k : Int)))))], hL [(1, .row 1 ((wordsB (ws.take k)).map bD))], uL [1]⟩

def chSt (b : List UInt8) (M : Int) (i : Nat) : St := ⟨ofL [(0, .w (.c (.d (.sl ((chainK b i).map bD))))), (9, .w (.c (.d (.int .i64 M)))), (10, .w (.c (.d (.int .i64 (i : Int)))))], hL [], uL []⟩
theorem chainK_len (b : List UInt8) (hb : b.length ≤ 140737488355328) : ∀ n, (chainK b n).length ≤ 140737488355328
  | 0 => hb
  | n + 1 => by rw [chainK, shortK_len]; decide
end Go.Proofs.Ytgepbpcolddgoaa
