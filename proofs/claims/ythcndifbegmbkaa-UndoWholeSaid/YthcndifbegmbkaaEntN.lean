/- The writer: a number. -/
import Derived.Test.YthcndifbegmbkaaEntW
import Derived.Outline
namespace Go.Proofs.Ythcndifbegmbkaa
open Go.RowKit

theorem numL_at (n : Int) : ∀ (k j : Nat), j < k → (numL n k).take (k - j) = (numL n k).take (k - (j + 1)) ++ [n / 256 ^ j % 256]
  | 0, _, h => by omega
  | k + 1, j, h => by
    by_cases e : j = k
    · subst e
      have e1 : j + 1 - j = 1 := by omega
      have e2 : j + 1 - (j + 1) = 0 := by omega
      rw [e1, e2]
      rfl
    · have hj := numL_at n k j (by omega)
      have e1 : k + 1 - j = (k - j) + 1 := by omega
      have e2 : k + 1 - (j + 1) = (k - (j + 1)) + 1 := by omega
      rw [e1, e2]
      simp only [numL, List.take_succ_cons, List.cons_append, hj]
theorem numL_pre (n : Int) {k j : Nat} (h : j < k) : (numL n k).take (k - j) = (numL n k).take (k - (j + 1)) ++ [n / 256 ^ j % 256] := numL_at n k j h
theorem pre_len (n : Int) {k j : Nat} : ((numL n k).take (k - j)).length = k - j := by rw [List.length_take, numL_len]; omega






end Go.Proofs.Ythcndifbegmbkaa
