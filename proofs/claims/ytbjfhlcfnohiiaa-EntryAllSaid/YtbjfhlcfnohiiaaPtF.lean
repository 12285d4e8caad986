/- The first part of a row; no function of the program in it. -/
import Derived.Test.YtbjfhlcfnohiiaaLow
namespace Go.Proofs.Ytbjfhlcfnohiiaa
open Go.RowKit

theorem Pt.first {w : World} {b off cap n : Nat} {l : List Int} (h : Pt w (.slice (some ⟨b, off, none⟩) n cap) l) {k c' : Nat} (hk : k ≤ n) (hc : k ≤ c') : Pt w (.slice (some ⟨b, off, none⟩) k c') (l.take k) := by
  obtain ⟨b', o', cap', e, h1, h2, h3⟩ := h
  have e1 : b' = b ∧ o' = off ∧ l.length = n ∧ cap' = cap := by
    injection e with e1 e2 e3
    injection e1 with e1
    injection e1 with e1 e4
    exact ⟨e1.symm, e4.symm, e2.symm, e3.symm⟩
  obtain ⟨rfl, rfl, rfl, rfl⟩ := e1
  have hl : (l.take k).length = k := by rw [List.length_take]; omega
  refine ⟨b', o', c', by rw [hl], by omega, h2, fun j hj => ?_⟩
  rw [hl] at hj
  rw [List.getElem_take]
  exact h3 j (by omega)
end Go.Proofs.Ytbjfhlcfnohiiaa
