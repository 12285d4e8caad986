/- Whatever comes in is no longer than Same asks. -/
import Derived.Test.YthcndifbegmbkaaEntK
namespace Go.Proofs.Ythcndifbegmbkaa

theorem bd_le {n : Nat} (h : Bd n) : n ≤ 9223372036854775807 := by
  unfold Bd maxLen at h
  omega
theorem entMax_len {e : Ent} (h : EntMax e) : EntLen e := ⟨bd_le h.moves, bd_le h.lives, bd_le h.dirty, bd_le h.opens, fun o ho => bd_le (h.inner o ho)⟩
end Go.Proofs.Ythcndifbegmbkaa
