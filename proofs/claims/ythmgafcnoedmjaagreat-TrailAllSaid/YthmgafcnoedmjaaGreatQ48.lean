/- TrailAll, a part. -/
import Derived.Test.YthmgafcnoedmjaaGreatQ39
import Derived.Test.YthmgafcnoedmjaaGreatQ45
import Derived.Test.YthmgafcnoedmjaaGreatQ46
import Derived.Test.YthmgafcnoedmjaaGreatQ22
namespace Go.Proofs.YthmgafcnoedmjaaGreat.trailScans
open Go.ChangeShapes Go.WideShapes Go.ChangeAt Go.RowKit
def Fin (w : World) (e : Ending) (w' : World) : Prop := e = .returned (.bool true) ∧ Below w.heap.size w w'
theorem tkE_len (b : List Int) : EntLen (tkE b) := by
 unfold tkE
 cases hB : tkB b with
 | true =>
  rw [if_pos rfl]
  unfold tkB at hB
  rw [Bool.and_eq_true] at hB
  exact entB_len hB.1
 | false =>
  rw [if_neg (by decide)]
  exact ⟨by decide, by decide, by decide, by decide, fun o h => by cases h⟩
end Go.Proofs.YthmgafcnoedmjaaGreat.trailScans
