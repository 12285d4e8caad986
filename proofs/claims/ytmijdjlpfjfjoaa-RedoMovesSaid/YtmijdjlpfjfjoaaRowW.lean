/- Row, and the reference's. -/
import Derived.Deep.Onto
import Derived.Test.YtmijdjlpfjfjoaaMay
namespace Go.Proofs.Ytmijdjlpfjfjoaa
open Go.RowKit

/-- The bytes of a row. -/
def rowL (k s v : ByteArray) : List Int := [1] ++ part k 8 ++ part s 6 ++ part v 8

theorem may_sizes {k s v : ByteArray} (h : mayB k s v = true) : 1 ≤ k.size ∧ k.size ≤ 8 ∧ s.size ≤ 6 ∧ v.size ≤ 8 := of_decide_eq_true h

end Go.Proofs.Ytmijdjlpfjfjoaa
