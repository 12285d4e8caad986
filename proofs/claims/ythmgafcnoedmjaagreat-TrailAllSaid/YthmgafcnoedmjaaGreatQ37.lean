/- TrailAll, a part. -/
import Derived.Test.YthmgafcnoedmjaaGreatQ35
import Derived.Test.YthmgafcnoedmjaaGreatQ36
namespace Go.Proofs.YthmgafcnoedmjaaGreat
open Go.RowKit
theorem rmay_any (w : World) (e : Ent) {s1 s2 s3 s4 s5 s6 : Value} (hs : EntS w s1 s2 s3 s4 s5 s6 e) (hi : EntI e) :
  Calls Tryz.prog 63 #[.agg (entC e s1 s2 s3 s4 s5 s6)] w fun r w' => r = .returned (.bool (entB e)) ∧ Below w.heap.size w w' := by
 cases h1 : mayB1 e with
 | false => exact rmay_1 w e hs hi h1
 | true =>
  cases h2 : mayB2 e with
  | true => exact rmay_4 w e hs hi h1 h2
  | false =>
   cases h3 : (celOk e.old && (celOk e.new && lstB mvB e.moves)) with
   | false => exact rmay_2 w e hs hi h1 h2 h3
   | true => exact rmay_3 w e hs hi h1 h2 h3
end Go.Proofs.YthmgafcnoedmjaaGreat
