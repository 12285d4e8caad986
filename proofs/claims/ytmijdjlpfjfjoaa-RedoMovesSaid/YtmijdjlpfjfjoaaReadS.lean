/- readStub. -/
import Derived.Test.YtmijdjlpfjfjoaaRead
namespace Go.Proofs.Ytmijdjlpfjfjoaa
open Go.RowKit

def StubIs (w : World) (p c : Int) (b : Bool) (e : Ending) (w' : World) : Prop := e = .returned (.tuple #[.agg #[.int .i64 p, .int .i64 c], .bool b]) ∧ Below w.heap.size w w'

end Go.Proofs.Ytmijdjlpfjfjoaa
