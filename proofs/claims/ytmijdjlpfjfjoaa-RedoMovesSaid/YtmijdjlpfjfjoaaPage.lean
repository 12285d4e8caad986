/- Put and Take. -/
import Derived.Test.YtmijdjlpfjfjoaaSheet
import Derived.Test.YtmijdjlpfjfjoaaLow
import Derived.Test.YtmijdjlpfjfjoaaConcat
namespace Go.Proofs.Ytmijdjlpfjfjoaa
open Go.RowKit

def nilv : Value := .slice none 0 0

def sl64 (g : Nat) : Value := .slice (some ⟨g, 0, none⟩) 64 64



end Go.Proofs.Ytmijdjlpfjfjoaa
