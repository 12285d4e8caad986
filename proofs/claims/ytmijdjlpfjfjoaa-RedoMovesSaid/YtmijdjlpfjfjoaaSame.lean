/- Program and reference, each by the same words. -/
import Derived.Test.YtmijdjlpfjfjoaaRefT
namespace Go.Proofs.Ytmijdjlpfjfjoaa
open Go.RowKit

def PBad (n : Int) (l : List Int) : Prop := n < 0 ∨ 2147483647 < n ∨ 120 < l.length
instance (n : Int) (l : List Int) : Decidable (PBad n l) := by unfold PBad; infer_instance
def pE (n : Int) (l : List Int) : Int := if PBad n l then 1 else 0
def pA (n : Int) (l : List Int) : List Int := if PBad n l then [] else tileL n (l.take 60)
def pB (n : Int) (l : List Int) : List Int := if PBad n l then [] else tileL n (l.drop 60)




def tE (la lb : List Int) : Int := if la.length = 64 ∧ lb.length = 64 then (if numL la = numL lb then (if 2147483647 < numL la then 4 else 0) else 3) else 1
def tK (la lb : List Int) : Int := if tE la lb = 0 then numL la else 0
def tL (la lb : List Int) : List Int := if tE la lb = 0 then la.drop 4 ++ lb.drop 4 else []

section
variable (w : World) (a b : Value) (la lb : List Int) (ha : SlK .u8 w a la) (hb : SlK .u8 w b lb)
include ha hb

end
end Go.Proofs.Ytmijdjlpfjfjoaa
