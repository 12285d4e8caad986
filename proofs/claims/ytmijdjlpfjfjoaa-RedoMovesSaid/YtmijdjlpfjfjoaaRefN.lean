/- The reference's num and said. -/
import Derived.Test.YtmijdjlpfjfjoaaSheet
namespace Go.Proofs.Ytmijdjlpfjfjoaa
open Go.RowKit

def dvN (n : Int) : Nat → Int
  | 0 => n | 1 => n / 256 | 2 => n / 256 / 256 | 3 => n / 256 / 256 / 256 | _ => n / 256 / 256 / 256 / 256
def imN : Nat → Int
  | 0 => 3 | 1 => 2 | 2 => 1 | 3 => 0 | _ => -1
def nvL (n : Int) : Nat → List Int
  | 0 => [0, 0, 0, 0] | 1 => [0, 0, 0, n % 256] | 2 => [0, 0, n / 256 % 256, n % 256] | 3 => [0, n / 256 / 256 % 256, n / 256 % 256, n % 256] | _ => [n / 256 / 256 / 256 % 256, n / 256 / 256 % 256, n / 256 % 256, n % 256]
theorem nvL_4 {n : Int} (n0 : 0 ≤ n) (n1 : n < 2147483648) : nvL n 4 = head n := by
  simp only [nvL, head]
  rw [show n / 256 / 256 / 256 % 256 = n / 16777216 by omega, show n / 256 / 256 % 256 = n / 65536 % 256 by omega]


end Go.Proofs.Ytmijdjlpfjfjoaa
