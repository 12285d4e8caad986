/- slices.Concat of slices of bytes. -/
import Derived.Test.YtmijdjlpfjfjoaaByt
namespace Go.Proofs.Ytmijdjlpfjfjoaa
open Go.RowKit


theorem take_flat {ls : List (List Int)} {k : Nat} (h : k < ls.length) : (ls.take (k + 1)).flatten = (ls.take k).flatten ++ ls[k] := by
  rw [← List.take_append_getElem h, List.flatten_append]; simp only [List.flatten_cons, List.flatten_nil, List.append_nil]
theorem flat_le {ls : List (List Int)} (k : Nat) : (ls.take k).flatten.length ≤ ls.flatten.length := by
  conv => rhs; rw [← List.take_append_drop k ls]
  rw [List.flatten_append, List.length_append]; omega

def fl (ls : List (List Int)) (k : Nat) : Nat := (ls.take k).flatten.length
def fb (ls : List (List Int)) (k : Nat) : List Value := byteV (ls.take k).flatten
theorem fl_succ {ls : List (List Int)} {k : Nat} (h : k < ls.length) : fl ls (k + 1) = fl ls k + ls[k].length := by unfold fl; rw [take_flat h, List.length_append]
theorem fb_succ {ls : List (List Int)} {k : Nat} (h : k < ls.length) : fb ls (k + 1) = fb ls k ++ byteV ls[k] := by unfold fb; rw [take_flat h]; simp [byteV]

end Go.Proofs.Ytmijdjlpfjfjoaa
