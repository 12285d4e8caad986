/-
  No cell of these rows narrows 'for every input' (looked for: loops, veiled, ifaces, maps, wideKeys, modest, calm, conditions, laid).
  DERIVED. THE GIVEN ROWS OF THIS SEAT. 4 by the template 'for every input the law returns true; each argument reads behind the call as it read before'; 0 by the template 'total and deterministic' (their statements: YtemmhligohebfaaTotals.lean).
  GIVEN WITH THE SEED: the statements are not yours to turn. If you find one false, say at which input.
  Laid BY PROGRAM, IN A SANDBOX (cutbox-rows.mjs): the forced cells as the released guide's own fill.sh prints them over the translation 42791d6e0aa4f9f0… (all of the seat's roots in one cut). By AI agents, Wed Nov 11 2026. No macro, syntax, notation, axiom, sorry.
-/
import Derived.Test.YtemmhligohebfaaChecked
import GoSem.Claim
import GoSem.ClaimJoined
import GoSem.ClaimMapViews
import Derived.JoinedTies
import Derived.KernelRfl
namespace Go.Proofs.Ytemmhligohebfaa
/- THE CELL 'sum', in the pinned program and in every row, IS THE sha256 OF THE DUMP (.gsa) THAT YtemmhligohebfaaProg.lean LOADS. Nothing in Lean hashes anything: it is a label: what it is worth is what the hold of that sum in a sandbox is worth. -/
noncomputable def Try.pinned : Pinned := { name := "ytemmhligohebfaa", sum := "42791d6e0aa4f9f0bc8e1ff330fe7ca28f7ccd4f747472558c748ac4ae8c2b87", checked := Try.checked }
namespace Rows
def none {H : Type} : Left H := { results := [], args := [] }

/-- 'whimlaw6.TrailFull': WHATEVER THE INPUT: true; the input reads as it did. -/
def trailFullSpec : ChangeSpec := { name := "trailFull", fn := fun _ => fun
  | [d] => { results := [.lit (.bool true)], args := [d] }
  | _ => none }
def trailFullRow : OpenClaim := { program := "ytemmhligohebfaa", sum := "42791d6e0aa4f9f0bc8e1ff330fe7ca28f7ccd4f747472558c748ac4ae8c2b87", func := "whim/whimlaw6.TrailFull", spec := "trailFull", unfollowed := true, recurses := true, apart := false }
def TrailFullSaid : Prop := trailFullRow.holds Try.pinned (OpenSpec.ofChange trailFullSpec)

/-- ITS FALSE NEIGHBOUR: 'it returns false'. Refute it at one input. -/
def trailFullWrong : ChangeSpec := { name := "trailFull", fn := fun _ => fun
  | [d] => { results := [.lit (.bool false)], args := [d] }
  | _ => none }
def TrailFullWrongFalsely : Prop := trailFullRow.holds Try.pinned (OpenSpec.ofChange trailFullWrong)

/-- 'whimlaw6.TrailTwice': WHATEVER THE INPUT: true; the input reads as it did. -/
def trailTwiceSpec : ChangeSpec := { name := "trailTwice", fn := fun _ => fun
  | [d] => { results := [.lit (.bool true)], args := [d] }
  | _ => none }
def trailTwiceRow : OpenClaim := { program := "ytemmhligohebfaa", sum := "42791d6e0aa4f9f0bc8e1ff330fe7ca28f7ccd4f747472558c748ac4ae8c2b87", func := "whim/whimlaw6.TrailTwice", spec := "trailTwice", unfollowed := true, recurses := true, apart := false }
def TrailTwiceSaid : Prop := trailTwiceRow.holds Try.pinned (OpenSpec.ofChange trailTwiceSpec)

/-- ITS FALSE NEIGHBOUR: 'it returns false'. Refute it at one input. -/
def trailTwiceWrong : ChangeSpec := { name := "trailTwice", fn := fun _ => fun
  | [d] => { results := [.lit (.bool false)], args := [d] }
  | _ => none }
def TrailTwiceWrongFalsely : Prop := trailTwiceRow.holds Try.pinned (OpenSpec.ofChange trailTwiceWrong)

/-- 'whimlaw6.TrailFront': WHATEVER THE INPUT: true; the input reads as it did. -/
def trailFrontSpec : ChangeSpec := { name := "trailFront", fn := fun _ => fun
  | [d1, d2] => { results := [.lit (.bool true)], args := [d1, d2] }
  | _ => none }
def trailFrontRow : OpenClaim := { program := "ytemmhligohebfaa", sum := "42791d6e0aa4f9f0bc8e1ff330fe7ca28f7ccd4f747472558c748ac4ae8c2b87", func := "whim/whimlaw6.TrailFront", spec := "trailFront", unfollowed := true, recurses := true, apart := false }
def TrailFrontSaid : Prop := trailFrontRow.holds Try.pinned (OpenSpec.ofChange trailFrontSpec)

/-- ITS FALSE NEIGHBOUR: 'it returns false'. Refute it at one input. -/
def trailFrontWrong : ChangeSpec := { name := "trailFront", fn := fun _ => fun
  | [d1, d2] => { results := [.lit (.bool false)], args := [d1, d2] }
  | _ => none }
def TrailFrontWrongFalsely : Prop := trailFrontRow.holds Try.pinned (OpenSpec.ofChange trailFrontWrong)

/-- 'whimlaw6.TrailWaste': WHATEVER THE INPUT: true; the input reads as it did. -/
def trailWasteSpec : ChangeSpec := { name := "trailWaste", fn := fun _ => fun
  | [d1, d2, d3, d4] => { results := [.lit (.bool true)], args := [d1, d2, d3, d4] }
  | _ => none }
def trailWasteRow : OpenClaim := { program := "ytemmhligohebfaa", sum := "42791d6e0aa4f9f0bc8e1ff330fe7ca28f7ccd4f747472558c748ac4ae8c2b87", func := "whim/whimlaw6.TrailWaste", spec := "trailWaste", unfollowed := true, recurses := true, apart := false }
def TrailWasteSaid : Prop := trailWasteRow.holds Try.pinned (OpenSpec.ofChange trailWasteSpec)

/-- ITS FALSE NEIGHBOUR: 'it returns false'. Refute it at one input. -/
def trailWasteWrong : ChangeSpec := { name := "trailWaste", fn := fun _ => fun
  | [d1, d2, d3, d4] => { results := [.lit (.bool false)], args := [d1, d2, d3, d4] }
  | _ => none }
def TrailWasteWrongFalsely : Prop := trailWasteRow.holds Try.pinned (OpenSpec.ofChange trailWasteWrong)

/- THE SECOND FORM. 'bulk': how many values and letters a reading holds, each counted each time it is reached (what is shared counts as often as it is met; a slice's spare places count too). A statement '..UptoSaid' is the law's where the arguments, and the package variables that the reading takes, are together of bulk at most 1048576: NARROWER than '..Said'. Prove '..Said' where nothing that the law and all that it calls make is longer than what came in: it says more and counts as full. Else prove '..UptoSaid'. A law counts once. -/
mutual
def uptoBulk {H : Type} : DataW H → Nat
  | .lit (.string bytes) => bytes.length + 1
  | .lit _ => 1
  | .nil => 1
  | .ptr d => uptoBulk d + 1
  | .slice elems spare => uptoBulkAll elems + uptoBulkAll spare + 1
  | .agg parts => uptoBulkAll parts + 1
  | .iface _ d => uptoBulk d + 1
  | .map entries => uptoBulkEntries entries + 1
  | .held _ => 1
def uptoBulkAll {H : Type} : List (DataW H) → Nat
  | [] => 0
  | d :: r => uptoBulk d + uptoBulkAll r
def uptoBulkEntries {H : Type} : List (Lit × DataW H) → Nat
  | [] => 0
  | x :: r => uptoBulkEntry x + uptoBulkEntries r
def uptoBulkEntry {H : Type} : Lit × DataW H → Nat
  | (.string bytes, d) => bytes.length + uptoBulk d + 1
  | (_, d) => uptoBulk d + 1
 end
def uptoSmall : (H : Type) → List (DataW H) → Bool := fun _ ds => decide (uptoBulkAll ds ≤ 1048576)
def OpenSpec.upto (s : _root_.Go.ChangeSpec) : _root_.Go.OpenSpec := { _root_.Go.OpenSpec.ofChange s with cond := some uptoSmall }

/-- 'whimlaw6.TrailFull', WHERE WHAT IT READS IS OF BULK AT MOST 1048576: true; the input reads as it did. -/
def trailFullUptoRow : OpenClaim := { program := "ytemmhligohebfaa", sum := "42791d6e0aa4f9f0bc8e1ff330fe7ca28f7ccd4f747472558c748ac4ae8c2b87", func := "whim/whimlaw6.TrailFull", spec := "trailFull", unfollowed := true, recurses := true, apart := false, narrowed := true }
def TrailFullUptoSaid : Prop := trailFullUptoRow.holds Try.pinned (OpenSpec.upto trailFullSpec)

/-- 'whimlaw6.TrailTwice', WHERE WHAT IT READS IS OF BULK AT MOST 1048576: true; the input reads as it did. -/
def trailTwiceUptoRow : OpenClaim := { program := "ytemmhligohebfaa", sum := "42791d6e0aa4f9f0bc8e1ff330fe7ca28f7ccd4f747472558c748ac4ae8c2b87", func := "whim/whimlaw6.TrailTwice", spec := "trailTwice", unfollowed := true, recurses := true, apart := false, narrowed := true }
def TrailTwiceUptoSaid : Prop := trailTwiceUptoRow.holds Try.pinned (OpenSpec.upto trailTwiceSpec)

/-- 'whimlaw6.TrailFront', WHERE WHAT IT READS IS OF BULK AT MOST 1048576: true; the input reads as it did. -/
def trailFrontUptoRow : OpenClaim := { program := "ytemmhligohebfaa", sum := "42791d6e0aa4f9f0bc8e1ff330fe7ca28f7ccd4f747472558c748ac4ae8c2b87", func := "whim/whimlaw6.TrailFront", spec := "trailFront", unfollowed := true, recurses := true, apart := false, narrowed := true }
def TrailFrontUptoSaid : Prop := trailFrontUptoRow.holds Try.pinned (OpenSpec.upto trailFrontSpec)

/-- 'whimlaw6.TrailWaste', WHERE WHAT IT READS IS OF BULK AT MOST 1048576: true; the input reads as it did. -/
def trailWasteUptoRow : OpenClaim := { program := "ytemmhligohebfaa", sum := "42791d6e0aa4f9f0bc8e1ff330fe7ca28f7ccd4f747472558c748ac4ae8c2b87", func := "whim/whimlaw6.TrailWaste", spec := "trailWaste", unfollowed := true, recurses := true, apart := false, narrowed := true }
def TrailWasteUptoSaid : Prop := trailWasteUptoRow.holds Try.pinned (OpenSpec.upto trailWasteSpec)

end Rows
end Go.Proofs.Ytemmhligohebfaa
