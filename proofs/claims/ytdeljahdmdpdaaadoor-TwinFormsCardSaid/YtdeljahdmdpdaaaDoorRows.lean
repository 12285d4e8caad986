/-
  NARROWER THAN 'FOR EVERY INPUT', by the rows' own cells (each row's printed sentence says how): TwinAll: laid · TwinOrder: laid · TwinForms: laid · TwinGroups: laid.
  DERIVED. THE GIVEN ROWS OF THIS SEAT. 4 by the template 'for every input the law returns true; each argument reads behind the call as it read before'; 0 by the template 'total and deterministic' (their statements: YtdeljahdmdpdaaaDoorTotals.lean).
  GIVEN WITH THE SEED: the statements are not yours to turn. If you find one false, say at which input.
  Laid BY PROGRAM, IN A SANDBOX (cutbox-rows.mjs): the forced cells as the released guide's own fill.sh prints them over the translation 281abf797cd660b4… (all of the seat's roots in one cut). By AI agents, Wed Nov 11 2026. No macro, syntax, notation, axiom, sorry.
-/
import Derived.Test.YtdeljahdmdpdaaaDoorChecked
import GoSem.PinnedTables
import GoSem.Claim
import GoSem.ClaimJoined
import GoSem.ClaimMapViews
import Derived.JoinedTies
import Derived.KernelRfl
namespace Go.Proofs.YtdeljahdmdpdaaaDoor
/- THE CELL 'sum', in the pinned program and in every row, IS THE sha256 OF THE DUMP (.gsa) THAT YtdeljahdmdpdaaaDoorProg.lean LOADS. Nothing in Lean hashes anything: it is a label: what it is worth is what the hold of that sum in a sandbox is worth. -/
noncomputable def Tryd.pinned : Pinned := { name := "ytdeljahdmdpdaaadoor", sum := "281abf797cd660b4b5654fc1ae9b2bd8a1b4b3b814cc485df0c9bbcd68c7aac0", checked := Tryd.checked }
namespace Rows
def none {H : Type} : Left H := { results := [], args := [] }

/- WHAT THE LISTED PACKAGE-LEVEL VARIABLES READ AS WHEN THE CALL BEGINS. Each datum BY PROGRAM (the guide's laid-datum.mjs) off the statement by which the dump's own 'gosem.cut.vars' lays the variable. In a bare row this is a premise. The card (YtdeljahdmdpdaaaDoorCards.lean) ties it to the program's text. -/
def laid_unicode_utf8_acceptRanges {H : Type} : DataW H := .agg [.agg [.lit (.int .u8 128), .lit (.int .u8 191)], .agg [.lit (.int .u8 160), .lit (.int .u8 191)], .agg [.lit (.int .u8 128), .lit (.int .u8 159)], .agg [.lit (.int .u8 144), .lit (.int .u8 191)], .agg [.lit (.int .u8 128), .lit (.int .u8 143)], .agg [.lit (.int .u8 0), .lit (.int .u8 0)], .agg [.lit (.int .u8 0), .lit (.int .u8 0)], .agg [.lit (.int .u8 0), .lit (.int .u8 0)], .agg [.lit (.int .u8 0), .lit (.int .u8 0)], .agg [.lit (.int .u8 0), .lit (.int .u8 0)], .agg [.lit (.int .u8 0), .lit (.int .u8 0)], .agg [.lit (.int .u8 0), .lit (.int .u8 0)], .agg [.lit (.int .u8 0), .lit (.int .u8 0)], .agg [.lit (.int .u8 0), .lit (.int .u8 0)], .agg [.lit (.int .u8 0), .lit (.int .u8 0)], .agg [.lit (.int .u8 0), .lit (.int .u8 0)]]
/-- One of Go's own tables, pinned by name: the form's constant. -/
def laid_unicode_utf8_first : DataW Unit := Go.Pinned.utf8First

/-- 'whimlaw10.TwinAll': WHATEVER THE INPUT: true; the input reads as it did. -/
def twinAllSpec : ChangeSpec := { name := "twinAll", fn := fun _ => fun
  | [d1, d2, d3] => { results := [.lit (.bool true)], args := [d1, d2, d3] }
  | _ => none }
def twinAllRow : OpenClaim := { program := "ytdeljahdmdpdaaadoor", sum := "281abf797cd660b4b5654fc1ae9b2bd8a1b4b3b814cc485df0c9bbcd68c7aac0", func := "whim/whimlaw10.TwinAll", spec := "twinAll", inPlace := ["internal/bytealg.CountString", "internal/bytealg.IndexByteString", "internal/bytealg.IndexString", "internal/abi.NoEscape", "internal/bytealg.MakeNoZero"], named := ["internal/bytealg.MaxLen", "unicode/utf8.first", "unicode/utf8.acceptRanges"], apart := false, laid := [("unicode/utf8.acceptRanges", laid_unicode_utf8_acceptRanges), ("unicode/utf8.first", laid_unicode_utf8_first)] }
def TwinAllSaid : Prop := twinAllRow.holds Tryd.pinned (OpenSpec.ofChange twinAllSpec)

/-- ITS FALSE NEIGHBOUR: 'it returns false'. Refute it at one input. -/
def twinAllWrong : ChangeSpec := { name := "twinAll", fn := fun _ => fun
  | [d1, d2, d3] => { results := [.lit (.bool false)], args := [d1, d2, d3] }
  | _ => none }
def TwinAllWrongFalsely : Prop := twinAllRow.holds Tryd.pinned (OpenSpec.ofChange twinAllWrong)

/-- 'whimlaw10.TwinOrder': WHATEVER THE INPUT: true; the input reads as it did. -/
def twinOrderSpec : ChangeSpec := { name := "twinOrder", fn := fun _ => fun
  | [d1, d2, d3, d4] => { results := [.lit (.bool true)], args := [d1, d2, d3, d4] }
  | _ => none }
def twinOrderRow : OpenClaim := { program := "ytdeljahdmdpdaaadoor", sum := "281abf797cd660b4b5654fc1ae9b2bd8a1b4b3b814cc485df0c9bbcd68c7aac0", func := "whim/whimlaw10.TwinOrder", spec := "twinOrder", inPlace := ["internal/bytealg.CountString", "internal/bytealg.IndexByteString", "internal/bytealg.IndexString", "internal/abi.NoEscape", "internal/bytealg.MakeNoZero"], named := ["internal/bytealg.MaxLen", "unicode/utf8.first", "unicode/utf8.acceptRanges"], apart := false, laid := [("unicode/utf8.acceptRanges", laid_unicode_utf8_acceptRanges), ("unicode/utf8.first", laid_unicode_utf8_first)] }
def TwinOrderSaid : Prop := twinOrderRow.holds Tryd.pinned (OpenSpec.ofChange twinOrderSpec)

/-- ITS FALSE NEIGHBOUR: 'it returns false'. Refute it at one input. -/
def twinOrderWrong : ChangeSpec := { name := "twinOrder", fn := fun _ => fun
  | [d1, d2, d3, d4] => { results := [.lit (.bool false)], args := [d1, d2, d3, d4] }
  | _ => none }
def TwinOrderWrongFalsely : Prop := twinOrderRow.holds Tryd.pinned (OpenSpec.ofChange twinOrderWrong)

/-- 'whimlaw10.TwinForms': WHATEVER THE INPUT: true; the input reads as it did. -/
def twinFormsSpec : ChangeSpec := { name := "twinForms", fn := fun _ => fun
  | [] => { results := [.lit (.bool true)], args := [] }
  | _ => none }
def twinFormsRow : OpenClaim := { program := "ytdeljahdmdpdaaadoor", sum := "281abf797cd660b4b5654fc1ae9b2bd8a1b4b3b814cc485df0c9bbcd68c7aac0", func := "whim/whimlaw10.TwinForms", spec := "twinForms", inPlace := ["internal/bytealg.CountString", "internal/bytealg.IndexByteString", "internal/bytealg.IndexString", "internal/abi.NoEscape", "internal/bytealg.MakeNoZero"], named := ["internal/bytealg.MaxLen", "unicode/utf8.first", "unicode/utf8.acceptRanges"], apart := false, laid := [("unicode/utf8.acceptRanges", laid_unicode_utf8_acceptRanges), ("unicode/utf8.first", laid_unicode_utf8_first)] }
def TwinFormsSaid : Prop := twinFormsRow.holds Tryd.pinned (OpenSpec.ofChange twinFormsSpec)

/-- ITS FALSE NEIGHBOUR: 'it returns false'. Refute it at one input. -/
def twinFormsWrong : ChangeSpec := { name := "twinForms", fn := fun _ => fun
  | [] => { results := [.lit (.bool false)], args := [] }
  | _ => none }
def TwinFormsWrongFalsely : Prop := twinFormsRow.holds Tryd.pinned (OpenSpec.ofChange twinFormsWrong)

/-- 'whimlaw10.TwinGroups': WHATEVER THE INPUT: true; the input reads as it did. -/
def twinGroupsSpec : ChangeSpec := { name := "twinGroups", fn := fun _ => fun
  | [d1, d2, d3] => { results := [.lit (.bool true)], args := [d1, d2, d3] }
  | _ => none }
def twinGroupsRow : OpenClaim := { program := "ytdeljahdmdpdaaadoor", sum := "281abf797cd660b4b5654fc1ae9b2bd8a1b4b3b814cc485df0c9bbcd68c7aac0", func := "whim/whimlaw10.TwinGroups", spec := "twinGroups", inPlace := ["internal/bytealg.CountString", "internal/bytealg.IndexByteString", "internal/bytealg.IndexString", "internal/abi.NoEscape", "internal/bytealg.MakeNoZero"], named := ["internal/bytealg.MaxLen", "unicode/utf8.first", "unicode/utf8.acceptRanges"], apart := false, laid := [("unicode/utf8.acceptRanges", laid_unicode_utf8_acceptRanges), ("unicode/utf8.first", laid_unicode_utf8_first)] }
def TwinGroupsSaid : Prop := twinGroupsRow.holds Tryd.pinned (OpenSpec.ofChange twinGroupsSpec)

/-- ITS FALSE NEIGHBOUR: 'it returns false'. Refute it at one input. -/
def twinGroupsWrong : ChangeSpec := { name := "twinGroups", fn := fun _ => fun
  | [d1, d2, d3] => { results := [.lit (.bool false)], args := [d1, d2, d3] }
  | _ => none }
def TwinGroupsWrongFalsely : Prop := twinGroupsRow.holds Tryd.pinned (OpenSpec.ofChange twinGroupsWrong)

/- THE SECOND FORM. 'bulk': how many values and letters a reading holds, each counted each time it is reached (what is shared counts as often as it is met; a slice's spare places count too). A statement '..UptoSaid' is the law's where the arguments, and the package variables that the reading takes, are together of bulk at most 1048576: NARROWER than '..Said'. Prove '..Said' where nothing that the law and all that it calls make is longer than what came in: it says more and counts as full. Else prove '..UptoSaid'. A law counts once. -/
mutual
def uptoBulk {H : Type} : DataW H → Nat
  | .lit (.string bytes) => bytes.length + 1
  | .lit _ => 1
  | .nil => 1
  | .ptr d => uptoBulk d + 1
  | .slice elems spare => uptoBulkAll elems + uptoBulkAll spare + 1
  | .agg parts => uptoBulkAll parts + 1
  | .iface _ d => uptoBulk d + 1
  | .map entries => uptoBulkEntries entries + 1
  | .held _ => 1
def uptoBulkAll {H : Type} : List (DataW H) → Nat
  | [] => 0
  | d :: r => uptoBulk d + uptoBulkAll r
def uptoBulkEntries {H : Type} : List (Lit × DataW H) → Nat
  | [] => 0
  | x :: r => uptoBulkEntry x + uptoBulkEntries r
def uptoBulkEntry {H : Type} : Lit × DataW H → Nat
  | (.string bytes, d) => bytes.length + uptoBulk d + 1
  | (_, d) => uptoBulk d + 1
 end
def uptoSmall : (H : Type) → List (DataW H) → Bool := fun _ ds => decide (uptoBulkAll ds ≤ 1048576)
def OpenSpec.upto (s : _root_.Go.ChangeSpec) : _root_.Go.OpenSpec := { _root_.Go.OpenSpec.ofChange s with cond := some uptoSmall }

/-- 'whimlaw10.TwinAll', WHERE WHAT IT READS IS OF BULK AT MOST 1048576: true; the input reads as it did. -/
def twinAllUptoRow : OpenClaim := { program := "ytdeljahdmdpdaaadoor", sum := "281abf797cd660b4b5654fc1ae9b2bd8a1b4b3b814cc485df0c9bbcd68c7aac0", func := "whim/whimlaw10.TwinAll", spec := "twinAll", inPlace := ["internal/bytealg.CountString", "internal/bytealg.IndexByteString", "internal/bytealg.IndexString", "internal/abi.NoEscape", "internal/bytealg.MakeNoZero"], named := ["internal/bytealg.MaxLen", "unicode/utf8.first", "unicode/utf8.acceptRanges"], apart := false, laid := [("unicode/utf8.acceptRanges", laid_unicode_utf8_acceptRanges), ("unicode/utf8.first", laid_unicode_utf8_first)], narrowed := true }
def TwinAllUptoSaid : Prop := twinAllUptoRow.holds Tryd.pinned (OpenSpec.upto twinAllSpec)

/-- 'whimlaw10.TwinOrder', WHERE WHAT IT READS IS OF BULK AT MOST 1048576: true; the input reads as it did. -/
def twinOrderUptoRow : OpenClaim := { program := "ytdeljahdmdpdaaadoor", sum := "281abf797cd660b4b5654fc1ae9b2bd8a1b4b3b814cc485df0c9bbcd68c7aac0", func := "whim/whimlaw10.TwinOrder", spec := "twinOrder", inPlace := ["internal/bytealg.CountString", "internal/bytealg.IndexByteString", "internal/bytealg.IndexString", "internal/abi.NoEscape", "internal/bytealg.MakeNoZero"], named := ["internal/bytealg.MaxLen", "unicode/utf8.first", "unicode/utf8.acceptRanges"], apart := false, laid := [("unicode/utf8.acceptRanges", laid_unicode_utf8_acceptRanges), ("unicode/utf8.first", laid_unicode_utf8_first)], narrowed := true }
def TwinOrderUptoSaid : Prop := twinOrderUptoRow.holds Tryd.pinned (OpenSpec.upto twinOrderSpec)

/-- 'whimlaw10.TwinForms', WHERE WHAT IT READS IS OF BULK AT MOST 1048576: true; the input reads as it did. -/
def twinFormsUptoRow : OpenClaim := { program := "ytdeljahdmdpdaaadoor", sum := "281abf797cd660b4b5654fc1ae9b2bd8a1b4b3b814cc485df0c9bbcd68c7aac0", func := "whim/whimlaw10.TwinForms", spec := "twinForms", inPlace := ["internal/bytealg.CountString", "internal/bytealg.IndexByteString", "internal/bytealg.IndexString", "internal/abi.NoEscape", "internal/bytealg.MakeNoZero"], named := ["internal/bytealg.MaxLen", "unicode/utf8.first", "unicode/utf8.acceptRanges"], apart := false, laid := [("unicode/utf8.acceptRanges", laid_unicode_utf8_acceptRanges), ("unicode/utf8.first", laid_unicode_utf8_first)], narrowed := true }
def TwinFormsUptoSaid : Prop := twinFormsUptoRow.holds Tryd.pinned (OpenSpec.upto twinFormsSpec)

/-- 'whimlaw10.TwinGroups', WHERE WHAT IT READS IS OF BULK AT MOST 1048576: true; the input reads as it did. -/
def twinGroupsUptoRow : OpenClaim := { program := "ytdeljahdmdpdaaadoor", sum := "281abf797cd660b4b5654fc1ae9b2bd8a1b4b3b814cc485df0c9bbcd68c7aac0", func := "whim/whimlaw10.TwinGroups", spec := "twinGroups", inPlace := ["internal/bytealg.CountString", "internal/bytealg.IndexByteString", "internal/bytealg.IndexString", "internal/abi.NoEscape", "internal/bytealg.MakeNoZero"], named := ["internal/bytealg.MaxLen", "unicode/utf8.first", "unicode/utf8.acceptRanges"], apart := false, laid := [("unicode/utf8.acceptRanges", laid_unicode_utf8_acceptRanges), ("unicode/utf8.first", laid_unicode_utf8_first)], narrowed := true }
def TwinGroupsUptoSaid : Prop := twinGroupsUptoRow.holds Tryd.pinned (OpenSpec.upto twinGroupsSpec)

end Rows
end Go.Proofs.YtdeljahdmdpdaaaDoor
