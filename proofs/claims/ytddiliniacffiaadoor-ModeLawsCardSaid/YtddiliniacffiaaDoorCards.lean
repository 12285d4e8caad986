/-
  DERIVED. GIVEN WITH THE SEED: THE CARDS: each row of YtddiliniacffiaaDoorRows.lean that lists a variable, with what it lists TIED to the program's text (the seventh form; the later family's looks); each row that meets fmt, with fmt's text TOLD by the authors' own Lean function (tested against real Go, not proved from fmt's source: count such statements apart). THE CARD IS WHAT COUNTS. Prove the row's statement (the work); the ties are given (YtddiliniacffiaaDoorTie.lean); close each card by the builder's one call (the guide's Derived/Test/ToyasCard.lean, 'card_holds'). Laid BY PROGRAM, IN A SANDBOX (cutbox-door.mjs). By AI agents, Wed Nov 11 2026. No macro, syntax, notation, axiom, sorry.
-/
import Derived.Test.YtddiliniacffiaaDoorRows
import GoSem.ClaimSeven
namespace Go.Proofs.YtddiliniacffiaaDoor
namespace Rows

/-- THE TIED CARD OF 'whimlaw11.ModeAll'. -/
def modeAllCard : Claim7 := { stood := { row := modeAllRow, standIns := [], harness := (true, "9ce366ff11ff2efaaf23fd0ccb2c0e6f8fd3495db7bc921cb376055e0a728999"), looks := false }, kinds := [], alts := [], laidByText := true, laidKinds := [.data, .data], laidTests := true, laidLooks := .later }
def ModeAllCardSaid : Prop := Claim7.holds Tryd.pinned (.plain (OpenSpec.ofChange modeAllSpec)) modeAllCard

/-- THE TIED CARD OF 'whimlaw11.ModeLaws'. -/
def modeLawsCard : Claim7 := { stood := { row := modeLawsRow, standIns := [], harness := (true, "9ce366ff11ff2efaaf23fd0ccb2c0e6f8fd3495db7bc921cb376055e0a728999"), looks := false }, kinds := [], alts := [], laidByText := true, laidKinds := [.data, .data], laidTests := true, laidLooks := .later }
def ModeLawsCardSaid : Prop := Claim7.holds Tryd.pinned (.plain (OpenSpec.ofChange modeLawsSpec)) modeLawsCard

/-- THE TIED CARD OF 'whimlaw11.ModeForms'. -/
def modeFormsCard : Claim7 := { stood := { row := modeFormsRow, standIns := [], harness := (true, "9ce366ff11ff2efaaf23fd0ccb2c0e6f8fd3495db7bc921cb376055e0a728999"), looks := false }, kinds := [], alts := [], laidByText := true, laidKinds := [.data, .data], laidTests := true, laidLooks := .later }
def ModeFormsCardSaid : Prop := Claim7.holds Tryd.pinned (.plain (OpenSpec.ofChange modeFormsSpec)) modeFormsCard

/-- THE SECOND FORM's CARD OF 'whimlaw11.ModeAll'. -/
def modeAllUptoCard : Claim7 := { stood := { row := modeAllUptoRow, standIns := [], harness := (true, "9ce366ff11ff2efaaf23fd0ccb2c0e6f8fd3495db7bc921cb376055e0a728999"), looks := false }, kinds := [], alts := [], laidByText := true, laidKinds := [.data, .data], laidTests := true, laidLooks := .later }
def ModeAllUptoCardSaid : Prop := Claim7.holds Tryd.pinned (.plain (OpenSpec.upto modeAllSpec)) modeAllUptoCard

/-- THE SECOND FORM's CARD OF 'whimlaw11.ModeLaws'. -/
def modeLawsUptoCard : Claim7 := { stood := { row := modeLawsUptoRow, standIns := [], harness := (true, "9ce366ff11ff2efaaf23fd0ccb2c0e6f8fd3495db7bc921cb376055e0a728999"), looks := false }, kinds := [], alts := [], laidByText := true, laidKinds := [.data, .data], laidTests := true, laidLooks := .later }
def ModeLawsUptoCardSaid : Prop := Claim7.holds Tryd.pinned (.plain (OpenSpec.upto modeLawsSpec)) modeLawsUptoCard

/-- THE SECOND FORM's CARD OF 'whimlaw11.ModeForms'. -/
def modeFormsUptoCard : Claim7 := { stood := { row := modeFormsUptoRow, standIns := [], harness := (true, "9ce366ff11ff2efaaf23fd0ccb2c0e6f8fd3495db7bc921cb376055e0a728999"), looks := false }, kinds := [], alts := [], laidByText := true, laidKinds := [.data, .data], laidTests := true, laidLooks := .later }
def ModeFormsUptoCardSaid : Prop := Claim7.holds Tryd.pinned (.plain (OpenSpec.upto modeFormsSpec)) modeFormsUptoCard
end Rows
end Go.Proofs.YtddiliniacffiaaDoor
