/-
  DERIVED. GIVEN WITH THE SEED: THE CARDS: each row of YtlphbnjoopaboaaDoorRows.lean that lists a variable, with what it lists TIED to the program's text (the seventh form; the later family's looks); each row that meets fmt, with fmt's text TOLD by the authors' own Lean function (tested against real Go, not proved from fmt's source: count such statements apart). THE CARD IS WHAT COUNTS. Prove the row's statement (the work); the ties are given (YtlphbnjoopaboaaDoorTie.lean); close each card by the builder's one call (the guide's Derived/Test/ToyasCard.lean, 'card_holds'). Laid BY PROGRAM, IN A SANDBOX (cutbox-door.mjs). By AI agents, Wed Nov 11 2026. No macro, syntax, notation, axiom, sorry.
-/
import Derived.Test.YtlphbnjoopaboaaDoorRows
import GoSem.ClaimSeven
namespace Go.Proofs.YtlphbnjoopaboaaDoor
namespace Rows

/-- THE TIED CARD OF 'whimlaw12.LockReaders'. -/
def lockReadersCard : Claim7 := { stood := { row := lockReadersRow, standIns := [], harness := (true, "bd28bd8245d41c5922ce9c65666b39c55dc8ad20907188578b9e67dc52a8f515"), looks := false }, kinds := [], alts := [], laidByText := true, laidKinds := [.data, .data], laidTests := true, laidLooks := .later }
def LockReadersCardSaid : Prop := Claim7.holds Tryd.pinned (.plain (OpenSpec.ofChange lockReadersSpec)) lockReadersCard

/-- THE TIED CARD OF 'whimlaw12.LockApart'. -/
def lockApartCard : Claim7 := { stood := { row := lockApartRow, standIns := [], harness := (true, "bd28bd8245d41c5922ce9c65666b39c55dc8ad20907188578b9e67dc52a8f515"), looks := false }, kinds := [], alts := [], laidByText := true, laidKinds := [.data, .data], laidTests := true, laidLooks := .later }
def LockApartCardSaid : Prop := Claim7.holds Tryd.pinned (.plain (OpenSpec.ofChange lockApartSpec)) lockApartCard

/-- THE SECOND FORM's CARD OF 'whimlaw12.LockReaders'. -/
def lockReadersUptoCard : Claim7 := { stood := { row := lockReadersUptoRow, standIns := [], harness := (true, "bd28bd8245d41c5922ce9c65666b39c55dc8ad20907188578b9e67dc52a8f515"), looks := false }, kinds := [], alts := [], laidByText := true, laidKinds := [.data, .data], laidTests := true, laidLooks := .later }
def LockReadersUptoCardSaid : Prop := Claim7.holds Tryd.pinned (.plain (OpenSpec.upto lockReadersSpec)) lockReadersUptoCard

/-- THE SECOND FORM's CARD OF 'whimlaw12.LockApart'. -/
def lockApartUptoCard : Claim7 := { stood := { row := lockApartUptoRow, standIns := [], harness := (true, "bd28bd8245d41c5922ce9c65666b39c55dc8ad20907188578b9e67dc52a8f515"), looks := false }, kinds := [], alts := [], laidByText := true, laidKinds := [.data, .data], laidTests := true, laidLooks := .later }
def LockApartUptoCardSaid : Prop := Claim7.holds Tryd.pinned (.plain (OpenSpec.upto lockApartSpec)) lockApartUptoCard
end Rows
end Go.Proofs.YtlphbnjoopaboaaDoor
