/- Take. -/
import Derived.Test.YtmijdjlpfjfjoaaLeafTk
namespace Go.Proofs.Ytmijdjlpfjfjoaa
open Go.RowKit


theorem Rd.er {l : List Int} {a : Int} {k s v : ByteArray} {p c e : Int} (h : Rd l a k s v p c e) : e = 0 ∨ (e = 4 ∧ ¬ rdOk l) := by
  have hd := h
  have h4 : e = 4 → ¬ rdOk l := fun e4 ⟨a', k', s', v', p', c', h'⟩ => by have := (hd.det h').2.2.2.2.2.2; omega
  cases h with
  | empty _ => exact .inl rfl
  | row _ _ _ _ _ => exact .inl rfl
  | stub _ _ _ _ => exact .inl rfl
  | none _ _ _ _ => exact .inr ⟨rfl, h4 rfl⟩

/-- The result's variable, as it is till the end. -/
def zP : Obj := pgO P0 N0 N0 0


end Go.Proofs.Ytmijdjlpfjfjoaa
