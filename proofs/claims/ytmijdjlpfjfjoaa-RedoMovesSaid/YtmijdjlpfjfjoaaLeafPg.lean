/- Pages in memory; Same, and the reference's. -/
import Derived.Test.YtmijdjlpfjfjoaaLeafE
import Derived.Test.YtmijdjlpfjfjoaaLaw3
import Derived.Test.YtmijdjlpfjfjoaaSame
namespace Go.Proofs.Ytmijdjlpfjfjoaa
open Go.RowKit

/-- A page's value: four slices, a number. -/
def pgV (P : Nat → Option Addr) (N K : Nat → Nat) (n : Int) : Value := .agg #[.slice (P 0) (N 0) (K 0), .slice (P 1) (N 1) (K 1), .slice (P 2) (N 2) (K 2), .slice (P 3) (N 3) (K 3), .int .i64 n]
def pgC (P : Nat → Option Addr) (N K : Nat → Nat) (n : Int) : Array Value := #[.slice (P 0) (N 0) (K 0), .slice (P 1) (N 1) (K 1), .slice (P 2) (N 2) (K 2), .slice (P 3) (N 3) (K 3), .int .i64 n]
def pgO (P : Nat → Option Addr) (N K : Nat → Nat) (n : Int) : Obj := .cells (pgC P N K n) 35
def Cs (w : World) (P : Nat → Option Addr) (N K : Nat → Nat) (c : Nat → List Int) : Prop := ∀ i, i < 4 → N i = (c i).length ∧ SlK .u8 w (.slice (P i) (N i) (K i)) (c i)

theorem pg_cell {w : World} {g : Nat} {P : Nat → Option Addr} {N K : Nat → Nat} {n : Int} (h : w.heap[g]? = some (pgO P N K n)) : (∀ i, i < 4 → w.cell? ⟨g, i, none⟩ = some (.slice (P i) (N i) (K i))) ∧ w.cell? ⟨g, 4, none⟩ = some (.int .i64 n) ∧ ∀ i, w.frozen? ⟨g, i, none⟩ = false := by
  have hc := fun i => cell_of (cs := pgC P N K n) h i
  refine ⟨fun i hi => ?_, (hc 4).1, fun i => (hc i).2⟩
  rw [(hc i).1]
  match i, hi with
  | 0, _ => rfl
  | 1, _ => rfl
  | 2, _ => rfl
  | 3, _ => rfl

theorem Cs.below {w w' : World} {P : Nat → Option Addr} {N K : Nat → Nat} {c : Nat → List Int} (h : Cs w P N K c) {B : Nat} (hb : Below B w w') (hB : w.heap.size ≤ B) : Cs w' P N K c := fun i hi => ⟨(h i hi).1, (h i hi).2.below hb hB⟩

/-- Same, by cells. -/
def pgSame (c c' : Nat → List Int) (n n' : Int) : Bool := (List.range 4).all (fun i => sameB (c i) (c' i)) && decide (n = n')
theorem pgSame_no {c c' : Nat → List Int} {n n' : Int} {k : Nat} (hk : k < 4) (h : sameB (c k) (c' k) = false) : pgSame c c' n n' = false := by
  unfold pgSame
  cases e : (List.range 4).all (fun i => sameB (c i) (c' i))
  · rfl
  · rw [List.all_eq_true] at e
    have := e k (List.mem_range.2 hk)
    rw [h] at this; cases this
theorem pgSame_all {c c' : Nat → List Int} {n n' : Int} (h : ∀ j, j < 4 → sameB (c j) (c' j) = true) : pgSame c c' n n' = decide (n = n') := by
  unfold pgSame
  rw [List.all_eq_true.2 (fun x hx => h x (List.mem_range.1 hx)), Bool.true_and]


end Go.Proofs.Ytmijdjlpfjfjoaa
