/- Slices of structs; the writer's lists. -/
import Derived.Test.YthcndifbegmbkaaEntL
namespace Go.Proofs.Ythcndifbegmbkaa
open Go.RowKit

/-- A slice of elements of k cells each. -/
def Els (w : World) (sv : Value) (k : Nat) (xs : List (List Value)) : Prop := ∃ A cap, sv = .slice A xs.length cap ∧ xs.length ≤ cap ∧ (A = none → xs = []) ∧ ∀ a, A = some a → xs ≠ [] →
  a.spot = none ∧ a.block < w.heap.size ∧ ∀ i j, i < xs.length → j < k → w.cell? ⟨a.block, a.off + i * k + j, none⟩ = (xs[i]?.bind fun c => c[j]?)

theorem Els.below {B k : Nat} {w w' : World} {v : Value} {xs : List (List Value)} (h : Els w v k xs) (hb : Below B w w') (hB : w.heap.size ≤ B) : Els w' v k xs := by
  obtain ⟨A, cap, rfl, h1, h2, h3⟩ := h
  refine ⟨A, cap, rfl, h1, h2, fun a ha hne => ?_⟩
  obtain ⟨h5, h6, h7⟩ := h3 a ha hne
  refine ⟨h5, Nat.lt_of_lt_of_le h6 hb.size, fun i j hi hj => ?_⟩
  rw [← h7 i j hi hj]
  exact World.cell?_of_block (hb.block a.block (by omega))

/-- One element's cells. -/
theorem Els.one {w : World} {A : Option Addr} {n cap k : Nat} {xs : List (List Value)} (h : Els w (.slice A n cap) k xs) {i : Nat} (hi : i < xs.length) : ∃ b off, A = some ⟨b, off, none⟩ ∧ b < w.heap.size ∧ ∀ j, j < k → w.cell? ⟨b, off + i * k + j, none⟩ = xs[i][j]? := by
  obtain ⟨A', cap', e, h1, h2, h3⟩ := h
  cases e
  have hne : xs ≠ [] := fun e => by rw [e] at hi; cases hi
  cases A with
  | none => exact absurd (h2 rfl) hne
  | some a =>
    obtain ⟨h5, h6, h7⟩ := h3 a rfl hne
    obtain ⟨b, off, sp⟩ := a
    cases h5
    refine ⟨b, off, rfl, h6, fun j hj => ?_⟩
    rw [h7 i j hi hj, List.getElem?_eq_getElem hi]
    rfl


theorem flat_snoc {α : Type} (f : α → List Int) (xs : List α) (k : Nat) (h : k < xs.length) : (xs.take (k + 1)).flatMap f = (xs.take k).flatMap f ++ f xs[k] := by
  rw [List.take_succ_eq_append_getElem h, List.flatMap_append, List.flatMap_singleton]
theorem all_snoc {α : Type} (g : α → Bool) (xs : List α) (k : Nat) (h : k < xs.length) : (xs.take (k + 1)).all g = ((xs.take k).all g && g xs[k]) := by
  rw [List.take_succ_eq_append_getElem h, List.all_append]; simp
theorem flat_len {α : Type} (f : α → List Int) {n : Nat} (hf : ∀ x, (f x).length ≤ n) (xs : List α) : (xs.flatMap f).length ≤ n * xs.length := by
  induction xs with
  | nil => simp
  | cons a t ih =>
    have := hf a
    rw [List.flatMap_cons, List.length_append, List.length_cons, Nat.mul_succ]
    omega
theorem flat_pre {α : Type} (f : α → List Int) {n : Nat} (hf : ∀ x, (f x).length ≤ n) (xs : List α) (k : Nat) (h : xs.length ≤ 40) : ((xs.take k).flatMap f).length ≤ n * 40 := by
  refine Nat.le_trans (flat_len f hf _) (Nat.mul_le_mul_left _ ?_)
  rw [List.length_take]; omega

/-- Too many: the list is not begun. -/
theorem lst_many {α : Type} (f : α → List Int) (g : α → Bool) {xs : List α} (h : ¬ xs.length ≤ 40) : lstL f xs = [] ∧ lstB g xs = false := by
  refine ⟨by unfold lstL; rw [if_neg h], by unfold lstB; rw [decide_eq_false h]; rfl⟩
theorem lst_few {α : Type} (f : α → List Int) (g : α → Bool) {xs : List α} (h : xs.length ≤ 40) : lstL f xs = numL xs.length 1 ++ xs.flatMap f ∧ lstB g xs = xs.all g := by
  refine ⟨by unfold lstL; rw [if_pos h], by unfold lstB; rw [decide_eq_true h]; rfl⟩




end Go.Proofs.Ythcndifbegmbkaa
