/- areZeros, cutPart, the reference's text. -/
import Derived.Test.YtmijdjlpfjfjoaaStub
namespace Go.Proofs.Ytmijdjlpfjfjoaa
open Go.RowKit

def zerosB (l : List Int) : Bool := l.all (fun x => x == 0)
theorem zerosB_true {l : List Int} (h : ∀ j (hj : j < l.length), l[j] = 0) : zerosB l = true := by
  unfold zerosB
  rw [List.all_eq_true]
  intro x hx
  obtain ⟨j, hj, rfl⟩ := List.getElem_of_mem hx
  rw [h j hj]; rfl
theorem zerosB_false {l : List Int} {k : Nat} (hk : k < l.length) (h : l[k] ≠ 0) : zerosB l = false := by
  unfold zerosB
  rw [List.all_eq_false]
  exact ⟨l[k], List.getElem_mem hk, by simpa using h⟩
theorem zerosB_iff (l : List Int) : zerosB l = true ↔ ∀ x ∈ l, x = 0 := by
  unfold zerosB
  rw [List.all_eq_true]
  exact ⟨fun h x hx => by simpa using h x hx, fun h x hx => by simp [h x hx]⟩


/-- Is this a part, its length ahead, of room m? -/
def partB (c : Int) (t : List Int) (m : Nat) : Bool := decide (c ≤ m) && zerosB ((t.take m).drop c.toNat)
/-- Its text. -/
def partS (c : Int) (t : List Int) : ByteArray := bstr (t.take c.toNat)

theorem Pt.cut {w : World} {b off cap n : Nat} {l : List Int} (h : Pt w (.slice (some ⟨b, off, none⟩) n cap) l) {k m : Nat} (hk : k ≤ n) {off' c' : Nat} (ho : k < n → off' = off + k) (hm : m = n - k) (hc : m ≤ c') : Pt w (.slice (some ⟨b, off', none⟩) m c') (l.drop k) := by
  obtain ⟨b', o', cap', e, h1, h2, h3⟩ := h
  have e1 : b' = b ∧ o' = off ∧ l.length = n ∧ cap' = cap := by
    injection e with e1 e2 e3
    injection e1 with e1
    injection e1 with e1 e4
    exact ⟨e1.symm, e4.symm, e2.symm, e3.symm⟩
  obtain ⟨rfl, rfl, rfl, rfl⟩ := e1
  have hl : (l.drop k).length = m := by rw [List.length_drop]; omega
  refine ⟨b', off', c', by rw [hl], by omega, h2, fun j hj => ?_⟩
  rw [List.length_drop] at hj
  rw [ho (by omega), List.getElem_drop, Nat.add_assoc]
  exact h3 (k + j) (by omega)
theorem Pt.first {w : World} {b off cap n : Nat} {l : List Int} (h : Pt w (.slice (some ⟨b, off, none⟩) n cap) l) {k c' : Nat} (hk : k ≤ n) (hc : k ≤ c') : Pt w (.slice (some ⟨b, off, none⟩) k c') (l.take k) := by
  obtain ⟨b', o', cap', e, h1, h2, h3⟩ := h
  have e1 : b' = b ∧ o' = off ∧ l.length = n ∧ cap' = cap := by
    injection e with e1 e2 e3
    injection e1 with e1
    injection e1 with e1 e4
    exact ⟨e1.symm, e4.symm, e2.symm, e3.symm⟩
  obtain ⟨rfl, rfl, rfl, rfl⟩ := e1
  have hl : (l.take k).length = k := by rw [List.length_take]; omega
  refine ⟨b', o', c', by rw [hl], by omega, h2, fun j hj => ?_⟩
  rw [hl] at hj
  rw [List.getElem_take]
  exact h3 j (by omega)
theorem Pt.lenEq {w : World} {A : Option Addr} {n cap : Nat} {l : List Int} (h : Pt w (.slice A n cap) l) : l.length = n ∧ n ≤ cap := by
  obtain ⟨b', o', cap', e, h1, h2, h3⟩ := h
  injection e with e1 e2 e3
  omega

def partR (c : Int) (t : List Int) (m : Nat) : ByteArray := if partB c t m = true then partS c t else ⟨#[]⟩
def Cut (w : World) (s : ByteArray) (ok : Bool) (t : List Int) (e : Ending) (w' : World) : Prop := ∃ r n', e = .returned (.tuple #[.string s, r, .bool ok]) ∧ Pt w' r t ∧ w' = w.drewN n'





end Go.Proofs.Ytmijdjlpfjfjoaa
